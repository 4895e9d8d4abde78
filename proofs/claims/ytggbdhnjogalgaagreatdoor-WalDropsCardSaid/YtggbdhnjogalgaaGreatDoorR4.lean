/- DiskRef9, DiskRef10, WalPut2: merged. -/
import Derived.Test.YtggbdhnjogalgaaGreatDoorR3
import Derived.Deep.DeepCutAuto
import Derived.Outline
/- Contracts: the document's Append, where it is done. -/
namespace Go.Proofs.YtggbdhnjogalgaaGreatDoor
set_option maxRecDepth 100000
open Go.RowKit Dkm
set_option linter.unusedVariables false

theorem Files.grown {w w' : World} {A : Option Addr} {n : Nat} {l : List Fil} {row : Option Nat} (h : Files w A n l) (hg : w.grownBy w' row) (hne : ∀ ad, A = some ad → some ad.block ≠ row) : Files w' A n l := by
  refine ⟨h.1, fun j u hu => ?_⟩
  obtain ⟨a, e, hb, hc⟩ := h.2 j u hu
  have hblk : (a.add j).block = a.block := by unfold Addr.add; split <;> rfl
  exact ⟨a, e, Nat.lt_of_lt_of_le hb hg.size, hg.cell hc (by rw [hblk]; exact hne a e)⟩

/-- 'append(own, more...)' as one step of a region that draws; only the own block has turned. -/
theorem step_appF {ops : Array Oper} {o : Oper} {a : Act} {w : World} {K : Act → World → Prop} {R : Exit → Act → World → Prop} {E : Prop} (hgd : o.guard = none) (s x : Operand)
    (ho : o.op = .call { callee := .builtin .append, args := #[s, x], argTypes := #[22, 22] })
    (base : Nat) (A : Option Addr) (n c : Nat) (l : List Fil) (hs : a.eval s = .slice A n c) (h : Own w base A n c l) (A2 : Option Addr) (m c2 : Nat) (l2 : List Fil) (hx : a.eval x = .slice A2 m c2) (h2 : Files w A2 m l2) (hnil : A2 = none → m = 0 ∧ c2 = 0)
    (hb : (n + m) * 48 ≤ 140737488355328) (hbase : base ≤ w.heap.size) (k : Nat) (hk : n + m = k) (l' : List Fil) (hl : l ++ l2 = l')
    (hK : ∀ A' c' w', Own w' base A' k c' l' → w.grownBy w' (Value.slice A n c).ownBlock → Below base w w' → K (a.put o.dst (.slice A' k c')) w') :
    if Region.wanted o (yielded ops a.tmps) = true then Oper.wp Tryz.prog o a w K R else E := by
  subst hk hl
  rw [if_pos (wanted_plain hgd)]
  refine wp_appG 22 s x ho base 42 _ 3 48 Tryz.underlying22 file_info rfl (by omega) A n c (rows l) hs h A2 m c2 (rows l2) hx h2.1
    (fun j u hu => by obtain ⟨a', e, _, hc⟩ := h2.2 j u hu; exact ⟨a', e, hc⟩) (rows_one l2) hnil (by unfold maxLen; omega) hb hbase ?_
  intro A' c' w' h3 h4 h5
  rw [← rows_append] at h3
  refine hK A' c' w' h3 h4 (below_grown h4 hbase fun k hk => ?_)
  rcases Own.parts h with ⟨rfl, _⟩ | ⟨g, cur, rfl, hb, _⟩
  · cases hk
  · simp only [Value.ownBlock, Option.some.injEq] at hk; omega

section
variable {w wr : World} {A : Option Addr} {n c : Nat} {room fuse : Int} {off : Bool}
theorem Sb.setFiles (h : Sb w A n c room fuse off wr) (A2 : Option Addr) (n2 c2 : Nat) : Sb w A2 n2 c2 room fuse off (wr.setCell ⟨w.heap.size, 0, none⟩ (.slice A2 n2 c2)) :=
  ⟨h.box.set (k := 0) (by simp) _, h.res.far (p := ⟨w.heap.size, 0, none⟩) (by simp) _, h.q.setCell (p := ⟨w.heap.size, 0, none⟩) (Nat.le_refl _) _⟩
theorem Sb.far1 (h : Sb w A n c room fuse off wr) {g : Nat} (hg : w.heap.size + 1 < g) (k : Nat) (x : Value) : Sb w A n c room fuse off (wr.setCell ⟨g, k, none⟩ x) :=
  ⟨h.box.far (p := ⟨g, k, none⟩) (by simp only; omega) _, h.res.far (p := ⟨g, k, none⟩) (by simp only; omega) _, h.q.setCell (p := ⟨g, k, none⟩) (by simp only; omega) _⟩
theorem Sb.setRoom (h : Sb w A n c room fuse off wr) (x : Int) : Sb w A n c x fuse off (wr.setCell ⟨w.heap.size, 1, none⟩ (.int .i64 x)) :=
  ⟨h.box.set (k := 1) (by simp) _, h.res.far (p := ⟨w.heap.size, 1, none⟩) (by simp) _, h.q.setCell (p := ⟨w.heap.size, 1, none⟩) (Nat.le_refl _) _⟩
theorem Sb.setFuse (h : Sb w A n c room fuse off wr) (x : Int) : Sb w A n c room x off (wr.setCell ⟨w.heap.size, 2, none⟩ (.int .i64 x)) :=
  ⟨h.box.set (k := 2) (by simp) _, h.res.far (p := ⟨w.heap.size, 2, none⟩) (by simp) _, h.q.setCell (p := ⟨w.heap.size, 2, none⟩) (Nat.le_refl _) _⟩
theorem Sb.setOff (h : Sb w A n c room fuse off wr) (x : Bool) : Sb w A n c room fuse x (wr.setCell ⟨w.heap.size, 3, none⟩ (.bool x)) :=
  ⟨h.box.set (k := 3) (by simp) _, h.res.far (p := ⟨w.heap.size, 3, none⟩) (by simp) _, h.q.setCell (p := ⟨w.heap.size, 3, none⟩) (Nat.le_refl _) _⟩
theorem own_ne {w : World} {base : Nat} {A : Option Addr} {n c : Nat} {l : List Fil} (h : Own w base A n c l) {g : Nat} (hg : g < base) : ∀ ad, A = some ad → ad.block ≠ g := by
  intro ad e
  rcases h.parts with ⟨e', _⟩ | ⟨g', _, e', hb, _⟩
  · rw [e'] at e; cases e
  · rw [e'] at e; injection e with e; subst e; simp only; omega
/-- behind region 15. -/
def C15 (w W : World) (g n : Nat) (room fuse : Int) (nm : ByteArray) (L : List Fil) (s8 : Value) (wx : World) : Prop :=
  ∃ A2 c2, s8 = .int .i64 n ∧ Sb w A2 (n + 1) c2 room fuse false wx ∧ Own wx W.heap.size A2 (n + 1) c2 L ∧ Bx wx g [.string nm, .string ⟨#[]⟩, .string ⟨#[]⟩]
theorem leaf15 {W w2 : World} {g : Nat} {nm : ByteArray} {L : List Fil} {A2 : Option Addr} {c2 : Nat} (hB : Bx W g [.string nm, .string ⟨#[]⟩, .string ⟨#[]⟩]) (hS : Sb w A n c room fuse false W) (hg : w.heap.size + 1 < g) (q : Below W.heap.size W w2) (ho : Own w2 W.heap.size A2 (n + 1) c2 L) :
    C15 w W g n room fuse nm L (.int .i64 n) (w2.setCell ⟨w.heap.size, 0, none⟩ (.slice A2 (n + 1) c2)) := by
  have hlt := hB.lt
  exact ⟨A2, c2, rfl, (hS.step q).setFiles A2 (n + 1) c2, ho.setCell (p := ⟨w.heap.size, 0, none⟩) (by simp only; omega) _, (hB.q q).far (p := ⟨w.heap.size, 0, none⟩) (by simp only; omega) _⟩

/-- the boxes, and the list, behind 'with'. -/
structure Sd (w : World) (A : Option Addr) (n c : Nat) (room fuse : Int) (off : Bool) (L : List Fil) (wr : World) : Prop where
  sb : Sb w A n c room fuse off wr
  own : Own wr (w.heap.size + 2) A n c L
variable {L : List Fil}
theorem Sd.setRoom (h : Sd w A n c room fuse off L wr) (x : Int) : Sd w A n c x fuse off L (wr.setCell ⟨w.heap.size, 1, none⟩ (.int .i64 x)) := ⟨h.sb.setRoom x, h.own.setCell (p := ⟨w.heap.size, 1, none⟩) (by simp) _⟩
theorem Sd.setFuse (h : Sd w A n c room fuse off L wr) (x : Int) : Sd w A n c room x off L (wr.setCell ⟨w.heap.size, 2, none⟩ (.int .i64 x)) := ⟨h.sb.setFuse x, h.own.setCell (p := ⟨w.heap.size, 2, none⟩) (by simp) _⟩
theorem Sd.setOff (h : Sd w A n c room fuse off L wr) (x : Bool) : Sd w A n c room fuse x L (wr.setCell ⟨w.heap.size, 3, none⟩ (.bool x)) := ⟨h.sb.setOff x, h.own.setCell (p := ⟨w.heap.size, 3, none⟩) (by simp) _⟩
theorem Sd.new {w5 : World} {A0 : Option Addr} {n0 c0 : Nat} (h : Sb w A0 n0 c0 room fuse off wr) (q : Q wr w5) (ho : Own w5 wr.heap.size A n c L) :
    Sd w A n c room fuse off L ((((w5.setCell ⟨w.heap.size, 0, none⟩ (.slice A n c)).setCell ⟨w.heap.size, 1, none⟩ (.int .i64 room)).setCell ⟨w.heap.size, 2, none⟩ (.int .i64 fuse)).setCell ⟨w.heap.size, 3, none⟩ (.bool off)) :=
  ⟨(h.step q).put4 A n c room fuse off, (ho.lower (by have := h.res.lt; omega)).set4 (b := w.heap.size) (by omega) _ _ _ _⟩
theorem Sd.endK (h : Sd w A n c room fuse off L wr) (hn : n * 48 ≤ 140737488355328) {A0 : Option Addr} {n0 : Nat} (er : Int) (x y z u : Value) : RetDK w A0 n0 ⟨L, room, fuse, off⟩ er (.returned (.tuple #[dkv A n c room fuse off, .int .i64 er])) ((((wr.setCell ⟨w.heap.size + 1, 0, none⟩ x).setCell ⟨w.heap.size + 1, 1, none⟩ y).setCell ⟨w.heap.size + 1, 2, none⟩ z).setCell ⟨w.heap.size + 1, 3, none⟩ u) :=
  ⟨A, n, c, rfl, (h.own.set4 (b := w.heap.size + 1) (by omega) _ _ _ _).dsk hn, .inr (fun ad e => by
    rcases h.own.2 with ⟨e', _⟩ | ⟨g, cap, cur, e', hb, _⟩
    · simp only [Value.slice.injEq] at e'; rw [e'.1] at e; cases e
    · simp only [Value.slice.injEq] at e'; rw [e'.1] at e; injection e with e; subst e; simp only; omega), h.sb.q.set4 (b := w.heap.size + 1) (by omega) _ _ _ _⟩
end

set_option maxRecDepth 100000 in
set_option maxHeartbeats 8000000 in
theorem ref_app_none_neg (nm s : ByteArray) (A : Option Addr) (n c : Nat) (room fuse : Int) (l : List Fil) (w : World) (hd : Dsk w A n c l) (hk : nmOk nm = true) (p : Int) (hp : plc nm l 0 = p) (h0 : p < 0) (hn64 : n < 64) (hr : (s.size : Int) ≤ room) (hs : s.size ≤ 2305843009213693952) (hfu : fuse < 0) (hrm : room ≤ 9223372036854775807) (hsum : s.size ≤ 65536) :
    Calls Tryz.prog 42 #[dkv A n c room fuse false, .string nm, .string s] w fun e w' => RetDK w A n ⟨(l ++ [(⟨nm, ⟨#[]⟩, ⟨#[]⟩⟩ : Fil)]).set n ⟨nm, ⟨#[]⟩, ⟨#[]⟩ ++ s⟩, room - (s.size : Nat), fuse, false⟩ 0 e w' := by
  have hnm := hd.max
  unfold maxLen at hnm
  have hfew := hd.few
  have HD := Lib.hid hd
  have HP := Lib.hid hp
  clear hd hp
  obtain ⟨o1, o2⟩ := nmOk_yes hk
  have o3 : ¬ (nm.size : Int) < 1 := by omega
  have o4 : ¬ room < (s.size : Int) := by omega
  clear hk
  have S0 := Lib.hid (Sb.new w A n c room fuse false)
  have q4 : ¬ (64 : Int) ≤ (n : Int) := by omega
  go_enter Tryz.func42, Tryz.ntmps42
  go_wp2_with fail
  refine (ref_at nm A n c room fuse false l _ (HD.out.files.q S0.out.q) HD.out.max).mono ?_
  rw [HP.out]
  rintro e w1 ⟨rfl, q1⟩
  have S1 := Lib.hid (S0.out.step q1)
  clear S0 q1
  obtain ⟨⟨e0, e1, e2, e3⟩, f0, f1, f2, f3⟩ := S1.out.get
  have z0 : w.heap.size + 1 < w1.heap.size := S1.out.res.lt
  go_upto_region 11 with (fail)
  have B1 := Lib.hid (And.intro (Bx.new w1 [.string nm, .string ⟨#[]⟩, .string ⟨#[]⟩] 42) (S1.out.step ((Q.refl _).alloc (.cells #[.string nm, .string ⟨#[]⟩, .string ⟨#[]⟩] 42))))
  generalize (w1.alloc (.cells #[.string nm, .string ⟨#[]⟩, .string ⟨#[]⟩] 42)) = W at B1 ⊢
  generalize w1.heap.size = g at B1 z0 ⊢
  clear e0 e1 e2 e3 f0 f1 f2 f3
  obtain ⟨⟨b0, b1, b2⟩, _⟩ := B1.out.1.get3
  obtain ⟨⟨e0, e1, e2, e3⟩, f0, f1, f2, f3⟩ := B1.out.2.get
  go_upto_region 15 with (fail)
  go_cut [8] (fun s8 wx => C15 w W g n room fuse nm (l ++ [⟨nm, ⟨#[]⟩, ⟨#[]⟩⟩]) s8 wx)
  case first =>
    have W0 := Lib.hid (Q.refl W)
    refine wp_region_heldL 8 (Q W) (by kernel_rfl) ?szz0 (fun hHeld => ?rzz0)
    case szz0 =>
      exact (Q.refl W).drew
    case' rzz0 => skip
    refine wpAnyL_take (i := 1) (oi := ?ozz1) (v := ?vzz1) ?hzz1 ?azz1 ?bzz1 ?czz1 ?kzz1 ?qzz1 ?yzz1 ?szz1 ?rzz1
    case hzz1 => simp only [List.getElem?_toArray, List.getElem?_cons_zero, List.getElem?_cons_succ]; rfl
    case azz1 => kernel_rfl
    case bzz1 => kernel_rfl
    case czz1 => kernel_rfl
    case kzz1 => kernel_rfl
    case yzz1 =>
      refine Or.inl ⟨by rfl, ?_⟩
      intro w hSw
      have x0 := box_ hSw e0; have x1 := box_ hSw b0; have x2 := box_ hSw b1; have x3 := box_ hSw b2; clear hSw
      go_simp
      try with_reducible rfl
    case qzz1 => exact fun _ _ _ h => h
    case szz1 => assumption
    case' rzz1 => simp only [Act.put, List.setIfInBounds_toArray, List.set_cons_zero, List.set_cons_succ]
    refine wpAnyL_take (i := 2) (oi := ?ozz2) (v := ?vzz2) ?hzz2 ?azz2 ?bzz2 ?czz2 ?kzz2 ?qzz2 ?yzz2 ?szz2 ?rzz2
    case hzz2 => simp only [List.getElem?_toArray, List.getElem?_cons_zero, List.getElem?_cons_succ]; rfl
    case azz2 => kernel_rfl
    case bzz2 => kernel_rfl
    case czz2 => kernel_rfl
    case kzz2 => kernel_rfl
    case yzz2 =>
      refine Or.inl ⟨by rfl, ?_⟩
      intro w hSw
      have x0 := box_ hSw e0; have x1 := box_ hSw b0; have x2 := box_ hSw b1; have x3 := box_ hSw b2; clear hSw
      go_simp
      try with_reducible rfl
    case qzz2 => exact fun _ _ _ h => h
    case szz2 => assumption
    case' rzz2 => simp only [Act.put, List.setIfInBounds_toArray, List.set_cons_zero, List.set_cons_succ]
    refine wpAnyL_take (i := 4) (oi := ?ozz3) (v := ?vzz3) ?hzz3 ?azz3 ?bzz3 ?czz3 ?kzz3 ?qzz3 ?yzz3 ?szz3 ?rzz3
    case hzz3 => simp only [List.getElem?_toArray, List.getElem?_cons_zero, List.getElem?_cons_succ]; rfl
    case azz3 => kernel_rfl
    case bzz3 => kernel_rfl
    case czz3 => kernel_rfl
    case kzz3 => kernel_rfl
    case yzz3 =>
      refine Or.inl ⟨by rfl, ?_⟩
      intro w hSw
      have x0 := box_ hSw e0; have x1 := box_ hSw b0; have x2 := box_ hSw b1; have x3 := box_ hSw b2; clear hSw
      go_simp
      try with_reducible rfl
    case qzz3 => exact fun _ _ _ h => h
    case szz3 => assumption
    case' rzz3 => simp only [Act.put, List.setIfInBounds_toArray, List.set_cons_zero, List.set_cons_succ]
    refine wpAnyL_ready (rs := [0, 5]) (by kernel_rfl) (by simp) ?_
    refine AllReadyL.cons (o := ?ozz19) ?hzz19 (fun K hK => ?kzz19) ?mzz19
    case hzz19 => simp only [List.getElem?_toArray, List.getElem?_cons_zero]; rfl
    case kzz19 =>
      go_simp
      refine hK.out _ _ ?Szz19 (fun hHeld => ?Rzz19)
      case Szz19 =>
        exact (by repeat (first | exact Q.refl _ | refine Q.drew ?_ | refine Q.alloc ?_ _))
      case Rzz19 =>
        clear hK K
        try simp only [Act.put, List.setIfInBounds_toArray, List.set_cons_zero, List.set_cons_succ]
        refine wpAnyL_ready (rs := [3, 5]) (by kernel_rfl) (by simp) ?_
        refine AllReadyL.cons (o := ?ozz12) ?hzz12 (fun K hK => ?kzz12) ?mzz12
        case hzz12 => simp only [List.getElem?_toArray, List.getElem?_cons_zero, List.getElem?_cons_succ]; rfl
        case kzz12 =>
          refine step_appF (by rfl) _ _ (by rfl) W.heap.size (some ⟨W.heap.size, 0, none⟩) 0 0 [] (by rfl) ((own_lit0 W W.heap.size (Nat.le_refl _)).q (by repeat (first | exact Q.refl _ | refine Q.drew ?_ | refine Q.alloc ?_ _))) A n c l (by rfl) (HD.out.files.q (B1.out.2.q.trans (by repeat (first | exact Q.refl _ | refine Q.drew ?_ | refine Q.alloc ?_ _)))) HD.out.nil (by omega) (by simp; try omega) n (Nat.zero_add n) l rfl ?_
          intro A1 c1 w1 ho1 hg1 hb1
          refine hK.out _ _ ?Szz12 (fun hHeld => ?Rzz12)
          case Szz12 =>
            exact (show Q W _ from (by repeat (first | exact Q.refl _ | refine Q.drew ?_ | refine Q.alloc ?_ _))).below.trans hb1
          case Rzz12 =>
            clear hK K
            try simp only [Act.put, List.setIfInBounds_toArray, List.set_cons_zero, List.set_cons_succ]
            have BW := hHeld
            refine wpAnyL_ready (rs := [5]) (by kernel_rfl) (by simp) ?_
            refine AllReadyL.cons (o := ?ozz7) ?hzz7 (fun K hK => ?kzz7) ?mzz7
            case hzz7 => simp only [List.getElem?_toArray, List.getElem?_cons_zero, List.getElem?_cons_succ]; rfl
            case kzz7 =>
              go_simp
              refine hK.out _ _ ?Szz7 (fun hHeld => ?Rzz7)
              case Szz7 =>
                exact BW.alloc _
              case Rzz7 =>
                clear hK K
                try simp only [Act.put, List.setIfInBounds_toArray, List.set_cons_zero, List.set_cons_succ]
                refine wpAnyL_ready (rs := [6]) (by kernel_rfl) (by simp) ?_
                refine AllReadyL.cons (o := ?ozz6) ?hzz6 (fun K hK => ?kzz6) ?mzz6
                case hzz6 => simp only [List.getElem?_toArray, List.getElem?_cons_zero, List.getElem?_cons_succ]; rfl
                case kzz6 =>
                  refine step_appF (by rfl) _ _ (by rfl) W.heap.size A1 n c1 l (by rfl) (ho1.alloc _) (some ⟨w1.heap.size, 0, none⟩) 1 1 [⟨nm, ⟨#[]⟩, ⟨#[]⟩⟩] (by rfl) (files_lit1 w1 ⟨nm, ⟨#[]⟩, ⟨#[]⟩⟩) (fun e => by cases e) (by omega) (by have := BW.size; (try simp only [World.size_alloc]); omega) (n + 1) rfl (l ++ [⟨nm, ⟨#[]⟩, ⟨#[]⟩⟩]) rfl ?_
                  intro A2 c2 w2 ho2 hg2 hb2
                  refine hK.out _ _ ?Szz6 (fun hHeld => ?Rzz6)
                  case Szz6 =>
                    exact (BW.alloc _).below.trans hb2
                  case Rzz6 =>
                    clear hK K
                    try simp only [Act.put, List.setIfInBounds_toArray, List.set_cons_zero, List.set_cons_succ]
                    refine wpAnyL_take (i := 7) (oi := ?ozz4) (v := ?vzz4) ?hzz4 ?azz4 ?bzz4 ?czz4 ?kzz4 ?qzz4 ?yzz4 ?szz4 ?rzz4
                    case hzz4 => simp only [List.getElem?_toArray, List.getElem?_cons_zero, List.getElem?_cons_succ]; rfl
                    case azz4 => kernel_rfl
                    case bzz4 => kernel_rfl
                    case czz4 => kernel_rfl
                    case kzz4 => kernel_rfl
                    case yzz4 =>
                      refine Or.inl ⟨by rfl, ?_⟩
                      intro w hSw
                      have x0 := box_ hSw e0; have x1 := box_ hSw b0; have x2 := box_ hSw b1; have x3 := box_ hSw b2; clear hSw
                      go_simp
                      try with_reducible rfl
                    case qzz4 => exact fun _ _ _ h => h
                    case szz4 => assumption
                    case' rzz4 => simp only [Act.put, List.setIfInBounds_toArray, List.set_cons_zero, List.set_cons_succ]
                    refine wpAnyL_ready (rs := [8]) (by kernel_rfl) (by simp) ?_
                    refine AllReadyL.consK (o := ?ozz5) ?hzz5 ?lzz5 (fun K hK => ?kzz5) ?mzz5
                    case hzz5 => simp only [List.getElem?_toArray, List.getElem?_cons_zero, List.getElem?_cons_succ]; rfl
                    case lzz5 => kernel_rfl
                    case kzz5 =>
                      obtain ⟨⟨x0, x1, x2, x3⟩, y0, y1, y2, y3⟩ := (B1.out.2.step hHeld).get
                      go_simp
                      refine hK.out _ _ ?Rzz5
                      case Rzz5 =>
                        clear hK K
                        try simp only [Act.put, List.setIfInBounds_toArray, List.set_cons_zero, List.set_cons_succ]
                        refine wpAnyH_done (by kernel_rfl) ?_ _
                        go_wp2_with fail
                        go_meet
                        exact leaf15 B1.out.1 B1.out.2 z0 hHeld ho2
                    case' mzz5 => skip
                    exact AllReadyL.nil
                case' mzz6 => skip
                exact AllReadyL.nil
            case' mzz7 => skip
            exact AllReadyL.nil
        case' mzz12 => skip
        refine AllReadyL.cons (o := ?ozz13) ?hzz13 (fun K hK => ?kzz13) ?mzz13
        case hzz13 => simp only [List.getElem?_toArray, List.getElem?_cons_zero, List.getElem?_cons_succ]; rfl
        case kzz13 =>
          go_simp
          refine hK.out _ _ ?Szz13 (fun hHeld => ?Rzz13)
          case Szz13 =>
            exact (by repeat (first | exact Q.refl _ | refine Q.drew ?_ | refine Q.alloc ?_ _))
          case Rzz13 =>
            clear hK K
            try simp only [Act.put, List.setIfInBounds_toArray, List.set_cons_zero, List.set_cons_succ]
            refine wpAnyL_ready (rs := [3]) (by kernel_rfl) (by simp) ?_
            refine AllReadyL.cons (o := ?ozz11) ?hzz11 (fun K hK => ?kzz11) ?mzz11
            case hzz11 => simp only [List.getElem?_toArray, List.getElem?_cons_zero, List.getElem?_cons_succ]; rfl
            case kzz11 =>
              refine step_appF (by rfl) _ _ (by rfl) W.heap.size (some ⟨W.heap.size, 0, none⟩) 0 0 [] (by rfl) ((own_lit0 W W.heap.size (Nat.le_refl _)).q (by repeat (first | exact Q.refl _ | refine Q.drew ?_ | refine Q.alloc ?_ _))) A n c l (by rfl) (HD.out.files.q (B1.out.2.q.trans (by repeat (first | exact Q.refl _ | refine Q.drew ?_ | refine Q.alloc ?_ _)))) HD.out.nil (by omega) (by simp; try omega) n (Nat.zero_add n) l rfl ?_
              intro A1 c1 w1 ho1 hg1 hb1
              refine hK.out _ _ ?Szz11 (fun hHeld => ?Rzz11)
              case Szz11 =>
                exact (show Q W _ from (by repeat (first | exact Q.refl _ | refine Q.drew ?_ | refine Q.alloc ?_ _))).below.trans hb1
              case Rzz11 =>
                clear hK K
                try simp only [Act.put, List.setIfInBounds_toArray, List.set_cons_zero, List.set_cons_succ]
                have BW := hHeld
                refine wpAnyL_ready (rs := [6]) (by kernel_rfl) (by simp) ?_
                refine AllReadyL.cons (o := ?ozz10) ?hzz10 (fun K hK => ?kzz10) ?mzz10
                case hzz10 => simp only [List.getElem?_toArray, List.getElem?_cons_zero, List.getElem?_cons_succ]; rfl
                case kzz10 =>
                  refine step_appF (by rfl) _ _ (by rfl) W.heap.size A1 n c1 l (by rfl) ho1 (some ⟨W.heap.size + 1, 0, none⟩) 1 1 [⟨nm, ⟨#[]⟩, ⟨#[]⟩⟩] (by rfl) (((show Files ((W.alloc (.cells #[] 42)).alloc (.cells #[.string nm, .string ⟨#[]⟩, .string ⟨#[]⟩] 42)) (some ⟨W.heap.size + 1, 0, none⟩) 1 [⟨nm, ⟨#[]⟩, ⟨#[]⟩⟩] by have := files_lit1 (W.alloc (.cells #[] 42)) ⟨nm, ⟨#[]⟩, ⟨#[]⟩⟩; simpa using this).q (by repeat (first | exact Q.refl _ | refine Q.drew ?_ | refine Q.alloc ?_ _))).grown hg1 (fun ad e => by injection e with e; subst e; simp [Value.ownBlock])) (fun e => by cases e) (by omega) (by have := BW.size; (try simp only [World.size_alloc]); omega) (n + 1) rfl (l ++ [⟨nm, ⟨#[]⟩, ⟨#[]⟩⟩]) rfl ?_
                  intro A2 c2 w2 ho2 hg2 hb2
                  refine hK.out _ _ ?Szz10 (fun hHeld => ?Rzz10)
                  case Szz10 =>
                    exact BW.below.trans hb2
                  case Rzz10 =>
                    clear hK K
                    try simp only [Act.put, List.setIfInBounds_toArray, List.set_cons_zero, List.set_cons_succ]
                    refine wpAnyL_take (i := 7) (oi := ?ozz8) (v := ?vzz8) ?hzz8 ?azz8 ?bzz8 ?czz8 ?kzz8 ?qzz8 ?yzz8 ?szz8 ?rzz8
                    case hzz8 => simp only [List.getElem?_toArray, List.getElem?_cons_zero, List.getElem?_cons_succ]; rfl
                    case azz8 => kernel_rfl
                    case bzz8 => kernel_rfl
                    case czz8 => kernel_rfl
                    case kzz8 => kernel_rfl
                    case yzz8 =>
                      refine Or.inl ⟨by rfl, ?_⟩
                      intro w hSw
                      have x0 := box_ hSw e0; have x1 := box_ hSw b0; have x2 := box_ hSw b1; have x3 := box_ hSw b2; clear hSw
                      go_simp
                      try with_reducible rfl
                    case qzz8 => exact fun _ _ _ h => h
                    case szz8 => assumption
                    case' rzz8 => simp only [Act.put, List.setIfInBounds_toArray, List.set_cons_zero, List.set_cons_succ]
                    refine wpAnyL_ready (rs := [8]) (by kernel_rfl) (by simp) ?_
                    refine AllReadyL.consK (o := ?ozz9) ?hzz9 ?lzz9 (fun K hK => ?kzz9) ?mzz9
                    case hzz9 => simp only [List.getElem?_toArray, List.getElem?_cons_zero, List.getElem?_cons_succ]; rfl
                    case lzz9 => kernel_rfl
                    case kzz9 =>
                      obtain ⟨⟨x0, x1, x2, x3⟩, y0, y1, y2, y3⟩ := (B1.out.2.step hHeld).get
                      go_simp
                      refine hK.out _ _ ?Rzz9
                      case Rzz9 =>
                        clear hK K
                        try simp only [Act.put, List.setIfInBounds_toArray, List.set_cons_zero, List.set_cons_succ]
                        refine wpAnyH_done (by kernel_rfl) ?_ _
                        go_wp2_with fail
                        go_meet
                        exact leaf15 B1.out.1 B1.out.2 z0 hHeld ho2
                    case' mzz9 => skip
                    exact AllReadyL.nil
                case' mzz10 => skip
                exact AllReadyL.nil
            case' mzz11 => skip
            exact AllReadyL.nil
        case' mzz13 => skip
        exact AllReadyL.nil
    case' mzz19 => skip
    refine AllReadyL.cons (o := ?ozz20) ?hzz20 (fun K hK => ?kzz20) ?mzz20
    case hzz20 => simp only [List.getElem?_toArray, List.getElem?_cons_zero, List.getElem?_cons_succ]; rfl
    case kzz20 =>
      go_simp
      refine hK.out _ _ ?Szz20 (fun hHeld => ?Rzz20)
      case Szz20 =>
        exact (by repeat (first | exact Q.refl _ | refine Q.drew ?_ | refine Q.alloc ?_ _))
      case Rzz20 =>
        clear hK K
        try simp only [Act.put, List.setIfInBounds_toArray, List.set_cons_zero, List.set_cons_succ]
        refine wpAnyL_ready (rs := [0]) (by kernel_rfl) (by simp) ?_
        refine AllReadyL.cons (o := ?ozz18) ?hzz18 (fun K hK => ?kzz18) ?mzz18
        case hzz18 => simp only [List.getElem?_toArray, List.getElem?_cons_zero]; rfl
        case kzz18 =>
          go_simp
          refine hK.out _ _ ?Szz18 (fun hHeld => ?Rzz18)
          case Szz18 =>
            exact (by repeat (first | exact Q.refl _ | refine Q.drew ?_ | refine Q.alloc ?_ _))
          case Rzz18 =>
            clear hK K
            try simp only [Act.put, List.setIfInBounds_toArray, List.set_cons_zero, List.set_cons_succ]
            refine wpAnyL_ready (rs := [3]) (by kernel_rfl) (by simp) ?_
            refine AllReadyL.cons (o := ?ozz17) ?hzz17 (fun K hK => ?kzz17) ?mzz17
            case hzz17 => simp only [List.getElem?_toArray, List.getElem?_cons_zero, List.getElem?_cons_succ]; rfl
            case kzz17 =>
              refine step_appF (by rfl) _ _ (by rfl) W.heap.size (some ⟨W.heap.size + 1, 0, none⟩) 0 0 [] (by rfl) ((show Own ((W.alloc (.cells #[.string nm, .string ⟨#[]⟩, .string ⟨#[]⟩] 42)).alloc (.cells #[] 42)) W.heap.size (some ⟨W.heap.size + 1, 0, none⟩) 0 0 [] by have := own_lit0 (W.alloc (.cells #[.string nm, .string ⟨#[]⟩, .string ⟨#[]⟩] 42)) W.heap.size (by simp); simpa using this).q (by repeat (first | exact Q.refl _ | refine Q.drew ?_ | refine Q.alloc ?_ _))) A n c l (by rfl) (HD.out.files.q (B1.out.2.q.trans (by repeat (first | exact Q.refl _ | refine Q.drew ?_ | refine Q.alloc ?_ _)))) HD.out.nil (by omega) (by simp; try omega) n (Nat.zero_add n) l rfl ?_
              intro A1 c1 w1 ho1 hg1 hb1
              refine hK.out _ _ ?Szz17 (fun hHeld => ?Rzz17)
              case Szz17 =>
                exact (show Q W _ from (by repeat (first | exact Q.refl _ | refine Q.drew ?_ | refine Q.alloc ?_ _))).below.trans hb1
              case Rzz17 =>
                clear hK K
                try simp only [Act.put, List.setIfInBounds_toArray, List.set_cons_zero, List.set_cons_succ]
                have BW := hHeld
                refine wpAnyL_ready (rs := [6]) (by kernel_rfl) (by simp) ?_
                refine AllReadyL.cons (o := ?ozz16) ?hzz16 (fun K hK => ?kzz16) ?mzz16
                case hzz16 => simp only [List.getElem?_toArray, List.getElem?_cons_zero, List.getElem?_cons_succ]; rfl
                case kzz16 =>
                  refine step_appF (by rfl) _ _ (by rfl) W.heap.size A1 n c1 l (by rfl) ho1 (some ⟨W.heap.size, 0, none⟩) 1 1 [⟨nm, ⟨#[]⟩, ⟨#[]⟩⟩] (by rfl) ((((files_lit1 W ⟨nm, ⟨#[]⟩, ⟨#[]⟩⟩).q ((Q.refl _).alloc (.cells #[] 42))).q (by repeat (first | exact Q.refl _ | refine Q.drew ?_ | refine Q.alloc ?_ _))).grown hg1 (fun ad e => by injection e with e; subst e; simp [Value.ownBlock])) (fun e => by cases e) (by omega) (by have := BW.size; (try simp only [World.size_alloc]); omega) (n + 1) rfl (l ++ [⟨nm, ⟨#[]⟩, ⟨#[]⟩⟩]) rfl ?_
                  intro A2 c2 w2 ho2 hg2 hb2
                  refine hK.out _ _ ?Szz16 (fun hHeld => ?Rzz16)
                  case Szz16 =>
                    exact BW.below.trans hb2
                  case Rzz16 =>
                    clear hK K
                    try simp only [Act.put, List.setIfInBounds_toArray, List.set_cons_zero, List.set_cons_succ]
                    refine wpAnyL_take (i := 7) (oi := ?ozz14) (v := ?vzz14) ?hzz14 ?azz14 ?bzz14 ?czz14 ?kzz14 ?qzz14 ?yzz14 ?szz14 ?rzz14
                    case hzz14 => simp only [List.getElem?_toArray, List.getElem?_cons_zero, List.getElem?_cons_succ]; rfl
                    case azz14 => kernel_rfl
                    case bzz14 => kernel_rfl
                    case czz14 => kernel_rfl
                    case kzz14 => kernel_rfl
                    case yzz14 =>
                      refine Or.inl ⟨by rfl, ?_⟩
                      intro w hSw
                      have x0 := box_ hSw e0; have x1 := box_ hSw b0; have x2 := box_ hSw b1; have x3 := box_ hSw b2; clear hSw
                      go_simp
                      try with_reducible rfl
                    case qzz14 => exact fun _ _ _ h => h
                    case szz14 => assumption
                    case' rzz14 => simp only [Act.put, List.setIfInBounds_toArray, List.set_cons_zero, List.set_cons_succ]
                    refine wpAnyL_ready (rs := [8]) (by kernel_rfl) (by simp) ?_
                    refine AllReadyL.consK (o := ?ozz15) ?hzz15 ?lzz15 (fun K hK => ?kzz15) ?mzz15
                    case hzz15 => simp only [List.getElem?_toArray, List.getElem?_cons_zero, List.getElem?_cons_succ]; rfl
                    case lzz15 => kernel_rfl
                    case kzz15 =>
                      obtain ⟨⟨x0, x1, x2, x3⟩, y0, y1, y2, y3⟩ := (B1.out.2.step hHeld).get
                      go_simp
                      refine hK.out _ _ ?Rzz15
                      case Rzz15 =>
                        clear hK K
                        try simp only [Act.put, List.setIfInBounds_toArray, List.set_cons_zero, List.set_cons_succ]
                        refine wpAnyH_done (by kernel_rfl) ?_ _
                        go_wp2_with fail
                        go_meet
                        exact leaf15 B1.out.1 B1.out.2 z0 hHeld ho2
                    case' mzz15 => skip
                    exact AllReadyL.nil
                case' mzz16 => skip
                exact AllReadyL.nil
            case' mzz17 => skip
            exact AllReadyL.nil
        case' mzz18 => skip
        exact AllReadyL.nil
    case' mzz20 => skip
    exact AllReadyL.nil
  case rest =>
  obtain ⟨A2, c2, rfl, vS, vO, vB⟩ := hcut
  have n48 : (n + 1) * 48 ≤ 140737488355328 := by omega
  have HNE := Lib.hid (own_ne vO (g := g) B1.out.1.lt)
  have O1 := Lib.hid (vO.dsk n48)
  have B2 := Lib.hid (And.intro vB vS)
  clear vS vO vB B1 HD e0 e1 e2 e3 f0 f1 f2 f3 b0 b1 b2
  have B1 := B2
  clear B2
  have qk : n < n + 1 := by omega
  go_upto_region 16 with (fail)
  obtain ⟨⟨b0, b1, b2⟩, _⟩ := B1.out.1.get3
  obtain ⟨⟨e0, e1, e2, e3⟩, f0, f1, f2, f3⟩ := B1.out.2.get
  clear b0 b1 b2 e0 e1 e2 e3 f0 f1 f2 f3
  obtain ⟨⟨b0, b1, b2⟩, y0, y1, y2⟩ := B1.out.1.get3
  obtain ⟨⟨e0, e1, e2, e3⟩, f0, f1, f2, f3⟩ := B1.out.2.get
  have v0 : ¬ 0 ≤ fuse := by omega
  go_upto_region 19 with (fail)
  go_region
  all_goals
    go_upto_region 20 with (fail)

    have B2 := Lib.hid (And.intro ((B1.out.1.set (k := 2) (by simp) (.string (⟨#[]⟩ ++ s))).q (Q.refl _).drew) ((B1.out.2.far1 z0 2 (.string (⟨#[]⟩ ++ s))).step (Q.refl _).drew))
    have O2 := Lib.hid ((O1.out.away HNE.out 2 (.string (⟨#[]⟩ ++ s))).q (Q.refl _).drew)
    clear b0 b1 b2 y0 y1 y2 e0 e1 e2 e3 f0 f1 f2 f3 B1 O1 HNE
    generalize (wc.setCell ⟨g, 2, none⟩ (.string (⟨#[]⟩ ++ s))).drew = V at B2 O2 ⊢
    obtain ⟨⟨b0, b1, b2⟩, _⟩ := B2.out.1.get3
    obtain ⟨⟨e0, e1, e2, e3⟩, _⟩ := B2.out.2.get
    go_wp2_with fail
    refine (ref_with A2 (n + 1) c2 room fuse false n ⟨nm, ⟨#[]⟩, ⟨#[]⟩ ++ s⟩ (l ++ [(⟨nm, ⟨#[]⟩, ⟨#[]⟩⟩ : Fil)]) _ O2.out qk).mono ?_
    rintro e w5 ⟨A5, c5, rfl, ho5, q5⟩
    have D1 := Lib.hid (Sd.new B2.out.2 q5 ho5)
    have P1 := B2.out.2.step q5
    have hn5 : (n + 1) * 48 ≤ 140737488355328 := O2.out.few
    clear b0 b1 b2 e0 e1 e2 e3 B2 O2 ho5 q5
    obtain ⟨⟨e0, e1, e2, e3⟩, f0, f1, f2, f3⟩ := P1.get
    clear P1
    go_upto_region 21 with (fail)
    generalize ((((w5.setCell ⟨w.heap.size, 0, none⟩ (.slice A5 (n + 1) c5)).setCell ⟨w.heap.size, 1, none⟩ (.int .i64 room)).setCell ⟨w.heap.size, 2, none⟩ (.int .i64 fuse)).setCell ⟨w.heap.size, 3, none⟩ (.bool false)) = V1 at D1 ⊢
    clear e0 e1 e2 e3 f0 f1 f2 f3
    obtain ⟨⟨e0, e1, e2, e3⟩, f0, f1, f2, f3⟩ := D1.out.sb.get
    go_upto_region 22 with (fail)
    have D2 := Lib.hid (D1.out.setRoom (room - (s.size : Nat)))
    clear e0 e1 e2 e3 f0 f1 f2 f3 D1
    generalize (V1.setCell ⟨w.heap.size, 1, none⟩ (.int .i64 (room - (s.size : Nat)))) = V2 at D2 ⊢
    obtain ⟨⟨e0, e1, e2, e3⟩, f0, f1, f2, f3⟩ := D2.out.sb.get
    go_upto_region 24 with (fail)
    obtain ⟨⟨s0, s1, s2, s3⟩, h0', h1, h2, h3⟩ := D2.out.sb.getR
    go_wp2
    refine bodyPost_ret (v := .tuple #[dkv A5 (n + 1) c5 (room - (s.size : Nat)) fuse false, .int .i64 0]) (by simp [results, Tryz.results42, go_sem, s0, s1, s2, s3]) rfl ?_
    exact D2.out.endK hn5 0 _ _ _ _

set_option maxRecDepth 100000 in
set_option maxHeartbeats 8000000 in
theorem ref_app_none_fits (nm s : ByteArray) (A : Option Addr) (n c : Nat) (room fuse : Int) (l : List Fil) (w : World) (hd : Dsk w A n c l) (hk : nmOk nm = true) (p : Int) (hp : plc nm l 0 = p) (h0 : p < 0) (hn64 : n < 64) (hr : (s.size : Int) ≤ room) (hs : s.size ≤ 2305843009213693952) (hfu : (s.size : Int) ≤ fuse) (hfm : fuse ≤ 9223372036854775807) (hrm : room ≤ 9223372036854775807) (hsum : s.size ≤ 65536) :
    Calls Tryz.prog 42 #[dkv A n c room fuse false, .string nm, .string s] w fun e w' => RetDK w A n ⟨(l ++ [(⟨nm, ⟨#[]⟩, ⟨#[]⟩⟩ : Fil)]).set n ⟨nm, ⟨#[]⟩, ⟨#[]⟩ ++ s⟩, room - (s.size : Nat), fuse - (s.size : Nat), false⟩ 0 e w' := by
  have hnm := hd.max
  unfold maxLen at hnm
  have hfew := hd.few
  have HD := Lib.hid hd
  have HP := Lib.hid hp
  clear hd hp
  obtain ⟨o1, o2⟩ := nmOk_yes hk
  have o3 : ¬ (nm.size : Int) < 1 := by omega
  have o4 : ¬ room < (s.size : Int) := by omega
  clear hk
  have S0 := Lib.hid (Sb.new w A n c room fuse false)
  have q4 : ¬ (64 : Int) ≤ (n : Int) := by omega
  go_enter Tryz.func42, Tryz.ntmps42
  go_wp2_with fail
  refine (ref_at nm A n c room fuse false l _ (HD.out.files.q S0.out.q) HD.out.max).mono ?_
  rw [HP.out]
  rintro e w1 ⟨rfl, q1⟩
  have S1 := Lib.hid (S0.out.step q1)
  clear S0 q1
  obtain ⟨⟨e0, e1, e2, e3⟩, f0, f1, f2, f3⟩ := S1.out.get
  have z0 : w.heap.size + 1 < w1.heap.size := S1.out.res.lt
  go_upto_region 11 with (fail)
  have B1 := Lib.hid (And.intro (Bx.new w1 [.string nm, .string ⟨#[]⟩, .string ⟨#[]⟩] 42) (S1.out.step ((Q.refl _).alloc (.cells #[.string nm, .string ⟨#[]⟩, .string ⟨#[]⟩] 42))))
  generalize (w1.alloc (.cells #[.string nm, .string ⟨#[]⟩, .string ⟨#[]⟩] 42)) = W at B1 ⊢
  generalize w1.heap.size = g at B1 z0 ⊢
  clear e0 e1 e2 e3 f0 f1 f2 f3
  obtain ⟨⟨b0, b1, b2⟩, _⟩ := B1.out.1.get3
  obtain ⟨⟨e0, e1, e2, e3⟩, f0, f1, f2, f3⟩ := B1.out.2.get
  go_upto_region 15 with (fail)
  go_cut [8] (fun s8 wx => C15 w W g n room fuse nm (l ++ [⟨nm, ⟨#[]⟩, ⟨#[]⟩⟩]) s8 wx)
  case first =>
    have W0 := Lib.hid (Q.refl W)
    refine wp_region_heldL 8 (Q W) (by kernel_rfl) ?szz21 (fun hHeld => ?rzz21)
    case szz21 =>
      exact (Q.refl W).drew
    case' rzz21 => skip
    refine wpAnyL_take (i := 1) (oi := ?ozz22) (v := ?vzz22) ?hzz22 ?azz22 ?bzz22 ?czz22 ?kzz22 ?qzz22 ?yzz22 ?szz22 ?rzz22
    case hzz22 => simp only [List.getElem?_toArray, List.getElem?_cons_zero, List.getElem?_cons_succ]; rfl
    case azz22 => kernel_rfl
    case bzz22 => kernel_rfl
    case czz22 => kernel_rfl
    case kzz22 => kernel_rfl
    case yzz22 =>
      refine Or.inl ⟨by rfl, ?_⟩
      intro w hSw
      have x0 := box_ hSw e0; have x1 := box_ hSw b0; have x2 := box_ hSw b1; have x3 := box_ hSw b2; clear hSw
      go_simp
      try with_reducible rfl
    case qzz22 => exact fun _ _ _ h => h
    case szz22 => assumption
    case' rzz22 => simp only [Act.put, List.setIfInBounds_toArray, List.set_cons_zero, List.set_cons_succ]
    refine wpAnyL_take (i := 2) (oi := ?ozz23) (v := ?vzz23) ?hzz23 ?azz23 ?bzz23 ?czz23 ?kzz23 ?qzz23 ?yzz23 ?szz23 ?rzz23
    case hzz23 => simp only [List.getElem?_toArray, List.getElem?_cons_zero, List.getElem?_cons_succ]; rfl
    case azz23 => kernel_rfl
    case bzz23 => kernel_rfl
    case czz23 => kernel_rfl
    case kzz23 => kernel_rfl
    case yzz23 =>
      refine Or.inl ⟨by rfl, ?_⟩
      intro w hSw
      have x0 := box_ hSw e0; have x1 := box_ hSw b0; have x2 := box_ hSw b1; have x3 := box_ hSw b2; clear hSw
      go_simp
      try with_reducible rfl
    case qzz23 => exact fun _ _ _ h => h
    case szz23 => assumption
    case' rzz23 => simp only [Act.put, List.setIfInBounds_toArray, List.set_cons_zero, List.set_cons_succ]
    refine wpAnyL_take (i := 4) (oi := ?ozz24) (v := ?vzz24) ?hzz24 ?azz24 ?bzz24 ?czz24 ?kzz24 ?qzz24 ?yzz24 ?szz24 ?rzz24
    case hzz24 => simp only [List.getElem?_toArray, List.getElem?_cons_zero, List.getElem?_cons_succ]; rfl
    case azz24 => kernel_rfl
    case bzz24 => kernel_rfl
    case czz24 => kernel_rfl
    case kzz24 => kernel_rfl
    case yzz24 =>
      refine Or.inl ⟨by rfl, ?_⟩
      intro w hSw
      have x0 := box_ hSw e0; have x1 := box_ hSw b0; have x2 := box_ hSw b1; have x3 := box_ hSw b2; clear hSw
      go_simp
      try with_reducible rfl
    case qzz24 => exact fun _ _ _ h => h
    case szz24 => assumption
    case' rzz24 => simp only [Act.put, List.setIfInBounds_toArray, List.set_cons_zero, List.set_cons_succ]
    refine wpAnyL_ready (rs := [0, 5]) (by kernel_rfl) (by simp) ?_
    refine AllReadyL.cons (o := ?ozz40) ?hzz40 (fun K hK => ?kzz40) ?mzz40
    case hzz40 => simp only [List.getElem?_toArray, List.getElem?_cons_zero]; rfl
    case kzz40 =>
      go_simp
      refine hK.out _ _ ?Szz40 (fun hHeld => ?Rzz40)
      case Szz40 =>
        exact (by repeat (first | exact Q.refl _ | refine Q.drew ?_ | refine Q.alloc ?_ _))
      case Rzz40 =>
        clear hK K
        try simp only [Act.put, List.setIfInBounds_toArray, List.set_cons_zero, List.set_cons_succ]
        refine wpAnyL_ready (rs := [3, 5]) (by kernel_rfl) (by simp) ?_
        refine AllReadyL.cons (o := ?ozz33) ?hzz33 (fun K hK => ?kzz33) ?mzz33
        case hzz33 => simp only [List.getElem?_toArray, List.getElem?_cons_zero, List.getElem?_cons_succ]; rfl
        case kzz33 =>
          refine step_appF (by rfl) _ _ (by rfl) W.heap.size (some ⟨W.heap.size, 0, none⟩) 0 0 [] (by rfl) ((own_lit0 W W.heap.size (Nat.le_refl _)).q (by repeat (first | exact Q.refl _ | refine Q.drew ?_ | refine Q.alloc ?_ _))) A n c l (by rfl) (HD.out.files.q (B1.out.2.q.trans (by repeat (first | exact Q.refl _ | refine Q.drew ?_ | refine Q.alloc ?_ _)))) HD.out.nil (by omega) (by simp; try omega) n (Nat.zero_add n) l rfl ?_
          intro A1 c1 w1 ho1 hg1 hb1
          refine hK.out _ _ ?Szz33 (fun hHeld => ?Rzz33)
          case Szz33 =>
            exact (show Q W _ from (by repeat (first | exact Q.refl _ | refine Q.drew ?_ | refine Q.alloc ?_ _))).below.trans hb1
          case Rzz33 =>
            clear hK K
            try simp only [Act.put, List.setIfInBounds_toArray, List.set_cons_zero, List.set_cons_succ]
            have BW := hHeld
            refine wpAnyL_ready (rs := [5]) (by kernel_rfl) (by simp) ?_
            refine AllReadyL.cons (o := ?ozz28) ?hzz28 (fun K hK => ?kzz28) ?mzz28
            case hzz28 => simp only [List.getElem?_toArray, List.getElem?_cons_zero, List.getElem?_cons_succ]; rfl
            case kzz28 =>
              go_simp
              refine hK.out _ _ ?Szz28 (fun hHeld => ?Rzz28)
              case Szz28 =>
                exact BW.alloc _
              case Rzz28 =>
                clear hK K
                try simp only [Act.put, List.setIfInBounds_toArray, List.set_cons_zero, List.set_cons_succ]
                refine wpAnyL_ready (rs := [6]) (by kernel_rfl) (by simp) ?_
                refine AllReadyL.cons (o := ?ozz27) ?hzz27 (fun K hK => ?kzz27) ?mzz27
                case hzz27 => simp only [List.getElem?_toArray, List.getElem?_cons_zero, List.getElem?_cons_succ]; rfl
                case kzz27 =>
                  refine step_appF (by rfl) _ _ (by rfl) W.heap.size A1 n c1 l (by rfl) (ho1.alloc _) (some ⟨w1.heap.size, 0, none⟩) 1 1 [⟨nm, ⟨#[]⟩, ⟨#[]⟩⟩] (by rfl) (files_lit1 w1 ⟨nm, ⟨#[]⟩, ⟨#[]⟩⟩) (fun e => by cases e) (by omega) (by have := BW.size; (try simp only [World.size_alloc]); omega) (n + 1) rfl (l ++ [⟨nm, ⟨#[]⟩, ⟨#[]⟩⟩]) rfl ?_
                  intro A2 c2 w2 ho2 hg2 hb2
                  refine hK.out _ _ ?Szz27 (fun hHeld => ?Rzz27)
                  case Szz27 =>
                    exact (BW.alloc _).below.trans hb2
                  case Rzz27 =>
                    clear hK K
                    try simp only [Act.put, List.setIfInBounds_toArray, List.set_cons_zero, List.set_cons_succ]
                    refine wpAnyL_take (i := 7) (oi := ?ozz25) (v := ?vzz25) ?hzz25 ?azz25 ?bzz25 ?czz25 ?kzz25 ?qzz25 ?yzz25 ?szz25 ?rzz25
                    case hzz25 => simp only [List.getElem?_toArray, List.getElem?_cons_zero, List.getElem?_cons_succ]; rfl
                    case azz25 => kernel_rfl
                    case bzz25 => kernel_rfl
                    case czz25 => kernel_rfl
                    case kzz25 => kernel_rfl
                    case yzz25 =>
                      refine Or.inl ⟨by rfl, ?_⟩
                      intro w hSw
                      have x0 := box_ hSw e0; have x1 := box_ hSw b0; have x2 := box_ hSw b1; have x3 := box_ hSw b2; clear hSw
                      go_simp
                      try with_reducible rfl
                    case qzz25 => exact fun _ _ _ h => h
                    case szz25 => assumption
                    case' rzz25 => simp only [Act.put, List.setIfInBounds_toArray, List.set_cons_zero, List.set_cons_succ]
                    refine wpAnyL_ready (rs := [8]) (by kernel_rfl) (by simp) ?_
                    refine AllReadyL.consK (o := ?ozz26) ?hzz26 ?lzz26 (fun K hK => ?kzz26) ?mzz26
                    case hzz26 => simp only [List.getElem?_toArray, List.getElem?_cons_zero, List.getElem?_cons_succ]; rfl
                    case lzz26 => kernel_rfl
                    case kzz26 =>
                      obtain ⟨⟨x0, x1, x2, x3⟩, y0, y1, y2, y3⟩ := (B1.out.2.step hHeld).get
                      go_simp
                      refine hK.out _ _ ?Rzz26
                      case Rzz26 =>
                        clear hK K
                        try simp only [Act.put, List.setIfInBounds_toArray, List.set_cons_zero, List.set_cons_succ]
                        refine wpAnyH_done (by kernel_rfl) ?_ _
                        go_wp2_with fail
                        go_meet
                        exact leaf15 B1.out.1 B1.out.2 z0 hHeld ho2
                    case' mzz26 => skip
                    exact AllReadyL.nil
                case' mzz27 => skip
                exact AllReadyL.nil
            case' mzz28 => skip
            exact AllReadyL.nil
        case' mzz33 => skip
        refine AllReadyL.cons (o := ?ozz34) ?hzz34 (fun K hK => ?kzz34) ?mzz34
        case hzz34 => simp only [List.getElem?_toArray, List.getElem?_cons_zero, List.getElem?_cons_succ]; rfl
        case kzz34 =>
          go_simp
          refine hK.out _ _ ?Szz34 (fun hHeld => ?Rzz34)
          case Szz34 =>
            exact (by repeat (first | exact Q.refl _ | refine Q.drew ?_ | refine Q.alloc ?_ _))
          case Rzz34 =>
            clear hK K
            try simp only [Act.put, List.setIfInBounds_toArray, List.set_cons_zero, List.set_cons_succ]
            refine wpAnyL_ready (rs := [3]) (by kernel_rfl) (by simp) ?_
            refine AllReadyL.cons (o := ?ozz32) ?hzz32 (fun K hK => ?kzz32) ?mzz32
            case hzz32 => simp only [List.getElem?_toArray, List.getElem?_cons_zero, List.getElem?_cons_succ]; rfl
            case kzz32 =>
              refine step_appF (by rfl) _ _ (by rfl) W.heap.size (some ⟨W.heap.size, 0, none⟩) 0 0 [] (by rfl) ((own_lit0 W W.heap.size (Nat.le_refl _)).q (by repeat (first | exact Q.refl _ | refine Q.drew ?_ | refine Q.alloc ?_ _))) A n c l (by rfl) (HD.out.files.q (B1.out.2.q.trans (by repeat (first | exact Q.refl _ | refine Q.drew ?_ | refine Q.alloc ?_ _)))) HD.out.nil (by omega) (by simp; try omega) n (Nat.zero_add n) l rfl ?_
              intro A1 c1 w1 ho1 hg1 hb1
              refine hK.out _ _ ?Szz32 (fun hHeld => ?Rzz32)
              case Szz32 =>
                exact (show Q W _ from (by repeat (first | exact Q.refl _ | refine Q.drew ?_ | refine Q.alloc ?_ _))).below.trans hb1
              case Rzz32 =>
                clear hK K
                try simp only [Act.put, List.setIfInBounds_toArray, List.set_cons_zero, List.set_cons_succ]
                have BW := hHeld
                refine wpAnyL_ready (rs := [6]) (by kernel_rfl) (by simp) ?_
                refine AllReadyL.cons (o := ?ozz31) ?hzz31 (fun K hK => ?kzz31) ?mzz31
                case hzz31 => simp only [List.getElem?_toArray, List.getElem?_cons_zero, List.getElem?_cons_succ]; rfl
                case kzz31 =>
                  refine step_appF (by rfl) _ _ (by rfl) W.heap.size A1 n c1 l (by rfl) ho1 (some ⟨W.heap.size + 1, 0, none⟩) 1 1 [⟨nm, ⟨#[]⟩, ⟨#[]⟩⟩] (by rfl) (((show Files ((W.alloc (.cells #[] 42)).alloc (.cells #[.string nm, .string ⟨#[]⟩, .string ⟨#[]⟩] 42)) (some ⟨W.heap.size + 1, 0, none⟩) 1 [⟨nm, ⟨#[]⟩, ⟨#[]⟩⟩] by have := files_lit1 (W.alloc (.cells #[] 42)) ⟨nm, ⟨#[]⟩, ⟨#[]⟩⟩; simpa using this).q (by repeat (first | exact Q.refl _ | refine Q.drew ?_ | refine Q.alloc ?_ _))).grown hg1 (fun ad e => by injection e with e; subst e; simp [Value.ownBlock])) (fun e => by cases e) (by omega) (by have := BW.size; (try simp only [World.size_alloc]); omega) (n + 1) rfl (l ++ [⟨nm, ⟨#[]⟩, ⟨#[]⟩⟩]) rfl ?_
                  intro A2 c2 w2 ho2 hg2 hb2
                  refine hK.out _ _ ?Szz31 (fun hHeld => ?Rzz31)
                  case Szz31 =>
                    exact BW.below.trans hb2
                  case Rzz31 =>
                    clear hK K
                    try simp only [Act.put, List.setIfInBounds_toArray, List.set_cons_zero, List.set_cons_succ]
                    refine wpAnyL_take (i := 7) (oi := ?ozz29) (v := ?vzz29) ?hzz29 ?azz29 ?bzz29 ?czz29 ?kzz29 ?qzz29 ?yzz29 ?szz29 ?rzz29
                    case hzz29 => simp only [List.getElem?_toArray, List.getElem?_cons_zero, List.getElem?_cons_succ]; rfl
                    case azz29 => kernel_rfl
                    case bzz29 => kernel_rfl
                    case czz29 => kernel_rfl
                    case kzz29 => kernel_rfl
                    case yzz29 =>
                      refine Or.inl ⟨by rfl, ?_⟩
                      intro w hSw
                      have x0 := box_ hSw e0; have x1 := box_ hSw b0; have x2 := box_ hSw b1; have x3 := box_ hSw b2; clear hSw
                      go_simp
                      try with_reducible rfl
                    case qzz29 => exact fun _ _ _ h => h
                    case szz29 => assumption
                    case' rzz29 => simp only [Act.put, List.setIfInBounds_toArray, List.set_cons_zero, List.set_cons_succ]
                    refine wpAnyL_ready (rs := [8]) (by kernel_rfl) (by simp) ?_
                    refine AllReadyL.consK (o := ?ozz30) ?hzz30 ?lzz30 (fun K hK => ?kzz30) ?mzz30
                    case hzz30 => simp only [List.getElem?_toArray, List.getElem?_cons_zero, List.getElem?_cons_succ]; rfl
                    case lzz30 => kernel_rfl
                    case kzz30 =>
                      obtain ⟨⟨x0, x1, x2, x3⟩, y0, y1, y2, y3⟩ := (B1.out.2.step hHeld).get
                      go_simp
                      refine hK.out _ _ ?Rzz30
                      case Rzz30 =>
                        clear hK K
                        try simp only [Act.put, List.setIfInBounds_toArray, List.set_cons_zero, List.set_cons_succ]
                        refine wpAnyH_done (by kernel_rfl) ?_ _
                        go_wp2_with fail
                        go_meet
                        exact leaf15 B1.out.1 B1.out.2 z0 hHeld ho2
                    case' mzz30 => skip
                    exact AllReadyL.nil
                case' mzz31 => skip
                exact AllReadyL.nil
            case' mzz32 => skip
            exact AllReadyL.nil
        case' mzz34 => skip
        exact AllReadyL.nil
    case' mzz40 => skip
    refine AllReadyL.cons (o := ?ozz41) ?hzz41 (fun K hK => ?kzz41) ?mzz41
    case hzz41 => simp only [List.getElem?_toArray, List.getElem?_cons_zero, List.getElem?_cons_succ]; rfl
    case kzz41 =>
      go_simp
      refine hK.out _ _ ?Szz41 (fun hHeld => ?Rzz41)
      case Szz41 =>
        exact (by repeat (first | exact Q.refl _ | refine Q.drew ?_ | refine Q.alloc ?_ _))
      case Rzz41 =>
        clear hK K
        try simp only [Act.put, List.setIfInBounds_toArray, List.set_cons_zero, List.set_cons_succ]
        refine wpAnyL_ready (rs := [0]) (by kernel_rfl) (by simp) ?_
        refine AllReadyL.cons (o := ?ozz39) ?hzz39 (fun K hK => ?kzz39) ?mzz39
        case hzz39 => simp only [List.getElem?_toArray, List.getElem?_cons_zero]; rfl
        case kzz39 =>
          go_simp
          refine hK.out _ _ ?Szz39 (fun hHeld => ?Rzz39)
          case Szz39 =>
            exact (by repeat (first | exact Q.refl _ | refine Q.drew ?_ | refine Q.alloc ?_ _))
          case Rzz39 =>
            clear hK K
            try simp only [Act.put, List.setIfInBounds_toArray, List.set_cons_zero, List.set_cons_succ]
            refine wpAnyL_ready (rs := [3]) (by kernel_rfl) (by simp) ?_
            refine AllReadyL.cons (o := ?ozz38) ?hzz38 (fun K hK => ?kzz38) ?mzz38
            case hzz38 => simp only [List.getElem?_toArray, List.getElem?_cons_zero, List.getElem?_cons_succ]; rfl
            case kzz38 =>
              refine step_appF (by rfl) _ _ (by rfl) W.heap.size (some ⟨W.heap.size + 1, 0, none⟩) 0 0 [] (by rfl) ((show Own ((W.alloc (.cells #[.string nm, .string ⟨#[]⟩, .string ⟨#[]⟩] 42)).alloc (.cells #[] 42)) W.heap.size (some ⟨W.heap.size + 1, 0, none⟩) 0 0 [] by have := own_lit0 (W.alloc (.cells #[.string nm, .string ⟨#[]⟩, .string ⟨#[]⟩] 42)) W.heap.size (by simp); simpa using this).q (by repeat (first | exact Q.refl _ | refine Q.drew ?_ | refine Q.alloc ?_ _))) A n c l (by rfl) (HD.out.files.q (B1.out.2.q.trans (by repeat (first | exact Q.refl _ | refine Q.drew ?_ | refine Q.alloc ?_ _)))) HD.out.nil (by omega) (by simp; try omega) n (Nat.zero_add n) l rfl ?_
              intro A1 c1 w1 ho1 hg1 hb1
              refine hK.out _ _ ?Szz38 (fun hHeld => ?Rzz38)
              case Szz38 =>
                exact (show Q W _ from (by repeat (first | exact Q.refl _ | refine Q.drew ?_ | refine Q.alloc ?_ _))).below.trans hb1
              case Rzz38 =>
                clear hK K
                try simp only [Act.put, List.setIfInBounds_toArray, List.set_cons_zero, List.set_cons_succ]
                have BW := hHeld
                refine wpAnyL_ready (rs := [6]) (by kernel_rfl) (by simp) ?_
                refine AllReadyL.cons (o := ?ozz37) ?hzz37 (fun K hK => ?kzz37) ?mzz37
                case hzz37 => simp only [List.getElem?_toArray, List.getElem?_cons_zero, List.getElem?_cons_succ]; rfl
                case kzz37 =>
                  refine step_appF (by rfl) _ _ (by rfl) W.heap.size A1 n c1 l (by rfl) ho1 (some ⟨W.heap.size, 0, none⟩) 1 1 [⟨nm, ⟨#[]⟩, ⟨#[]⟩⟩] (by rfl) ((((files_lit1 W ⟨nm, ⟨#[]⟩, ⟨#[]⟩⟩).q ((Q.refl _).alloc (.cells #[] 42))).q (by repeat (first | exact Q.refl _ | refine Q.drew ?_ | refine Q.alloc ?_ _))).grown hg1 (fun ad e => by injection e with e; subst e; simp [Value.ownBlock])) (fun e => by cases e) (by omega) (by have := BW.size; (try simp only [World.size_alloc]); omega) (n + 1) rfl (l ++ [⟨nm, ⟨#[]⟩, ⟨#[]⟩⟩]) rfl ?_
                  intro A2 c2 w2 ho2 hg2 hb2
                  refine hK.out _ _ ?Szz37 (fun hHeld => ?Rzz37)
                  case Szz37 =>
                    exact BW.below.trans hb2
                  case Rzz37 =>
                    clear hK K
                    try simp only [Act.put, List.setIfInBounds_toArray, List.set_cons_zero, List.set_cons_succ]
                    refine wpAnyL_take (i := 7) (oi := ?ozz35) (v := ?vzz35) ?hzz35 ?azz35 ?bzz35 ?czz35 ?kzz35 ?qzz35 ?yzz35 ?szz35 ?rzz35
                    case hzz35 => simp only [List.getElem?_toArray, List.getElem?_cons_zero, List.getElem?_cons_succ]; rfl
                    case azz35 => kernel_rfl
                    case bzz35 => kernel_rfl
                    case czz35 => kernel_rfl
                    case kzz35 => kernel_rfl
                    case yzz35 =>
                      refine Or.inl ⟨by rfl, ?_⟩
                      intro w hSw
                      have x0 := box_ hSw e0; have x1 := box_ hSw b0; have x2 := box_ hSw b1; have x3 := box_ hSw b2; clear hSw
                      go_simp
                      try with_reducible rfl
                    case qzz35 => exact fun _ _ _ h => h
                    case szz35 => assumption
                    case' rzz35 => simp only [Act.put, List.setIfInBounds_toArray, List.set_cons_zero, List.set_cons_succ]
                    refine wpAnyL_ready (rs := [8]) (by kernel_rfl) (by simp) ?_
                    refine AllReadyL.consK (o := ?ozz36) ?hzz36 ?lzz36 (fun K hK => ?kzz36) ?mzz36
                    case hzz36 => simp only [List.getElem?_toArray, List.getElem?_cons_zero, List.getElem?_cons_succ]; rfl
                    case lzz36 => kernel_rfl
                    case kzz36 =>
                      obtain ⟨⟨x0, x1, x2, x3⟩, y0, y1, y2, y3⟩ := (B1.out.2.step hHeld).get
                      go_simp
                      refine hK.out _ _ ?Rzz36
                      case Rzz36 =>
                        clear hK K
                        try simp only [Act.put, List.setIfInBounds_toArray, List.set_cons_zero, List.set_cons_succ]
                        refine wpAnyH_done (by kernel_rfl) ?_ _
                        go_wp2_with fail
                        go_meet
                        exact leaf15 B1.out.1 B1.out.2 z0 hHeld ho2
                    case' mzz36 => skip
                    exact AllReadyL.nil
                case' mzz37 => skip
                exact AllReadyL.nil
            case' mzz38 => skip
            exact AllReadyL.nil
        case' mzz39 => skip
        exact AllReadyL.nil
    case' mzz41 => skip
    exact AllReadyL.nil
  case rest =>
  obtain ⟨A2, c2, rfl, vS, vO, vB⟩ := hcut
  have n48 : (n + 1) * 48 ≤ 140737488355328 := by omega
  have HNE := Lib.hid (own_ne vO (g := g) B1.out.1.lt)
  have O1 := Lib.hid (vO.dsk n48)
  have B2 := Lib.hid (And.intro vB vS)
  clear vS vO vB B1 HD e0 e1 e2 e3 f0 f1 f2 f3 b0 b1 b2
  have B1 := B2
  clear B2
  have qk : n < n + 1 := by omega
  go_upto_region 16 with (fail)
  obtain ⟨⟨b0, b1, b2⟩, _⟩ := B1.out.1.get3
  obtain ⟨⟨e0, e1, e2, e3⟩, f0, f1, f2, f3⟩ := B1.out.2.get
  clear b0 b1 b2 e0 e1 e2 e3 f0 f1 f2 f3
  obtain ⟨⟨b0, b1, b2⟩, y0, y1, y2⟩ := B1.out.1.get3
  obtain ⟨⟨e0, e1, e2, e3⟩, f0, f1, f2, f3⟩ := B1.out.2.get
  have v0 : 0 ≤ fuse := by omega
  have v1 : ¬ fuse < (s.size : Int) := by omega
  go_upto_region 19 with (fail)
  go_region
  all_goals
    go_upto_region 20 with (fail)

    have B2 := Lib.hid (And.intro ((B1.out.1.set (k := 2) (by simp) (.string (⟨#[]⟩ ++ s))).q (Q.refl _).drew) ((B1.out.2.far1 z0 2 (.string (⟨#[]⟩ ++ s))).step (Q.refl _).drew))
    have O2 := Lib.hid ((O1.out.away HNE.out 2 (.string (⟨#[]⟩ ++ s))).q (Q.refl _).drew)
    clear b0 b1 b2 y0 y1 y2 e0 e1 e2 e3 f0 f1 f2 f3 B1 O1 HNE
    generalize (wc.setCell ⟨g, 2, none⟩ (.string (⟨#[]⟩ ++ s))).drew = V at B2 O2 ⊢
    obtain ⟨⟨b0, b1, b2⟩, _⟩ := B2.out.1.get3
    obtain ⟨⟨e0, e1, e2, e3⟩, _⟩ := B2.out.2.get
    go_wp2_with fail
    refine (ref_with A2 (n + 1) c2 room fuse false n ⟨nm, ⟨#[]⟩, ⟨#[]⟩ ++ s⟩ (l ++ [(⟨nm, ⟨#[]⟩, ⟨#[]⟩⟩ : Fil)]) _ O2.out qk).mono ?_
    rintro e w5 ⟨A5, c5, rfl, ho5, q5⟩
    have D1 := Lib.hid (Sd.new B2.out.2 q5 ho5)
    have P1 := B2.out.2.step q5
    have hn5 : (n + 1) * 48 ≤ 140737488355328 := O2.out.few
    clear b0 b1 b2 e0 e1 e2 e3 B2 O2 ho5 q5
    obtain ⟨⟨e0, e1, e2, e3⟩, f0, f1, f2, f3⟩ := P1.get
    clear P1
    go_upto_region 21 with (fail)
    generalize ((((w5.setCell ⟨w.heap.size, 0, none⟩ (.slice A5 (n + 1) c5)).setCell ⟨w.heap.size, 1, none⟩ (.int .i64 room)).setCell ⟨w.heap.size, 2, none⟩ (.int .i64 fuse)).setCell ⟨w.heap.size, 3, none⟩ (.bool false)) = V1 at D1 ⊢
    clear e0 e1 e2 e3 f0 f1 f2 f3
    obtain ⟨⟨e0, e1, e2, e3⟩, f0, f1, f2, f3⟩ := D1.out.sb.get
    go_upto_region 22 with (fail)
    have D2 := Lib.hid (D1.out.setRoom (room - (s.size : Nat)))
    clear e0 e1 e2 e3 f0 f1 f2 f3 D1
    generalize (V1.setCell ⟨w.heap.size, 1, none⟩ (.int .i64 (room - (s.size : Nat)))) = V2 at D2 ⊢
    obtain ⟨⟨e0, e1, e2, e3⟩, f0, f1, f2, f3⟩ := D2.out.sb.get
    go_upto_region 24 with (fail)
    have D3 := Lib.hid (D2.out.setFuse (fuse - (s.size : Nat)))
    clear e0 e1 e2 e3 f0 f1 f2 f3 D2
    generalize (V2.setCell ⟨w.heap.size, 2, none⟩ (.int .i64 (fuse - (s.size : Nat)))) = V3 at D3 ⊢
    obtain ⟨⟨e0, e1, e2, e3⟩, f0, f1, f2, f3⟩ := D3.out.sb.get
    obtain ⟨⟨s0, s1, s2, s3⟩, h0', h1, h2, h3⟩ := D3.out.sb.getR
    go_wp2
    refine bodyPost_ret (v := .tuple #[dkv A5 (n + 1) c5 (room - (s.size : Nat)) (fuse - (s.size : Nat)) false, .int .i64 0]) (by simp [results, Tryz.results42, go_sem, s0, s1, s2, s3]) rfl ?_
    exact D3.out.endK hn5 0 _ _ _ _

set_option maxRecDepth 100000 in
set_option maxHeartbeats 8000000 in
theorem ref_app_none_short (nm s : ByteArray) (A : Option Addr) (n c : Nat) (room : Int) (fz : Nat) (l : List Fil) (w : World) (hd : Dsk w A n c l) (hk : nmOk nm = true) (p : Int) (hp : plc nm l 0 = p) (h0 : p < 0) (hn64 : n < 64) (hr : (s.size : Int) ≤ room) (hs : s.size ≤ 2305843009213693952) (hfu : fz < s.size) (hrm : room ≤ 9223372036854775807) (hsum : s.size ≤ 65536) :
    Calls Tryz.prog 42 #[dkv A n c room (fz : Int) false, .string nm, .string s] w fun e w' => RetDK w A n ⟨(l ++ [(⟨nm, ⟨#[]⟩, ⟨#[]⟩⟩ : Fil)]).set n ⟨nm, ⟨#[]⟩, ⟨#[]⟩ ++ s.extract 0 fz⟩, room - (fz : Nat), 0, true⟩ 6 e w' := by
  have hnm := hd.max
  unfold maxLen at hnm
  have hfew := hd.few
  have HD := Lib.hid hd
  have HP := Lib.hid hp
  clear hd hp
  obtain ⟨o1, o2⟩ := nmOk_yes hk
  have o3 : ¬ (nm.size : Int) < 1 := by omega
  have o4 : ¬ room < (s.size : Int) := by omega
  clear hk
  have S0 := Lib.hid (Sb.new w A n c room (fz : Int) false)
  have q4 : ¬ (64 : Int) ≤ (n : Int) := by omega
  go_enter Tryz.func42, Tryz.ntmps42
  go_wp2_with fail
  refine (ref_at nm A n c room (fz : Int) false l _ (HD.out.files.q S0.out.q) HD.out.max).mono ?_
  rw [HP.out]
  rintro e w1 ⟨rfl, q1⟩
  have S1 := Lib.hid (S0.out.step q1)
  clear S0 q1
  obtain ⟨⟨e0, e1, e2, e3⟩, f0, f1, f2, f3⟩ := S1.out.get
  have z0 : w.heap.size + 1 < w1.heap.size := S1.out.res.lt
  go_upto_region 11 with (fail)
  have B1 := Lib.hid (And.intro (Bx.new w1 [.string nm, .string ⟨#[]⟩, .string ⟨#[]⟩] 42) (S1.out.step ((Q.refl _).alloc (.cells #[.string nm, .string ⟨#[]⟩, .string ⟨#[]⟩] 42))))
  generalize (w1.alloc (.cells #[.string nm, .string ⟨#[]⟩, .string ⟨#[]⟩] 42)) = W at B1 ⊢
  generalize w1.heap.size = g at B1 z0 ⊢
  clear e0 e1 e2 e3 f0 f1 f2 f3
  obtain ⟨⟨b0, b1, b2⟩, _⟩ := B1.out.1.get3
  obtain ⟨⟨e0, e1, e2, e3⟩, f0, f1, f2, f3⟩ := B1.out.2.get
  go_upto_region 15 with (fail)
  go_cut [8] (fun s8 wx => C15 w W g n room (fz : Int) nm (l ++ [⟨nm, ⟨#[]⟩, ⟨#[]⟩⟩]) s8 wx)
  case first =>
    have W0 := Lib.hid (Q.refl W)
    refine wp_region_heldL 8 (Q W) (by kernel_rfl) ?szz42 (fun hHeld => ?rzz42)
    case szz42 =>
      exact (Q.refl W).drew
    case' rzz42 => skip
    refine wpAnyL_take (i := 1) (oi := ?ozz43) (v := ?vzz43) ?hzz43 ?azz43 ?bzz43 ?czz43 ?kzz43 ?qzz43 ?yzz43 ?szz43 ?rzz43
    case hzz43 => simp only [List.getElem?_toArray, List.getElem?_cons_zero, List.getElem?_cons_succ]; rfl
    case azz43 => kernel_rfl
    case bzz43 => kernel_rfl
    case czz43 => kernel_rfl
    case kzz43 => kernel_rfl
    case yzz43 =>
      refine Or.inl ⟨by rfl, ?_⟩
      intro w hSw
      have x0 := box_ hSw e0; have x1 := box_ hSw b0; have x2 := box_ hSw b1; have x3 := box_ hSw b2; clear hSw
      go_simp
      try with_reducible rfl
    case qzz43 => exact fun _ _ _ h => h
    case szz43 => assumption
    case' rzz43 => simp only [Act.put, List.setIfInBounds_toArray, List.set_cons_zero, List.set_cons_succ]
    refine wpAnyL_take (i := 2) (oi := ?ozz44) (v := ?vzz44) ?hzz44 ?azz44 ?bzz44 ?czz44 ?kzz44 ?qzz44 ?yzz44 ?szz44 ?rzz44
    case hzz44 => simp only [List.getElem?_toArray, List.getElem?_cons_zero, List.getElem?_cons_succ]; rfl
    case azz44 => kernel_rfl
    case bzz44 => kernel_rfl
    case czz44 => kernel_rfl
    case kzz44 => kernel_rfl
    case yzz44 =>
      refine Or.inl ⟨by rfl, ?_⟩
      intro w hSw
      have x0 := box_ hSw e0; have x1 := box_ hSw b0; have x2 := box_ hSw b1; have x3 := box_ hSw b2; clear hSw
      go_simp
      try with_reducible rfl
    case qzz44 => exact fun _ _ _ h => h
    case szz44 => assumption
    case' rzz44 => simp only [Act.put, List.setIfInBounds_toArray, List.set_cons_zero, List.set_cons_succ]
    refine wpAnyL_take (i := 4) (oi := ?ozz45) (v := ?vzz45) ?hzz45 ?azz45 ?bzz45 ?czz45 ?kzz45 ?qzz45 ?yzz45 ?szz45 ?rzz45
    case hzz45 => simp only [List.getElem?_toArray, List.getElem?_cons_zero, List.getElem?_cons_succ]; rfl
    case azz45 => kernel_rfl
    case bzz45 => kernel_rfl
    case czz45 => kernel_rfl
    case kzz45 => kernel_rfl
    case yzz45 =>
      refine Or.inl ⟨by rfl, ?_⟩
      intro w hSw
      have x0 := box_ hSw e0; have x1 := box_ hSw b0; have x2 := box_ hSw b1; have x3 := box_ hSw b2; clear hSw
      go_simp
      try with_reducible rfl
    case qzz45 => exact fun _ _ _ h => h
    case szz45 => assumption
    case' rzz45 => simp only [Act.put, List.setIfInBounds_toArray, List.set_cons_zero, List.set_cons_succ]
    refine wpAnyL_ready (rs := [0, 5]) (by kernel_rfl) (by simp) ?_
    refine AllReadyL.cons (o := ?ozz61) ?hzz61 (fun K hK => ?kzz61) ?mzz61
    case hzz61 => simp only [List.getElem?_toArray, List.getElem?_cons_zero]; rfl
    case kzz61 =>
      go_simp
      refine hK.out _ _ ?Szz61 (fun hHeld => ?Rzz61)
      case Szz61 =>
        exact (by repeat (first | exact Q.refl _ | refine Q.drew ?_ | refine Q.alloc ?_ _))
      case Rzz61 =>
        clear hK K
        try simp only [Act.put, List.setIfInBounds_toArray, List.set_cons_zero, List.set_cons_succ]
        refine wpAnyL_ready (rs := [3, 5]) (by kernel_rfl) (by simp) ?_
        refine AllReadyL.cons (o := ?ozz54) ?hzz54 (fun K hK => ?kzz54) ?mzz54
        case hzz54 => simp only [List.getElem?_toArray, List.getElem?_cons_zero, List.getElem?_cons_succ]; rfl
        case kzz54 =>
          refine step_appF (by rfl) _ _ (by rfl) W.heap.size (some ⟨W.heap.size, 0, none⟩) 0 0 [] (by rfl) ((own_lit0 W W.heap.size (Nat.le_refl _)).q (by repeat (first | exact Q.refl _ | refine Q.drew ?_ | refine Q.alloc ?_ _))) A n c l (by rfl) (HD.out.files.q (B1.out.2.q.trans (by repeat (first | exact Q.refl _ | refine Q.drew ?_ | refine Q.alloc ?_ _)))) HD.out.nil (by omega) (by simp; try omega) n (Nat.zero_add n) l rfl ?_
          intro A1 c1 w1 ho1 hg1 hb1
          refine hK.out _ _ ?Szz54 (fun hHeld => ?Rzz54)
          case Szz54 =>
            exact (show Q W _ from (by repeat (first | exact Q.refl _ | refine Q.drew ?_ | refine Q.alloc ?_ _))).below.trans hb1
          case Rzz54 =>
            clear hK K
            try simp only [Act.put, List.setIfInBounds_toArray, List.set_cons_zero, List.set_cons_succ]
            have BW := hHeld
            refine wpAnyL_ready (rs := [5]) (by kernel_rfl) (by simp) ?_
            refine AllReadyL.cons (o := ?ozz49) ?hzz49 (fun K hK => ?kzz49) ?mzz49
            case hzz49 => simp only [List.getElem?_toArray, List.getElem?_cons_zero, List.getElem?_cons_succ]; rfl
            case kzz49 =>
              go_simp
              refine hK.out _ _ ?Szz49 (fun hHeld => ?Rzz49)
              case Szz49 =>
                exact BW.alloc _
              case Rzz49 =>
                clear hK K
                try simp only [Act.put, List.setIfInBounds_toArray, List.set_cons_zero, List.set_cons_succ]
                refine wpAnyL_ready (rs := [6]) (by kernel_rfl) (by simp) ?_
                refine AllReadyL.cons (o := ?ozz48) ?hzz48 (fun K hK => ?kzz48) ?mzz48
                case hzz48 => simp only [List.getElem?_toArray, List.getElem?_cons_zero, List.getElem?_cons_succ]; rfl
                case kzz48 =>
                  refine step_appF (by rfl) _ _ (by rfl) W.heap.size A1 n c1 l (by rfl) (ho1.alloc _) (some ⟨w1.heap.size, 0, none⟩) 1 1 [⟨nm, ⟨#[]⟩, ⟨#[]⟩⟩] (by rfl) (files_lit1 w1 ⟨nm, ⟨#[]⟩, ⟨#[]⟩⟩) (fun e => by cases e) (by omega) (by have := BW.size; (try simp only [World.size_alloc]); omega) (n + 1) rfl (l ++ [⟨nm, ⟨#[]⟩, ⟨#[]⟩⟩]) rfl ?_
                  intro A2 c2 w2 ho2 hg2 hb2
                  refine hK.out _ _ ?Szz48 (fun hHeld => ?Rzz48)
                  case Szz48 =>
                    exact (BW.alloc _).below.trans hb2
                  case Rzz48 =>
                    clear hK K
                    try simp only [Act.put, List.setIfInBounds_toArray, List.set_cons_zero, List.set_cons_succ]
                    refine wpAnyL_take (i := 7) (oi := ?ozz46) (v := ?vzz46) ?hzz46 ?azz46 ?bzz46 ?czz46 ?kzz46 ?qzz46 ?yzz46 ?szz46 ?rzz46
                    case hzz46 => simp only [List.getElem?_toArray, List.getElem?_cons_zero, List.getElem?_cons_succ]; rfl
                    case azz46 => kernel_rfl
                    case bzz46 => kernel_rfl
                    case czz46 => kernel_rfl
                    case kzz46 => kernel_rfl
                    case yzz46 =>
                      refine Or.inl ⟨by rfl, ?_⟩
                      intro w hSw
                      have x0 := box_ hSw e0; have x1 := box_ hSw b0; have x2 := box_ hSw b1; have x3 := box_ hSw b2; clear hSw
                      go_simp
                      try with_reducible rfl
                    case qzz46 => exact fun _ _ _ h => h
                    case szz46 => assumption
                    case' rzz46 => simp only [Act.put, List.setIfInBounds_toArray, List.set_cons_zero, List.set_cons_succ]
                    refine wpAnyL_ready (rs := [8]) (by kernel_rfl) (by simp) ?_
                    refine AllReadyL.consK (o := ?ozz47) ?hzz47 ?lzz47 (fun K hK => ?kzz47) ?mzz47
                    case hzz47 => simp only [List.getElem?_toArray, List.getElem?_cons_zero, List.getElem?_cons_succ]; rfl
                    case lzz47 => kernel_rfl
                    case kzz47 =>
                      obtain ⟨⟨x0, x1, x2, x3⟩, y0, y1, y2, y3⟩ := (B1.out.2.step hHeld).get
                      go_simp
                      refine hK.out _ _ ?Rzz47
                      case Rzz47 =>
                        clear hK K
                        try simp only [Act.put, List.setIfInBounds_toArray, List.set_cons_zero, List.set_cons_succ]
                        refine wpAnyH_done (by kernel_rfl) ?_ _
                        go_wp2_with fail
                        go_meet
                        exact leaf15 B1.out.1 B1.out.2 z0 hHeld ho2
                    case' mzz47 => skip
                    exact AllReadyL.nil
                case' mzz48 => skip
                exact AllReadyL.nil
            case' mzz49 => skip
            exact AllReadyL.nil
        case' mzz54 => skip
        refine AllReadyL.cons (o := ?ozz55) ?hzz55 (fun K hK => ?kzz55) ?mzz55
        case hzz55 => simp only [List.getElem?_toArray, List.getElem?_cons_zero, List.getElem?_cons_succ]; rfl
        case kzz55 =>
          go_simp
          refine hK.out _ _ ?Szz55 (fun hHeld => ?Rzz55)
          case Szz55 =>
            exact (by repeat (first | exact Q.refl _ | refine Q.drew ?_ | refine Q.alloc ?_ _))
          case Rzz55 =>
            clear hK K
            try simp only [Act.put, List.setIfInBounds_toArray, List.set_cons_zero, List.set_cons_succ]
            refine wpAnyL_ready (rs := [3]) (by kernel_rfl) (by simp) ?_
            refine AllReadyL.cons (o := ?ozz53) ?hzz53 (fun K hK => ?kzz53) ?mzz53
            case hzz53 => simp only [List.getElem?_toArray, List.getElem?_cons_zero, List.getElem?_cons_succ]; rfl
            case kzz53 =>
              refine step_appF (by rfl) _ _ (by rfl) W.heap.size (some ⟨W.heap.size, 0, none⟩) 0 0 [] (by rfl) ((own_lit0 W W.heap.size (Nat.le_refl _)).q (by repeat (first | exact Q.refl _ | refine Q.drew ?_ | refine Q.alloc ?_ _))) A n c l (by rfl) (HD.out.files.q (B1.out.2.q.trans (by repeat (first | exact Q.refl _ | refine Q.drew ?_ | refine Q.alloc ?_ _)))) HD.out.nil (by omega) (by simp; try omega) n (Nat.zero_add n) l rfl ?_
              intro A1 c1 w1 ho1 hg1 hb1
              refine hK.out _ _ ?Szz53 (fun hHeld => ?Rzz53)
              case Szz53 =>
                exact (show Q W _ from (by repeat (first | exact Q.refl _ | refine Q.drew ?_ | refine Q.alloc ?_ _))).below.trans hb1
              case Rzz53 =>
                clear hK K
                try simp only [Act.put, List.setIfInBounds_toArray, List.set_cons_zero, List.set_cons_succ]
                have BW := hHeld
                refine wpAnyL_ready (rs := [6]) (by kernel_rfl) (by simp) ?_
                refine AllReadyL.cons (o := ?ozz52) ?hzz52 (fun K hK => ?kzz52) ?mzz52
                case hzz52 => simp only [List.getElem?_toArray, List.getElem?_cons_zero, List.getElem?_cons_succ]; rfl
                case kzz52 =>
                  refine step_appF (by rfl) _ _ (by rfl) W.heap.size A1 n c1 l (by rfl) ho1 (some ⟨W.heap.size + 1, 0, none⟩) 1 1 [⟨nm, ⟨#[]⟩, ⟨#[]⟩⟩] (by rfl) (((show Files ((W.alloc (.cells #[] 42)).alloc (.cells #[.string nm, .string ⟨#[]⟩, .string ⟨#[]⟩] 42)) (some ⟨W.heap.size + 1, 0, none⟩) 1 [⟨nm, ⟨#[]⟩, ⟨#[]⟩⟩] by have := files_lit1 (W.alloc (.cells #[] 42)) ⟨nm, ⟨#[]⟩, ⟨#[]⟩⟩; simpa using this).q (by repeat (first | exact Q.refl _ | refine Q.drew ?_ | refine Q.alloc ?_ _))).grown hg1 (fun ad e => by injection e with e; subst e; simp [Value.ownBlock])) (fun e => by cases e) (by omega) (by have := BW.size; (try simp only [World.size_alloc]); omega) (n + 1) rfl (l ++ [⟨nm, ⟨#[]⟩, ⟨#[]⟩⟩]) rfl ?_
                  intro A2 c2 w2 ho2 hg2 hb2
                  refine hK.out _ _ ?Szz52 (fun hHeld => ?Rzz52)
                  case Szz52 =>
                    exact BW.below.trans hb2
                  case Rzz52 =>
                    clear hK K
                    try simp only [Act.put, List.setIfInBounds_toArray, List.set_cons_zero, List.set_cons_succ]
                    refine wpAnyL_take (i := 7) (oi := ?ozz50) (v := ?vzz50) ?hzz50 ?azz50 ?bzz50 ?czz50 ?kzz50 ?qzz50 ?yzz50 ?szz50 ?rzz50
                    case hzz50 => simp only [List.getElem?_toArray, List.getElem?_cons_zero, List.getElem?_cons_succ]; rfl
                    case azz50 => kernel_rfl
                    case bzz50 => kernel_rfl
                    case czz50 => kernel_rfl
                    case kzz50 => kernel_rfl
                    case yzz50 =>
                      refine Or.inl ⟨by rfl, ?_⟩
                      intro w hSw
                      have x0 := box_ hSw e0; have x1 := box_ hSw b0; have x2 := box_ hSw b1; have x3 := box_ hSw b2; clear hSw
                      go_simp
                      try with_reducible rfl
                    case qzz50 => exact fun _ _ _ h => h
                    case szz50 => assumption
                    case' rzz50 => simp only [Act.put, List.setIfInBounds_toArray, List.set_cons_zero, List.set_cons_succ]
                    refine wpAnyL_ready (rs := [8]) (by kernel_rfl) (by simp) ?_
                    refine AllReadyL.consK (o := ?ozz51) ?hzz51 ?lzz51 (fun K hK => ?kzz51) ?mzz51
                    case hzz51 => simp only [List.getElem?_toArray, List.getElem?_cons_zero, List.getElem?_cons_succ]; rfl
                    case lzz51 => kernel_rfl
                    case kzz51 =>
                      obtain ⟨⟨x0, x1, x2, x3⟩, y0, y1, y2, y3⟩ := (B1.out.2.step hHeld).get
                      go_simp
                      refine hK.out _ _ ?Rzz51
                      case Rzz51 =>
                        clear hK K
                        try simp only [Act.put, List.setIfInBounds_toArray, List.set_cons_zero, List.set_cons_succ]
                        refine wpAnyH_done (by kernel_rfl) ?_ _
                        go_wp2_with fail
                        go_meet
                        exact leaf15 B1.out.1 B1.out.2 z0 hHeld ho2
                    case' mzz51 => skip
                    exact AllReadyL.nil
                case' mzz52 => skip
                exact AllReadyL.nil
            case' mzz53 => skip
            exact AllReadyL.nil
        case' mzz55 => skip
        exact AllReadyL.nil
    case' mzz61 => skip
    refine AllReadyL.cons (o := ?ozz62) ?hzz62 (fun K hK => ?kzz62) ?mzz62
    case hzz62 => simp only [List.getElem?_toArray, List.getElem?_cons_zero, List.getElem?_cons_succ]; rfl
    case kzz62 =>
      go_simp
      refine hK.out _ _ ?Szz62 (fun hHeld => ?Rzz62)
      case Szz62 =>
        exact (by repeat (first | exact Q.refl _ | refine Q.drew ?_ | refine Q.alloc ?_ _))
      case Rzz62 =>
        clear hK K
        try simp only [Act.put, List.setIfInBounds_toArray, List.set_cons_zero, List.set_cons_succ]
        refine wpAnyL_ready (rs := [0]) (by kernel_rfl) (by simp) ?_
        refine AllReadyL.cons (o := ?ozz60) ?hzz60 (fun K hK => ?kzz60) ?mzz60
        case hzz60 => simp only [List.getElem?_toArray, List.getElem?_cons_zero]; rfl
        case kzz60 =>
          go_simp
          refine hK.out _ _ ?Szz60 (fun hHeld => ?Rzz60)
          case Szz60 =>
            exact (by repeat (first | exact Q.refl _ | refine Q.drew ?_ | refine Q.alloc ?_ _))
          case Rzz60 =>
            clear hK K
            try simp only [Act.put, List.setIfInBounds_toArray, List.set_cons_zero, List.set_cons_succ]
            refine wpAnyL_ready (rs := [3]) (by kernel_rfl) (by simp) ?_
            refine AllReadyL.cons (o := ?ozz59) ?hzz59 (fun K hK => ?kzz59) ?mzz59
            case hzz59 => simp only [List.getElem?_toArray, List.getElem?_cons_zero, List.getElem?_cons_succ]; rfl
            case kzz59 =>
              refine step_appF (by rfl) _ _ (by rfl) W.heap.size (some ⟨W.heap.size + 1, 0, none⟩) 0 0 [] (by rfl) ((show Own ((W.alloc (.cells #[.string nm, .string ⟨#[]⟩, .string ⟨#[]⟩] 42)).alloc (.cells #[] 42)) W.heap.size (some ⟨W.heap.size + 1, 0, none⟩) 0 0 [] by have := own_lit0 (W.alloc (.cells #[.string nm, .string ⟨#[]⟩, .string ⟨#[]⟩] 42)) W.heap.size (by simp); simpa using this).q (by repeat (first | exact Q.refl _ | refine Q.drew ?_ | refine Q.alloc ?_ _))) A n c l (by rfl) (HD.out.files.q (B1.out.2.q.trans (by repeat (first | exact Q.refl _ | refine Q.drew ?_ | refine Q.alloc ?_ _)))) HD.out.nil (by omega) (by simp; try omega) n (Nat.zero_add n) l rfl ?_
              intro A1 c1 w1 ho1 hg1 hb1
              refine hK.out _ _ ?Szz59 (fun hHeld => ?Rzz59)
              case Szz59 =>
                exact (show Q W _ from (by repeat (first | exact Q.refl _ | refine Q.drew ?_ | refine Q.alloc ?_ _))).below.trans hb1
              case Rzz59 =>
                clear hK K
                try simp only [Act.put, List.setIfInBounds_toArray, List.set_cons_zero, List.set_cons_succ]
                have BW := hHeld
                refine wpAnyL_ready (rs := [6]) (by kernel_rfl) (by simp) ?_
                refine AllReadyL.cons (o := ?ozz58) ?hzz58 (fun K hK => ?kzz58) ?mzz58
                case hzz58 => simp only [List.getElem?_toArray, List.getElem?_cons_zero, List.getElem?_cons_succ]; rfl
                case kzz58 =>
                  refine step_appF (by rfl) _ _ (by rfl) W.heap.size A1 n c1 l (by rfl) ho1 (some ⟨W.heap.size, 0, none⟩) 1 1 [⟨nm, ⟨#[]⟩, ⟨#[]⟩⟩] (by rfl) ((((files_lit1 W ⟨nm, ⟨#[]⟩, ⟨#[]⟩⟩).q ((Q.refl _).alloc (.cells #[] 42))).q (by repeat (first | exact Q.refl _ | refine Q.drew ?_ | refine Q.alloc ?_ _))).grown hg1 (fun ad e => by injection e with e; subst e; simp [Value.ownBlock])) (fun e => by cases e) (by omega) (by have := BW.size; (try simp only [World.size_alloc]); omega) (n + 1) rfl (l ++ [⟨nm, ⟨#[]⟩, ⟨#[]⟩⟩]) rfl ?_
                  intro A2 c2 w2 ho2 hg2 hb2
                  refine hK.out _ _ ?Szz58 (fun hHeld => ?Rzz58)
                  case Szz58 =>
                    exact BW.below.trans hb2
                  case Rzz58 =>
                    clear hK K
                    try simp only [Act.put, List.setIfInBounds_toArray, List.set_cons_zero, List.set_cons_succ]
                    refine wpAnyL_take (i := 7) (oi := ?ozz56) (v := ?vzz56) ?hzz56 ?azz56 ?bzz56 ?czz56 ?kzz56 ?qzz56 ?yzz56 ?szz56 ?rzz56
                    case hzz56 => simp only [List.getElem?_toArray, List.getElem?_cons_zero, List.getElem?_cons_succ]; rfl
                    case azz56 => kernel_rfl
                    case bzz56 => kernel_rfl
                    case czz56 => kernel_rfl
                    case kzz56 => kernel_rfl
                    case yzz56 =>
                      refine Or.inl ⟨by rfl, ?_⟩
                      intro w hSw
                      have x0 := box_ hSw e0; have x1 := box_ hSw b0; have x2 := box_ hSw b1; have x3 := box_ hSw b2; clear hSw
                      go_simp
                      try with_reducible rfl
                    case qzz56 => exact fun _ _ _ h => h
                    case szz56 => assumption
                    case' rzz56 => simp only [Act.put, List.setIfInBounds_toArray, List.set_cons_zero, List.set_cons_succ]
                    refine wpAnyL_ready (rs := [8]) (by kernel_rfl) (by simp) ?_
                    refine AllReadyL.consK (o := ?ozz57) ?hzz57 ?lzz57 (fun K hK => ?kzz57) ?mzz57
                    case hzz57 => simp only [List.getElem?_toArray, List.getElem?_cons_zero, List.getElem?_cons_succ]; rfl
                    case lzz57 => kernel_rfl
                    case kzz57 =>
                      obtain ⟨⟨x0, x1, x2, x3⟩, y0, y1, y2, y3⟩ := (B1.out.2.step hHeld).get
                      go_simp
                      refine hK.out _ _ ?Rzz57
                      case Rzz57 =>
                        clear hK K
                        try simp only [Act.put, List.setIfInBounds_toArray, List.set_cons_zero, List.set_cons_succ]
                        refine wpAnyH_done (by kernel_rfl) ?_ _
                        go_wp2_with fail
                        go_meet
                        exact leaf15 B1.out.1 B1.out.2 z0 hHeld ho2
                    case' mzz57 => skip
                    exact AllReadyL.nil
                case' mzz58 => skip
                exact AllReadyL.nil
            case' mzz59 => skip
            exact AllReadyL.nil
        case' mzz60 => skip
        exact AllReadyL.nil
    case' mzz62 => skip
    exact AllReadyL.nil
  case rest =>
  obtain ⟨A2, c2, rfl, vS, vO, vB⟩ := hcut
  have n48 : (n + 1) * 48 ≤ 140737488355328 := by omega
  have HNE := Lib.hid (own_ne vO (g := g) B1.out.1.lt)
  have O1 := Lib.hid (vO.dsk n48)
  have B2 := Lib.hid (And.intro vB vS)
  clear vS vO vB B1 HD e0 e1 e2 e3 f0 f1 f2 f3 b0 b1 b2
  have B1 := B2
  clear B2
  have qk : n < n + 1 := by omega
  go_upto_region 16 with (fail)
  obtain ⟨⟨b0, b1, b2⟩, _⟩ := B1.out.1.get3
  obtain ⟨⟨e0, e1, e2, e3⟩, f0, f1, f2, f3⟩ := B1.out.2.get
  clear b0 b1 b2 e0 e1 e2 e3 f0 f1 f2 f3
  obtain ⟨⟨b0, b1, b2⟩, y0, y1, y2⟩ := B1.out.1.get3
  obtain ⟨⟨e0, e1, e2, e3⟩, f0, f1, f2, f3⟩ := B1.out.2.get
  have v0 : 0 ≤ (fz : Int) := by omega
  have v1 : (fz : Int) < (s.size : Int) := by omega
  go_upto_region 19 with (fail)
  go_region
  all_goals
    go_upto_region 20 with (fail)

    have B2 := Lib.hid (And.intro ((B1.out.1.set (k := 2) (by simp) (.string (⟨#[]⟩ ++ s.extract 0 fz))).q (Q.refl _).drew) ((B1.out.2.far1 z0 2 (.string (⟨#[]⟩ ++ s.extract 0 fz))).step (Q.refl _).drew))
    have O2 := Lib.hid ((O1.out.away HNE.out 2 (.string (⟨#[]⟩ ++ s.extract 0 fz))).q (Q.refl _).drew)
    clear b0 b1 b2 y0 y1 y2 e0 e1 e2 e3 f0 f1 f2 f3 B1 O1 HNE
    generalize (wc.setCell ⟨g, 2, none⟩ (.string (⟨#[]⟩ ++ s.extract 0 fz))).drew = V at B2 O2 ⊢
    obtain ⟨⟨b0, b1, b2⟩, _⟩ := B2.out.1.get3
    obtain ⟨⟨e0, e1, e2, e3⟩, _⟩ := B2.out.2.get
    go_wp2_with fail
    refine (ref_with A2 (n + 1) c2 room (fz : Int) false n ⟨nm, ⟨#[]⟩, ⟨#[]⟩ ++ s.extract 0 fz⟩ (l ++ [(⟨nm, ⟨#[]⟩, ⟨#[]⟩⟩ : Fil)]) _ O2.out qk).mono ?_
    rintro e w5 ⟨A5, c5, rfl, ho5, q5⟩
    have D1 := Lib.hid (Sd.new B2.out.2 q5 ho5)
    have P1 := B2.out.2.step q5
    have hn5 : (n + 1) * 48 ≤ 140737488355328 := O2.out.few
    clear b0 b1 b2 e0 e1 e2 e3 B2 O2 ho5 q5
    obtain ⟨⟨e0, e1, e2, e3⟩, f0, f1, f2, f3⟩ := P1.get
    clear P1
    go_upto_region 21 with (fail)
    generalize ((((w5.setCell ⟨w.heap.size, 0, none⟩ (.slice A5 (n + 1) c5)).setCell ⟨w.heap.size, 1, none⟩ (.int .i64 room)).setCell ⟨w.heap.size, 2, none⟩ (.int .i64 (fz : Int))).setCell ⟨w.heap.size, 3, none⟩ (.bool false)) = V1 at D1 ⊢
    clear e0 e1 e2 e3 f0 f1 f2 f3
    obtain ⟨⟨e0, e1, e2, e3⟩, f0, f1, f2, f3⟩ := D1.out.sb.get
    go_upto_region 22 with (fail)
    have D2 := Lib.hid (D1.out.setRoom (room - (fz : Nat)))
    clear e0 e1 e2 e3 f0 f1 f2 f3 D1
    generalize (V1.setCell ⟨w.heap.size, 1, none⟩ (.int .i64 (room - (fz : Nat)))) = V2 at D2 ⊢
    obtain ⟨⟨e0, e1, e2, e3⟩, f0, f1, f2, f3⟩ := D2.out.sb.get
    go_upto_region 24 with (fail)
    have D3 := Lib.hid (D2.out.setFuse 0)
    clear e0 e1 e2 e3 f0 f1 f2 f3 D2
    generalize (V2.setCell ⟨w.heap.size, 2, none⟩ (.int .i64 0)) = V3 at D3 ⊢
    obtain ⟨⟨e0, e1, e2, e3⟩, f0, f1, f2, f3⟩ := D3.out.sb.get
    go_upto_region 26 with (fail)
    have D4 := Lib.hid (D3.out.setOff true)
    clear e0 e1 e2 e3 f0 f1 f2 f3 D3
    generalize (V3.setCell ⟨w.heap.size, 3, none⟩ (.bool true)) = V4 at D4 ⊢
    obtain ⟨⟨e0, e1, e2, e3⟩, f0, f1, f2, f3⟩ := D4.out.sb.get
    obtain ⟨⟨s0, s1, s2, s3⟩, h0', h1, h2, h3⟩ := D4.out.sb.getR
    go_wp2
    refine bodyPost_ret (v := .tuple #[dkv A5 (n + 1) c5 (room - (fz : Nat)) 0 true, .int .i64 6]) (by simp [results, Tryz.results42, go_sem, s0, s1, s2, s3]) rfl ?_
    exact D4.out.endK hn5 6 _ _ _ _

set_option maxRecDepth 100000 in
set_option maxHeartbeats 8000000 in
theorem ref_app_at_neg (nm s : ByteArray) (A : Option Addr) (n c : Nat) (room fuse : Int) (l : List Fil) (w : World) (hd : Dsk w A n c l) (hk : nmOk nm = true) (k : Nat) (hkl : k < l.length) (hkn : k < n) (hp : plc nm l 0 = k) (hr : (s.size : Int) ≤ room) (hs : s.size ≤ 2305843009213693952) (hz : l[k].sf.size + l[k].wt.size ≤ 2305843009213693952) (hfu : fuse < 0) (hrm : room ≤ 9223372036854775807) (hsum : l[k].sf.size + l[k].wt.size + s.size ≤ 65536) :
    Calls Tryz.prog 42 #[dkv A n c room fuse false, .string nm, .string s] w fun e w' => RetDK w A n ⟨l.set k ⟨l[k].nm, l[k].sf, l[k].wt ++ s⟩, room - (s.size : Nat), fuse, false⟩ 0 e w' := by
  have hb2 : ¬ (65536 : Int) < (l[k].sf.size : Int) + (l[k].wt.size : Int) + (s.size : Int) := by omega
  have hnm := hd.max
  unfold maxLen at hnm
  have hfew := hd.few
  have HD := Lib.hid hd
  have HP := Lib.hid hp
  clear hd hp
  obtain ⟨o1, o2⟩ := nmOk_yes hk
  have o3 : ¬ (nm.size : Int) < 1 := by omega
  have o4 : ¬ room < (s.size : Int) := by omega
  clear hk
  have S0 := Lib.hid (Sb.new w A n c room fuse false)
  have z8 : (l[k].sf.size : Int) + (l[k].wt.size : Int) ≤ 2305843009213693952 := by omega
  have q4 : (k : Int) < (n : Int) := by omega
  have q5 : 0 ≤ (k : Int) := by omega
  go_enter Tryz.func42, Tryz.ntmps42
  go_wp2_with fail
  refine (ref_at nm A n c room fuse false l _ (HD.out.files.q S0.out.q) HD.out.max).mono ?_
  rw [HP.out]
  rintro e w1 ⟨rfl, q1⟩
  have S1 := Lib.hid (S0.out.step q1)
  obtain ⟨ad, rfl, _, _⟩ := (HD.out.files.q S1.out.q).load hkn hkl
  clear S0 q1
  obtain ⟨⟨e0, e1, e2, e3⟩, f0, f1, f2, f3⟩ := S1.out.get
  have z0 : w.heap.size + 1 < w1.heap.size := S1.out.res.lt
  go_upto_region 10 with (fail)
  have B1 := Lib.hid (And.intro (Bx.new w1 [.string nm, .string ⟨#[]⟩, .string ⟨#[]⟩] 42) (S1.out.step ((Q.refl _).alloc (.cells #[.string nm, .string ⟨#[]⟩, .string ⟨#[]⟩] 42))))
  generalize (w1.alloc (.cells #[.string nm, .string ⟨#[]⟩, .string ⟨#[]⟩] 42)) = W at B1 ⊢
  generalize w1.heap.size = g at B1 z0 ⊢
  clear e0 e1 e2 e3 f0 f1 f2 f3
  obtain ⟨ad', hadd, hb, c0, c1, c3⟩ := (HD.out.files.q B1.out.2.q).load hkn hkl
  obtain rfl : ad = ad' := by injection hadd
  clear hadd
  obtain ⟨⟨e0, e1, e2, e3⟩, f0, f1, f2, f3⟩ := B1.out.2.get
  obtain ⟨⟨b0, b1, b2⟩, y0, y1, y2⟩ := B1.out.1.get3
  go_upto_region 11 with (fail)
  have B2 := Lib.hid (And.intro (B1.out.1.put3 (.string l[k].nm) (.string l[k].sf) (.string l[k].wt)) (B1.out.2.far3 z0 (.string l[k].nm) (.string l[k].sf) (.string l[k].wt)))
  clear e0 e1 e2 e3 f0 f1 f2 f3 b0 b1 b2 y0 y1 y2 c0 c1 c3 hb B1
  generalize (((W.setCell ⟨g, 0, none⟩ (.string l[k].nm)).setCell ⟨g, 1, none⟩ (.string l[k].sf)).setCell ⟨g, 2, none⟩ (.string l[k].wt)) = W1 at B2 ⊢
  have B1 := B2
  clear B2
  obtain ⟨⟨b0, b1, b2⟩, _⟩ := B1.out.1.get3
  obtain ⟨⟨e0, e1, e2, e3⟩, f0, f1, f2, f3⟩ := B1.out.2.get
  have O1 := Lib.hid (HD.out.q B1.out.2.q)
  have HNE : Hid (∀ ad', some ad = some ad' → ad'.block ≠ g) := Lib.hid (fun ad' e => by
    obtain ⟨a2, e2, hb2, _⟩ := HD.out.files.load hkn hkl
    injection e with e
    injection e2 with e2
    rw [← e]
    rw [← e2] at hb2
    omega)
  have qk : k < n := hkn
  go_upto_region 16 with (fail)
  clear b0 b1 b2 e0 e1 e2 e3 f0 f1 f2 f3
  obtain ⟨⟨b0, b1, b2⟩, y0, y1, y2⟩ := B1.out.1.get3
  obtain ⟨⟨e0, e1, e2, e3⟩, f0, f1, f2, f3⟩ := B1.out.2.get
  have v0 : ¬ 0 ≤ fuse := by omega
  go_upto_region 19 with (fail)
  go_region
  all_goals
    go_upto_region 20 with (fail)

    have B2 := Lib.hid (And.intro ((B1.out.1.set (k := 2) (by simp) (.string (l[k].wt ++ s))).q (Q.refl _).drew) ((B1.out.2.far1 z0 2 (.string (l[k].wt ++ s))).step (Q.refl _).drew))
    have O2 := Lib.hid ((O1.out.away HNE.out 2 (.string (l[k].wt ++ s))).q (Q.refl _).drew)
    clear b0 b1 b2 y0 y1 y2 e0 e1 e2 e3 f0 f1 f2 f3 B1 O1 HNE
    generalize (W1.setCell ⟨g, 2, none⟩ (.string (l[k].wt ++ s))).drew = V at B2 O2 ⊢
    obtain ⟨⟨b0, b1, b2⟩, _⟩ := B2.out.1.get3
    obtain ⟨⟨e0, e1, e2, e3⟩, _⟩ := B2.out.2.get
    go_wp2_with fail
    refine (ref_with (some ad) n c room fuse false k ⟨l[k].nm, l[k].sf, l[k].wt ++ s⟩ l _ O2.out qk).mono ?_
    rintro e w5 ⟨A5, c5, rfl, ho5, q5⟩
    have D1 := Lib.hid (Sd.new B2.out.2 q5 ho5)
    have P1 := B2.out.2.step q5
    have hn5 : n * 48 ≤ 140737488355328 := O2.out.few
    clear b0 b1 b2 e0 e1 e2 e3 B2 O2 ho5 q5
    obtain ⟨⟨e0, e1, e2, e3⟩, f0, f1, f2, f3⟩ := P1.get
    clear P1
    go_upto_region 21 with (fail)
    generalize ((((w5.setCell ⟨w.heap.size, 0, none⟩ (.slice A5 n c5)).setCell ⟨w.heap.size, 1, none⟩ (.int .i64 room)).setCell ⟨w.heap.size, 2, none⟩ (.int .i64 fuse)).setCell ⟨w.heap.size, 3, none⟩ (.bool false)) = V1 at D1 ⊢
    clear e0 e1 e2 e3 f0 f1 f2 f3
    obtain ⟨⟨e0, e1, e2, e3⟩, f0, f1, f2, f3⟩ := D1.out.sb.get
    go_upto_region 22 with (fail)
    have D2 := Lib.hid (D1.out.setRoom (room - (s.size : Nat)))
    clear e0 e1 e2 e3 f0 f1 f2 f3 D1
    generalize (V1.setCell ⟨w.heap.size, 1, none⟩ (.int .i64 (room - (s.size : Nat)))) = V2 at D2 ⊢
    obtain ⟨⟨e0, e1, e2, e3⟩, f0, f1, f2, f3⟩ := D2.out.sb.get
    go_upto_region 24 with (fail)
    obtain ⟨⟨s0, s1, s2, s3⟩, h0', h1, h2, h3⟩ := D2.out.sb.getR
    go_wp2
    refine bodyPost_ret (v := .tuple #[dkv A5 n c5 (room - (s.size : Nat)) fuse false, .int .i64 0]) (by simp [results, Tryz.results42, go_sem, s0, s1, s2, s3]) rfl ?_
    exact D2.out.endK hn5 0 _ _ _ _

set_option maxRecDepth 100000 in
set_option maxHeartbeats 8000000 in
theorem ref_app_at_fits (nm s : ByteArray) (A : Option Addr) (n c : Nat) (room fuse : Int) (l : List Fil) (w : World) (hd : Dsk w A n c l) (hk : nmOk nm = true) (k : Nat) (hkl : k < l.length) (hkn : k < n) (hp : plc nm l 0 = k) (hr : (s.size : Int) ≤ room) (hs : s.size ≤ 2305843009213693952) (hz : l[k].sf.size + l[k].wt.size ≤ 2305843009213693952) (hfu : (s.size : Int) ≤ fuse) (hfm : fuse ≤ 9223372036854775807) (hrm : room ≤ 9223372036854775807) (hsum : l[k].sf.size + l[k].wt.size + s.size ≤ 65536) :
    Calls Tryz.prog 42 #[dkv A n c room fuse false, .string nm, .string s] w fun e w' => RetDK w A n ⟨l.set k ⟨l[k].nm, l[k].sf, l[k].wt ++ s⟩, room - (s.size : Nat), fuse - (s.size : Nat), false⟩ 0 e w' := by
  have hb2 : ¬ (65536 : Int) < (l[k].sf.size : Int) + (l[k].wt.size : Int) + (s.size : Int) := by omega
  have hnm := hd.max
  unfold maxLen at hnm
  have hfew := hd.few
  have HD := Lib.hid hd
  have HP := Lib.hid hp
  clear hd hp
  obtain ⟨o1, o2⟩ := nmOk_yes hk
  have o3 : ¬ (nm.size : Int) < 1 := by omega
  have o4 : ¬ room < (s.size : Int) := by omega
  clear hk
  have S0 := Lib.hid (Sb.new w A n c room fuse false)
  have z8 : (l[k].sf.size : Int) + (l[k].wt.size : Int) ≤ 2305843009213693952 := by omega
  have q4 : (k : Int) < (n : Int) := by omega
  have q5 : 0 ≤ (k : Int) := by omega
  go_enter Tryz.func42, Tryz.ntmps42
  go_wp2_with fail
  refine (ref_at nm A n c room fuse false l _ (HD.out.files.q S0.out.q) HD.out.max).mono ?_
  rw [HP.out]
  rintro e w1 ⟨rfl, q1⟩
  have S1 := Lib.hid (S0.out.step q1)
  obtain ⟨ad, rfl, _, _⟩ := (HD.out.files.q S1.out.q).load hkn hkl
  clear S0 q1
  obtain ⟨⟨e0, e1, e2, e3⟩, f0, f1, f2, f3⟩ := S1.out.get
  have z0 : w.heap.size + 1 < w1.heap.size := S1.out.res.lt
  go_upto_region 10 with (fail)
  have B1 := Lib.hid (And.intro (Bx.new w1 [.string nm, .string ⟨#[]⟩, .string ⟨#[]⟩] 42) (S1.out.step ((Q.refl _).alloc (.cells #[.string nm, .string ⟨#[]⟩, .string ⟨#[]⟩] 42))))
  generalize (w1.alloc (.cells #[.string nm, .string ⟨#[]⟩, .string ⟨#[]⟩] 42)) = W at B1 ⊢
  generalize w1.heap.size = g at B1 z0 ⊢
  clear e0 e1 e2 e3 f0 f1 f2 f3
  obtain ⟨ad', hadd, hb, c0, c1, c3⟩ := (HD.out.files.q B1.out.2.q).load hkn hkl
  obtain rfl : ad = ad' := by injection hadd
  clear hadd
  obtain ⟨⟨e0, e1, e2, e3⟩, f0, f1, f2, f3⟩ := B1.out.2.get
  obtain ⟨⟨b0, b1, b2⟩, y0, y1, y2⟩ := B1.out.1.get3
  go_upto_region 11 with (fail)
  have B2 := Lib.hid (And.intro (B1.out.1.put3 (.string l[k].nm) (.string l[k].sf) (.string l[k].wt)) (B1.out.2.far3 z0 (.string l[k].nm) (.string l[k].sf) (.string l[k].wt)))
  clear e0 e1 e2 e3 f0 f1 f2 f3 b0 b1 b2 y0 y1 y2 c0 c1 c3 hb B1
  generalize (((W.setCell ⟨g, 0, none⟩ (.string l[k].nm)).setCell ⟨g, 1, none⟩ (.string l[k].sf)).setCell ⟨g, 2, none⟩ (.string l[k].wt)) = W1 at B2 ⊢
  have B1 := B2
  clear B2
  obtain ⟨⟨b0, b1, b2⟩, _⟩ := B1.out.1.get3
  obtain ⟨⟨e0, e1, e2, e3⟩, f0, f1, f2, f3⟩ := B1.out.2.get
  have O1 := Lib.hid (HD.out.q B1.out.2.q)
  have HNE : Hid (∀ ad', some ad = some ad' → ad'.block ≠ g) := Lib.hid (fun ad' e => by
    obtain ⟨a2, e2, hb2, _⟩ := HD.out.files.load hkn hkl
    injection e with e
    injection e2 with e2
    rw [← e]
    rw [← e2] at hb2
    omega)
  have qk : k < n := hkn
  go_upto_region 16 with (fail)
  clear b0 b1 b2 e0 e1 e2 e3 f0 f1 f2 f3
  obtain ⟨⟨b0, b1, b2⟩, y0, y1, y2⟩ := B1.out.1.get3
  obtain ⟨⟨e0, e1, e2, e3⟩, f0, f1, f2, f3⟩ := B1.out.2.get
  have v0 : 0 ≤ fuse := by omega
  have v1 : ¬ fuse < (s.size : Int) := by omega
  go_upto_region 19 with (fail)
  go_region
  all_goals
    go_upto_region 20 with (fail)

    have B2 := Lib.hid (And.intro ((B1.out.1.set (k := 2) (by simp) (.string (l[k].wt ++ s))).q (Q.refl _).drew) ((B1.out.2.far1 z0 2 (.string (l[k].wt ++ s))).step (Q.refl _).drew))
    have O2 := Lib.hid ((O1.out.away HNE.out 2 (.string (l[k].wt ++ s))).q (Q.refl _).drew)
    clear b0 b1 b2 y0 y1 y2 e0 e1 e2 e3 f0 f1 f2 f3 B1 O1 HNE
    generalize (W1.setCell ⟨g, 2, none⟩ (.string (l[k].wt ++ s))).drew = V at B2 O2 ⊢
    obtain ⟨⟨b0, b1, b2⟩, _⟩ := B2.out.1.get3
    obtain ⟨⟨e0, e1, e2, e3⟩, _⟩ := B2.out.2.get
    go_wp2_with fail
    refine (ref_with (some ad) n c room fuse false k ⟨l[k].nm, l[k].sf, l[k].wt ++ s⟩ l _ O2.out qk).mono ?_
    rintro e w5 ⟨A5, c5, rfl, ho5, q5⟩
    have D1 := Lib.hid (Sd.new B2.out.2 q5 ho5)
    have P1 := B2.out.2.step q5
    have hn5 : n * 48 ≤ 140737488355328 := O2.out.few
    clear b0 b1 b2 e0 e1 e2 e3 B2 O2 ho5 q5
    obtain ⟨⟨e0, e1, e2, e3⟩, f0, f1, f2, f3⟩ := P1.get
    clear P1
    go_upto_region 21 with (fail)
    generalize ((((w5.setCell ⟨w.heap.size, 0, none⟩ (.slice A5 n c5)).setCell ⟨w.heap.size, 1, none⟩ (.int .i64 room)).setCell ⟨w.heap.size, 2, none⟩ (.int .i64 fuse)).setCell ⟨w.heap.size, 3, none⟩ (.bool false)) = V1 at D1 ⊢
    clear e0 e1 e2 e3 f0 f1 f2 f3
    obtain ⟨⟨e0, e1, e2, e3⟩, f0, f1, f2, f3⟩ := D1.out.sb.get
    go_upto_region 22 with (fail)
    have D2 := Lib.hid (D1.out.setRoom (room - (s.size : Nat)))
    clear e0 e1 e2 e3 f0 f1 f2 f3 D1
    generalize (V1.setCell ⟨w.heap.size, 1, none⟩ (.int .i64 (room - (s.size : Nat)))) = V2 at D2 ⊢
    obtain ⟨⟨e0, e1, e2, e3⟩, f0, f1, f2, f3⟩ := D2.out.sb.get
    go_upto_region 24 with (fail)
    have D3 := Lib.hid (D2.out.setFuse (fuse - (s.size : Nat)))
    clear e0 e1 e2 e3 f0 f1 f2 f3 D2
    generalize (V2.setCell ⟨w.heap.size, 2, none⟩ (.int .i64 (fuse - (s.size : Nat)))) = V3 at D3 ⊢
    obtain ⟨⟨e0, e1, e2, e3⟩, f0, f1, f2, f3⟩ := D3.out.sb.get
    obtain ⟨⟨s0, s1, s2, s3⟩, h0', h1, h2, h3⟩ := D3.out.sb.getR
    go_wp2
    refine bodyPost_ret (v := .tuple #[dkv A5 n c5 (room - (s.size : Nat)) (fuse - (s.size : Nat)) false, .int .i64 0]) (by simp [results, Tryz.results42, go_sem, s0, s1, s2, s3]) rfl ?_
    exact D3.out.endK hn5 0 _ _ _ _

set_option maxRecDepth 100000 in
set_option maxHeartbeats 8000000 in
theorem ref_app_at_short (nm s : ByteArray) (A : Option Addr) (n c : Nat) (room : Int) (fz : Nat) (l : List Fil) (w : World) (hd : Dsk w A n c l) (hk : nmOk nm = true) (k : Nat) (hkl : k < l.length) (hkn : k < n) (hp : plc nm l 0 = k) (hr : (s.size : Int) ≤ room) (hs : s.size ≤ 2305843009213693952) (hz : l[k].sf.size + l[k].wt.size ≤ 2305843009213693952) (hfu : fz < s.size) (hrm : room ≤ 9223372036854775807) (hsum : l[k].sf.size + l[k].wt.size + s.size ≤ 65536) :
    Calls Tryz.prog 42 #[dkv A n c room (fz : Int) false, .string nm, .string s] w fun e w' => RetDK w A n ⟨l.set k ⟨l[k].nm, l[k].sf, l[k].wt ++ s.extract 0 fz⟩, room - (fz : Nat), 0, true⟩ 6 e w' := by
  have hb2 : ¬ (65536 : Int) < (l[k].sf.size : Int) + (l[k].wt.size : Int) + (s.size : Int) := by omega
  have hnm := hd.max
  unfold maxLen at hnm
  have hfew := hd.few
  have HD := Lib.hid hd
  have HP := Lib.hid hp
  clear hd hp
  obtain ⟨o1, o2⟩ := nmOk_yes hk
  have o3 : ¬ (nm.size : Int) < 1 := by omega
  have o4 : ¬ room < (s.size : Int) := by omega
  clear hk
  have S0 := Lib.hid (Sb.new w A n c room (fz : Int) false)
  have z8 : (l[k].sf.size : Int) + (l[k].wt.size : Int) ≤ 2305843009213693952 := by omega
  have q4 : (k : Int) < (n : Int) := by omega
  have q5 : 0 ≤ (k : Int) := by omega
  go_enter Tryz.func42, Tryz.ntmps42
  go_wp2_with fail
  refine (ref_at nm A n c room (fz : Int) false l _ (HD.out.files.q S0.out.q) HD.out.max).mono ?_
  rw [HP.out]
  rintro e w1 ⟨rfl, q1⟩
  have S1 := Lib.hid (S0.out.step q1)
  obtain ⟨ad, rfl, _, _⟩ := (HD.out.files.q S1.out.q).load hkn hkl
  clear S0 q1
  obtain ⟨⟨e0, e1, e2, e3⟩, f0, f1, f2, f3⟩ := S1.out.get
  have z0 : w.heap.size + 1 < w1.heap.size := S1.out.res.lt
  go_upto_region 10 with (fail)
  have B1 := Lib.hid (And.intro (Bx.new w1 [.string nm, .string ⟨#[]⟩, .string ⟨#[]⟩] 42) (S1.out.step ((Q.refl _).alloc (.cells #[.string nm, .string ⟨#[]⟩, .string ⟨#[]⟩] 42))))
  generalize (w1.alloc (.cells #[.string nm, .string ⟨#[]⟩, .string ⟨#[]⟩] 42)) = W at B1 ⊢
  generalize w1.heap.size = g at B1 z0 ⊢
  clear e0 e1 e2 e3 f0 f1 f2 f3
  obtain ⟨ad', hadd, hb, c0, c1, c3⟩ := (HD.out.files.q B1.out.2.q).load hkn hkl
  obtain rfl : ad = ad' := by injection hadd
  clear hadd
  obtain ⟨⟨e0, e1, e2, e3⟩, f0, f1, f2, f3⟩ := B1.out.2.get
  obtain ⟨⟨b0, b1, b2⟩, y0, y1, y2⟩ := B1.out.1.get3
  go_upto_region 11 with (fail)
  have B2 := Lib.hid (And.intro (B1.out.1.put3 (.string l[k].nm) (.string l[k].sf) (.string l[k].wt)) (B1.out.2.far3 z0 (.string l[k].nm) (.string l[k].sf) (.string l[k].wt)))
  clear e0 e1 e2 e3 f0 f1 f2 f3 b0 b1 b2 y0 y1 y2 c0 c1 c3 hb B1
  generalize (((W.setCell ⟨g, 0, none⟩ (.string l[k].nm)).setCell ⟨g, 1, none⟩ (.string l[k].sf)).setCell ⟨g, 2, none⟩ (.string l[k].wt)) = W1 at B2 ⊢
  have B1 := B2
  clear B2
  obtain ⟨⟨b0, b1, b2⟩, _⟩ := B1.out.1.get3
  obtain ⟨⟨e0, e1, e2, e3⟩, f0, f1, f2, f3⟩ := B1.out.2.get
  have O1 := Lib.hid (HD.out.q B1.out.2.q)
  have HNE : Hid (∀ ad', some ad = some ad' → ad'.block ≠ g) := Lib.hid (fun ad' e => by
    obtain ⟨a2, e2, hb2, _⟩ := HD.out.files.load hkn hkl
    injection e with e
    injection e2 with e2
    rw [← e]
    rw [← e2] at hb2
    omega)
  have qk : k < n := hkn
  go_upto_region 16 with (fail)
  clear b0 b1 b2 e0 e1 e2 e3 f0 f1 f2 f3
  obtain ⟨⟨b0, b1, b2⟩, y0, y1, y2⟩ := B1.out.1.get3
  obtain ⟨⟨e0, e1, e2, e3⟩, f0, f1, f2, f3⟩ := B1.out.2.get
  have v0 : 0 ≤ (fz : Int) := by omega
  have v1 : (fz : Int) < (s.size : Int) := by omega
  go_upto_region 19 with (fail)
  go_region
  all_goals
    go_upto_region 20 with (fail)

    have B2 := Lib.hid (And.intro ((B1.out.1.set (k := 2) (by simp) (.string (l[k].wt ++ s.extract 0 fz))).q (Q.refl _).drew) ((B1.out.2.far1 z0 2 (.string (l[k].wt ++ s.extract 0 fz))).step (Q.refl _).drew))
    have O2 := Lib.hid ((O1.out.away HNE.out 2 (.string (l[k].wt ++ s.extract 0 fz))).q (Q.refl _).drew)
    clear b0 b1 b2 y0 y1 y2 e0 e1 e2 e3 f0 f1 f2 f3 B1 O1 HNE
    generalize (W1.setCell ⟨g, 2, none⟩ (.string (l[k].wt ++ s.extract 0 fz))).drew = V at B2 O2 ⊢
    obtain ⟨⟨b0, b1, b2⟩, _⟩ := B2.out.1.get3
    obtain ⟨⟨e0, e1, e2, e3⟩, _⟩ := B2.out.2.get
    go_wp2_with fail
    refine (ref_with (some ad) n c room (fz : Int) false k ⟨l[k].nm, l[k].sf, l[k].wt ++ s.extract 0 fz⟩ l _ O2.out qk).mono ?_
    rintro e w5 ⟨A5, c5, rfl, ho5, q5⟩
    have D1 := Lib.hid (Sd.new B2.out.2 q5 ho5)
    have P1 := B2.out.2.step q5
    have hn5 : n * 48 ≤ 140737488355328 := O2.out.few
    clear b0 b1 b2 e0 e1 e2 e3 B2 O2 ho5 q5
    obtain ⟨⟨e0, e1, e2, e3⟩, f0, f1, f2, f3⟩ := P1.get
    clear P1
    go_upto_region 21 with (fail)
    generalize ((((w5.setCell ⟨w.heap.size, 0, none⟩ (.slice A5 n c5)).setCell ⟨w.heap.size, 1, none⟩ (.int .i64 room)).setCell ⟨w.heap.size, 2, none⟩ (.int .i64 (fz : Int))).setCell ⟨w.heap.size, 3, none⟩ (.bool false)) = V1 at D1 ⊢
    clear e0 e1 e2 e3 f0 f1 f2 f3
    obtain ⟨⟨e0, e1, e2, e3⟩, f0, f1, f2, f3⟩ := D1.out.sb.get
    go_upto_region 22 with (fail)
    have D2 := Lib.hid (D1.out.setRoom (room - (fz : Nat)))
    clear e0 e1 e2 e3 f0 f1 f2 f3 D1
    generalize (V1.setCell ⟨w.heap.size, 1, none⟩ (.int .i64 (room - (fz : Nat)))) = V2 at D2 ⊢
    obtain ⟨⟨e0, e1, e2, e3⟩, f0, f1, f2, f3⟩ := D2.out.sb.get
    go_upto_region 24 with (fail)
    have D3 := Lib.hid (D2.out.setFuse 0)
    clear e0 e1 e2 e3 f0 f1 f2 f3 D2
    generalize (V2.setCell ⟨w.heap.size, 2, none⟩ (.int .i64 0)) = V3 at D3 ⊢
    obtain ⟨⟨e0, e1, e2, e3⟩, f0, f1, f2, f3⟩ := D3.out.sb.get
    go_upto_region 26 with (fail)
    have D4 := Lib.hid (D3.out.setOff true)
    clear e0 e1 e2 e3 f0 f1 f2 f3 D3
    generalize (V3.setCell ⟨w.heap.size, 3, none⟩ (.bool true)) = V4 at D4 ⊢
    obtain ⟨⟨e0, e1, e2, e3⟩, f0, f1, f2, f3⟩ := D4.out.sb.get
    obtain ⟨⟨s0, s1, s2, s3⟩, h0', h1, h2, h3⟩ := D4.out.sb.getR
    go_wp2
    refine bodyPost_ret (v := .tuple #[dkv A5 n c5 (room - (fz : Nat)) 0 true, .int .i64 6]) (by simp [results, Tryz.results42, go_sem, s0, s1, s2, s3]) rfl ?_
    exact D4.out.endK hn5 6 _ _ _ _
end Go.Proofs.YtggbdhnjogalgaaGreatDoor

/- Contracts: the document's Append, Sync, all cases together. -/
namespace Go.Proofs.YtggbdhnjogalgaaGreatDoor
set_option maxRecDepth 100000
open Go.RowKit Dkm
set_option linter.unusedVariables false

theorem ref_sync_any (nm : ByteArray) (A : Option Addr) (n c : Nat) (d : Dk) (w : World) (hd : Dsk w A n c d.fs) (hs : ∀ f ∈ d.fs, f.sf.size + f.wt.size ≤ maxLen) :
    Calls Tryz.prog 43 #[dkv A n c d.room d.fuse d.off, .string nm] w fun e w' => RetDK w A n (syn d nm).1 (syn d nm).2 e w' := by
  obtain ⟨l, room, fuse, off⟩ := d
  simp only at hd hs ⊢
  cases off with
  | true =>
    rw [show syn ⟨l, room, fuse, true⟩ nm = (⟨l, room, fuse, true⟩, 6) from rfl]
    exact ref_sync_off nm A n c room fuse l w hd
  | false =>
    rcases plc_cases nm l with ⟨hp, hall⟩ | ⟨k, hk, hp, hkn, hfirst⟩
    · rw [syn_none hall]
      exact ref_sync_none nm A n c room fuse l w hd _ hp (by omega)
    · rw [syn_at hk hkn hfirst]
      exact ref_sync_yes nm A n c room fuse l w hd k hk hp (hs _ (List.getElem_mem hk))

theorem set_last {l : List Fil} {f g : Fil} {n : Nat} (h : l.length = n) : (l ++ [f]).set n g = l ++ [g] := by
  subst h
  rw [List.set_append_right _ _ (Nat.le_refl _)]
  simp

theorem ref_append_any (nm s : ByteArray) (A : Option Addr) (n c : Nat) (d : Dk) (w : World) (hd : Dsk w A n c d.fs) (hf : ∀ f ∈ d.fs, f.sf.size + f.wt.size ≤ 2305843009213693952) (hs : s.size ≤ 2305843009213693952)
    (hr2 : d.room ≤ 9223372036854775807) (hfu : d.fuse ≤ 9223372036854775807) :
    Calls Tryz.prog 42 #[dkv A n c d.room d.fuse d.off, .string nm, .string s] w fun e w' => RetDK w A n (appd d nm s).1 (appd d nm s).2 e w' := by
  obtain ⟨l, room, fuse, off⟩ := d
  simp only at hd hf hr2 hfu ⊢
  have hlen := hd.len
  cases off with
  | true =>
    rw [show appd ⟨l, room, fuse, true⟩ nm s = (⟨l, room, fuse, true⟩, 6) from rfl]
    exact ref_app_off nm s A n c room fuse l w hd
  | false =>
    by_cases hn : nmOk nm = true
    · have key : ∀ (f : Fil) (k : Nat), opn nm l = (f, k) → ¬ ((k = l.length ∧ 64 ≤ l.length) ∨ room < s.size) → ¬ 65536 < f.sf.size + f.wt.size + s.size →
          appd ⟨l, room, fuse, false⟩ nm s = (⟨put l k ⟨f.nm, f.sf, f.wt ++ cut fuse s⟩, room - (cut fuse s).size, if 0 ≤ fuse then fuse - (cut fuse s).size else fuse, short fuse s⟩, if short fuse s then 6 else 0) := by
        intro f k hop h1 h2
        unfold appd; simp only [hn, hop]; rw [if_neg (by simp), if_neg (by simp), if_neg h1, if_neg h2]
      have kneg : fuse < 0 → cut fuse s = s ∧ short fuse s = false := fun h => by
        have e1 : short fuse s = false := by unfold short; simp; omega
        exact ⟨by unfold cut; rw [e1]; rfl, e1⟩
      have kfit : (s.size : Int) ≤ fuse → cut fuse s = s ∧ short fuse s = false := fun h => by
        have e1 : short fuse s = false := by unfold short; simp; omega
        exact ⟨by unfold cut; rw [e1]; rfl, e1⟩
      have ksh : ∀ q : Nat, fuse = q → q < s.size → cut fuse s = s.extract 0 q ∧ short fuse s = true ∧ (s.extract 0 q).size = q := fun q e h => by
        subst e
        have e1 : short (q : Int) s = true := by unfold short; simp; omega
        exact ⟨by unfold cut; rw [e1]; simp, e1, by simp; omega⟩
      rcases plc_cases nm l with ⟨hp, hall⟩ | ⟨k, hk, hp, hkn, hfirst⟩
      · have hop := opn_none hall
        by_cases hful : 64 ≤ l.length ∨ room < s.size
        · rw [show appd ⟨l, room, fuse, false⟩ nm s = (⟨l, room, fuse, false⟩, 5) by unfold appd; simp only [hn, hop]; rw [if_neg (by simp), if_neg (by simp), if_pos (by rcases hful with h | h; exact .inl ⟨by simp, h⟩; exact .inr h)]]
          exact ref_app_full nm s A n c room fuse l w hd hn _ hp (by omega)
        · by_cases hb : 65536 < s.size
          · rw [show appd ⟨l, room, fuse, false⟩ nm s = (⟨l, room, fuse, false⟩, 4) by unfold appd; simp only [hn, hop]; rw [if_neg (by simp), if_neg (by simp), if_neg (by omega), if_pos (by rw [show (⟨#[]⟩ : ByteArray).size = 0 from rfl]; omega)]]
            exact ref_app_big_none nm s A n c room fuse l w hd hn _ hp (by omega) (by omega) (by omega) hs hb
          · rw [key _ _ hop (by omega) (by rw [show (⟨#[]⟩ : ByteArray).size = 0 from rfl]; omega)]
            have hput : ∀ g, put l l.length g = (l ++ [(⟨nm, ⟨#[]⟩, ⟨#[]⟩⟩ : Fil)]).set n g := fun g => by rw [set_last hlen]; unfold put; rw [if_pos rfl]
            rw [hput]
            by_cases h0 : fuse < 0
            · obtain ⟨e1, e2⟩ := kneg h0
              rw [e1, e2, if_neg (by omega), if_neg (by simp)]
              exact ref_app_none_neg nm s A n c room fuse l w hd hn _ hp (by omega) (by omega) (by omega) hs h0 hr2 (by omega)
            · by_cases h1 : (s.size : Int) ≤ fuse
              · obtain ⟨e1, e2⟩ := kfit h1
                rw [e1, e2, if_pos (by omega), if_neg (by simp)]
                exact ref_app_none_fits nm s A n c room fuse l w hd hn _ hp (by omega) (by omega) (by omega) hs h1 hfu hr2 (by omega)
              · obtain ⟨q, rfl⟩ : ∃ q : Nat, fuse = q := ⟨fuse.toNat, by omega⟩
                obtain ⟨e1, e2, e3⟩ := ksh q rfl (by omega)
                rw [e1, e2, e3, if_pos (by omega), if_pos rfl, Int.sub_self]
                exact ref_app_none_short nm s A n c room q l w hd hn _ hp (by omega) (by omega) (by omega) hs (by omega) hr2 (by omega)
      · have hop := opn_at hk hkn hfirst
        have hz := hf _ (List.getElem_mem hk)
        by_cases hful : room < s.size
        · rw [show appd ⟨l, room, fuse, false⟩ nm s = (⟨l, room, fuse, false⟩, 5) by unfold appd; simp only [hn, hop]; rw [if_neg (by simp), if_neg (by simp), if_pos (.inr hful)]]
          exact ref_app_full nm s A n c room fuse l w hd hn _ hp (.inr hful)
        · by_cases hb : 65536 < l[k].sf.size + l[k].wt.size + s.size
          · rw [show appd ⟨l, room, fuse, false⟩ nm s = (⟨l, room, fuse, false⟩, 4) by unfold appd; simp only [hn, hop]; rw [if_neg (by simp), if_neg (by simp), if_neg (by omega), if_pos hb]]
            exact ref_app_big_at nm s A n c room fuse l w hd hn k hk (by omega) hp (by omega) hs hz hb
          · rw [key _ _ hop (by omega) hb]
            have hput : ∀ g, put l k g = l.set k g := fun g => by unfold put; rw [if_neg (by omega)]
            rw [hput]
            by_cases h0 : fuse < 0
            · obtain ⟨e1, e2⟩ := kneg h0
              rw [e1, e2, if_neg (by omega), if_neg (by simp)]
              exact ref_app_at_neg nm s A n c room fuse l w hd hn k hk (by omega) hp (by omega) hs hz h0 hr2 (by omega)
            · by_cases h1 : (s.size : Int) ≤ fuse
              · obtain ⟨e1, e2⟩ := kfit h1
                rw [e1, e2, if_pos (by omega), if_neg (by simp)]
                exact ref_app_at_fits nm s A n c room fuse l w hd hn k hk (by omega) hp (by omega) hs hz h1 hfu hr2 (by omega)
              · obtain ⟨q, rfl⟩ : ∃ q : Nat, fuse = q := ⟨fuse.toNat, by omega⟩
                obtain ⟨e1, e2, e3⟩ := ksh q rfl (by omega)
                rw [e1, e2, e3, if_pos (by omega), if_pos rfl, Int.sub_self]
                exact ref_app_at_short nm s A n c room q l w hd hn k hk (by omega) hp (by omega) hs hz (by omega) hr2 (by omega)
    · rw [show appd ⟨l, room, fuse, false⟩ nm s = (⟨l, room, fuse, false⟩, 1) by unfold appd; rw [if_neg (by simp), if_pos (by simpa using hn)]]
      exact ref_app_arg nm s A n c room fuse l w hd (by simpa using hn)
end Go.Proofs.YtggbdhnjogalgaaGreatDoor

/- The contract of wal.Put. -/
namespace Go.Proofs.YtggbdhnjogalgaaGreatDoor
set_option maxRecDepth 100000
open Go.RowKit Dkm Wm
set_option linter.unusedVariables false

theorem Sd.endW {w wr : World} {A : Option Addr} {n c : Nat} {room fuse : Int} {off : Bool} {L : List Fil} (h : Sd w A n c room fuse off L wr) (hn : n * 48 ≤ 140737488355328) (vs : List Value) (x y z u : Value) :
    RetW w ⟨L, room, fuse, off⟩ vs (.returned (.tuple (dkv A n c room fuse off :: vs).toArray)) ((((wr.setCell ⟨w.heap.size + 1, 0, none⟩ x).setCell ⟨w.heap.size + 1, 1, none⟩ y).setCell ⟨w.heap.size + 1, 2, none⟩ z).setCell ⟨w.heap.size + 1, 3, none⟩ u) :=
  ⟨A, n, c, rfl, (h.own.set4 (b := w.heap.size + 1) (by omega) _ _ _ _).dsk hn, fun ad e => by have h1 := h.own.far_ ad e; omega, h.sb.q.set4 (b := w.heap.size + 1) (by omega) _ _ _ _⟩

theorem Sd.new2 {w wr w5 : World} {A A0 : Option Addr} {n c n0 c0 : Nat} {room fuse room0 fuse0 : Int} {off off0 : Bool} {L : List Fil} (h : Sb w A0 n0 c0 room0 fuse0 off0 wr) (q : Q wr w5) (ho : Own w5 wr.heap.size A n c L) :
    Sd w A n c room fuse off L ((((w5.setCell ⟨w.heap.size, 0, none⟩ (.slice A n c)).setCell ⟨w.heap.size, 1, none⟩ (.int .i64 room)).setCell ⟨w.heap.size, 2, none⟩ (.int .i64 fuse)).setCell ⟨w.heap.size, 3, none⟩ (.bool off)) :=
  ⟨(h.step q).put4 A n c room fuse off, (ho.lower (by have := h.res.lt; omega)).set4 (b := w.heap.size) (by omega) _ _ _ _⟩

set_option maxHeartbeats 4000000 in
theorem put_fit (seg : Int) (rec : ByteArray) (A : Option Addr) (n c : Nat) (d : Dk) (w : World) (hT : Tab w) (hd : Dsk w A n c d.fs) (hB : Bnd 2305843009213693952 d) (h1 : segOk seg) (h2 : rec.size ≤ 2048) (h3 : (redd (namB seg) d.fs).1.size < 256) :
    Calls Tryz.prog 15 #[dkv A n c d.room d.fuse d.off, .int .i64 seg, .string rec] w fun e w' => RetW w (putA d seg rec).1 [.int .i64 seg, .int .i64 (putA d seg rec).2.2] e w' := by
  obtain ⟨l, room, fuse, off⟩ := d
  have HT := Lib.hid hT
  have HD := Lib.hid hd
  have HN := Lib.hid hd.max
  have HB := Lib.hid hB
  have hmx : ∀ f ∈ l, f.sf.size + f.wt.size ≤ maxLen := fun f hf => Nat.le_trans (hB.sum f hf) (by unfold maxLen; omega)
  have hal := appd_few ⟨l, room, fuse, off⟩ (namB seg) (sealB rec)
  have hsb : (sealB rec).size ≤ 2305843009213693952 := by rw [sealB_size]; have := sld_length rec.data.toList (by rw [size_list]; omega); rw [size_list] at this; omega
  have KA := Lib.hid (fun w hd => append_any (namB seg) (sealB rec) A n c ⟨l, room, fuse, off⟩ w hd HB.out.sum hsb HB.out.room.2 HB.out.fuse.2)
  have KL := Lib.hid (fun w => seal_any rec w (by omega))
  have KR := Lib.hid (fun w hf => read_any (namB seg) A n c room fuse off l w hf HN.out hmx)
  have KN := Lib.hid (name_any seg)
  have KU := Lib.hid (numbered_yes seg h1)
  unfold putA
  generalize appd ⟨l, room, fuse, off⟩ (namB seg) (sealB rec) = r at hal KA ⊢
  have h3' : (redd (namB seg) l).1.size < 256 := h3
  generalize redd (namB seg) l = b at KR h3'
  obtain ⟨b, be⟩ := b
  have t3 : ¬ 256 ≤ b.size := by have : b.size < 256 := h3'; omega
  clear hT hd hB hmx h1 h3 h3' hsb
  change Hid (∀ w, Calls _ _ _ w fun e w' => e = .returned (.string (sealB rec)) ∧ Q w w') at KL
  generalize sealB rec = sr at KA KL
  go_enter Tryz.func15, Tryz.ntmps15
  go_wp2_with fail
  refine (KU.out _).mono ?_
  rintro e w1 ⟨rfl, q1⟩
  have X := Lib.hid ((Sb.new w A n c room fuse off).step q1)
  clear q1
  go_upto_region 5 with (fail)
  obtain ⟨⟨e0, e1, e2, e3⟩, f0, f1, f2', f3⟩ := X.out.get
  go_region_held3 (fun w' => w'.cell? ⟨w.heap.size, 0, none⟩ = some (.slice A n c) ∧ w'.cell? ⟨w.heap.size, 1, none⟩ = some (.int .i64 room) ∧ w'.cell? ⟨w.heap.size, 2, none⟩ = some (.int .i64 fuse) ∧ w'.cell? ⟨w.heap.size, 3, none⟩ = some (.bool off))
    (first
      | go_keep
      | (go_split_ands
         (repeat' apply And.intro) <;> exact box_ ‹Q _ _› (by assumption)))
    (first
      | (go_at_call 13
         (with_reducible refine (KN.out _ (HT.out.q (X.out.q.trans (Q.refl w1).drew))).mono ?_)
         rintro e w2 ⟨rfl, q2⟩)
      | (go_at_call 20
         (with_reducible refine (KR.out _ (HD.out.files.q (X.out.q.trans ((Q.refl w1).drew.trans q2)))).mono ?_)
         rintro e w3 ⟨rfl, q3⟩))
  have Y := Lib.hid (X.out.step (((Q.refl w1).drew.trans q2).trans q3))
  clear X q2 q3 e0 e1 e2 e3 f0 f1 f2' f3
  have DW := Lib.hid (HD.out.q Y.out.q)
  obtain ⟨⟨e0, e1, e2, e3⟩, f0, f1, f2', f3⟩ := Y.out.get
  go_upto_region 14 with (fail)
  generalize w3 = W at Y DW e0 e1 e2 e3 f0 f1 f2' f3 ⊢
  have QW := Lib.hid (Q.refl W)
  refine wp_region_heldL 9 (Q W) (by kernel_rfl) ?szz0 (fun hHeld => ?rzz0)
  case szz0 =>
    exact (Q.refl W).drew
  case' rzz0 => skip
  refine wpAnyL_take (i := 0) (oi := ?ozz1) (v := ?vzz1) ?hzz1 ?azz1 ?bzz1 ?czz1 ?kzz1 ?qzz1 ?yzz1 ?szz1 ?rzz1
  case hzz1 => simp only [List.getElem?_toArray, List.getElem?_cons_zero]; rfl
  case azz1 => kernel_rfl
  case bzz1 => kernel_rfl
  case czz1 => kernel_rfl
  case kzz1 => kernel_rfl
  case yzz1 =>
    refine Or.inl ⟨by rfl, ?_⟩
    intro w hSw
    have x0 := box_ hSw e0; have x1 := box_ hSw e1; have x2 := box_ hSw e2; have x3 := box_ hSw e3; clear hSw
    go_simp
    try with_reducible rfl
  case qzz1 => exact fun _ _ _ h => h
  case szz1 => first | assumption | trivial
  case' rzz1 => simp only [Act.put, List.setIfInBounds_toArray, List.set_cons_zero, List.set_cons_succ]
  refine wpAnyL_take (i := 1) (oi := ?ozz2) (v := ?vzz2) ?hzz2 ?azz2 ?bzz2 ?czz2 ?kzz2 ?qzz2 ?yzz2 ?szz2 ?rzz2
  case hzz2 => simp only [List.getElem?_toArray, List.getElem?_cons_zero, List.getElem?_cons_succ]; rfl
  case azz2 => kernel_rfl
  case bzz2 => kernel_rfl
  case czz2 => kernel_rfl
  case kzz2 => kernel_rfl
  case yzz2 =>
    refine Or.inl ⟨by rfl, ?_⟩
    intro w hSw
    skip
    go_simp
    try with_reducible rfl
  case qzz2 => exact fun _ _ _ h => h
  case szz2 => first | assumption | trivial
  case' rzz2 => simp only [Act.put, List.setIfInBounds_toArray, List.set_cons_zero, List.set_cons_succ]
  refine wpAnyL_take (i := 3) (oi := ?ozz3) (v := ?vzz3) ?hzz3 ?azz3 ?bzz3 ?czz3 ?kzz3 ?qzz3 ?yzz3 ?szz3 ?rzz3
  case hzz3 => simp only [List.getElem?_toArray, List.getElem?_cons_zero, List.getElem?_cons_succ]; rfl
  case azz3 => kernel_rfl
  case bzz3 => kernel_rfl
  case czz3 => kernel_rfl
  case kzz3 => kernel_rfl
  case yzz3 =>
    refine Or.inl ⟨by rfl, ?_⟩
    intro w hSw
    skip
    go_simp
    try with_reducible rfl
  case qzz3 => exact fun _ _ _ h => h
  case szz3 => first | assumption | trivial
  case' rzz3 => simp only [Act.put, List.setIfInBounds_toArray, List.set_cons_zero, List.set_cons_succ]
  refine wpAnyL_ready (rs := [2]) (by kernel_rfl) (by simp) ?_
  refine AllReadyL.cons (o := ?ozz14) ?hzz14 (fun K hK => ?kzz14) ?mzz14
  case hzz14 => simp only [List.getElem?_toArray, List.getElem?_cons_zero, List.getElem?_cons_succ]; rfl
  case kzz14 =>
    go_simp
    refine (KN.out _ (HT.out.q (Y.out.q.trans hHeld))).mono ?_
    rintro e w3 ⟨rfl, q3⟩
    go_wp2_with fail
    refine hK.out _ _ ?Szz14 (fun hHeld => ?Rzz14)
    case Szz14 =>
      exact hHeld.trans q3
    case Rzz14 =>
      clear hK K
      try simp only [Act.put, List.setIfInBounds_toArray, List.set_cons_zero, List.set_cons_succ]
      refine wpAnyL_ready (rs := [4]) (by kernel_rfl) (by simp) ?_
      refine AllReadyL.cons (o := ?ozz13) ?hzz13 (fun K hK => ?kzz13) ?mzz13
      case hzz13 => simp only [List.getElem?_toArray, List.getElem?_cons_zero, List.getElem?_cons_succ]; rfl
      case kzz13 =>
        go_simp
        refine (KL.out _).mono ?_
        rintro e w4 ⟨rfl, q4⟩
        go_wp2_with fail
        refine hK.out _ _ ?Szz13 (fun hHeld => ?Rzz13)
        case Szz13 =>
          exact hHeld.trans q4
        case Rzz13 =>
          clear hK K
          try simp only [Act.put, List.setIfInBounds_toArray, List.set_cons_zero, List.set_cons_succ]
          refine wpAnyL_ready (rs := [5]) (by kernel_rfl) (by simp) ?_
          refine AllReadyL.cons (o := ?ozz12) ?hzz12 (fun K hK => ?kzz12) ?mzz12
          case hzz12 => simp only [List.getElem?_toArray, List.getElem?_cons_zero, List.getElem?_cons_succ]; rfl
          case kzz12 =>
            go_simp
            refine (KA.out _ (DW.out.q hHeld)).mono ?_
            rintro e w5 ⟨A5, n5, c5, rfl, ho, q5⟩
            obtain ⟨⟨x0, x1, x2, x3⟩, y0, y1, y2, y3⟩ := ((Y.out.step hHeld).step q5).get
            have Z5 := Lib.hid (And.intro ho (And.intro hHeld q5))
            go_wp2_with fail
            refine hK.out _ _ ?Szz12 (fun hHeld => ?Rzz12)
            case Szz12 =>
              exact hHeld.trans q5
            case Rzz12 =>
              clear hK K
              try simp only [Act.put, List.setIfInBounds_toArray, List.set_cons_zero, List.set_cons_succ]
              refine wpAnyL_take (i := 6) (oi := ?ozz4) (v := ?vzz4) ?hzz4 ?azz4 ?bzz4 ?czz4 ?kzz4 ?qzz4 ?yzz4 ?szz4 ?rzz4
              case hzz4 => simp only [List.getElem?_toArray, List.getElem?_cons_zero, List.getElem?_cons_succ]; rfl
              case azz4 => kernel_rfl
              case bzz4 => kernel_rfl
              case czz4 => kernel_rfl
              case kzz4 => kernel_rfl
              case yzz4 =>
                refine Or.inl ⟨by rfl, ?_⟩
                intro w hSw
                skip
                go_simp
                try with_reducible rfl
              case qzz4 => exact fun _ _ _ h => h
              case szz4 => first | assumption | trivial
              case' rzz4 => simp only [Act.put, List.setIfInBounds_toArray, List.set_cons_zero, List.set_cons_succ]
              refine wpAnyL_take (i := 7) (oi := ?ozz5) (v := ?vzz5) ?hzz5 ?azz5 ?bzz5 ?czz5 ?kzz5 ?qzz5 ?yzz5 ?szz5 ?rzz5
              case hzz5 => simp only [List.getElem?_toArray, List.getElem?_cons_zero, List.getElem?_cons_succ]; rfl
              case azz5 => kernel_rfl
              case bzz5 => kernel_rfl
              case czz5 => kernel_rfl
              case kzz5 => kernel_rfl
              case yzz5 =>
                refine Or.inl ⟨by rfl, ?_⟩
                intro w hSw
                skip
                go_simp
                try with_reducible rfl
              case qzz5 => exact fun _ _ _ h => h
              case szz5 => first | assumption | trivial
              case' rzz5 => simp only [Act.put, List.setIfInBounds_toArray, List.set_cons_zero, List.set_cons_succ]
              refine wpAnyL_ready (rs := [8, 9]) (by kernel_rfl) (by simp) ?_
              refine AllReadyL.cons (o := ?ozz10) ?hzz10 (fun K hK => ?kzz10) ?mzz10
              case hzz10 => simp only [List.getElem?_toArray, List.getElem?_cons_zero, List.getElem?_cons_succ]; rfl
              case kzz10 =>
                go_simp
                refine hK.out _ _ ?Szz10 (fun hHeld => ?Rzz10)
                case Szz10 =>
                  exact hHeld
                case Rzz10 =>
                  clear hK K
                  try simp only [Act.put, List.setIfInBounds_toArray, List.set_cons_zero, List.set_cons_succ]
                  refine wpAnyL_ready (rs := [9]) (by kernel_rfl) (by simp) ?_
                  refine AllReadyL.consK (o := ?ozz7) ?hzz7 ?lzz7 (fun K hK => ?kzz7) ?mzz7
                  case hzz7 => simp only [List.getElem?_toArray, List.getElem?_cons_zero, List.getElem?_cons_succ]; rfl
                  case lzz7 => kernel_rfl
                  case kzz7 =>
                    go_simp
                    refine hK.out _ _ ?Rzz7
                    case Rzz7 =>
                      clear hK K
                      try simp only [Act.put, List.setIfInBounds_toArray, List.set_cons_zero, List.set_cons_succ]
                      refine wpAnyH_take (i := 10) (oi := ?ozz6) (v := ?vzz6) ?hzz6 ?azz6 ?bzz6 ?czz6 ?qzz6 ?yzz6 ?szz6 ?rzz6
                      case hzz6 => simp only [List.getElem?_toArray, List.getElem?_cons_zero, List.getElem?_cons_succ]; rfl
                      case azz6 => kernel_rfl
                      case bzz6 => kernel_rfl
                      case czz6 => kernel_rfl
                      case yzz6 =>
                        refine Or.inl ⟨by rfl, ?_⟩
                        intro w hSw
                        skip
                        go_simp
                        try with_reducible rfl
                      case qzz6 => exact fun _ _ _ h => h
                      case szz6 => first | assumption | trivial
                      case' rzz6 => simp only [Act.put, List.setIfInBounds_toArray, List.set_cons_zero, List.set_cons_succ]
                      refine wpAnyH_done (by kernel_rfl) ?_ _
                      have hn5 : n5 * 48 ≤ 140737488355328 := by have h1 := Z5.out.1.len; have h2 := HD.out.len; have h3 := HD.out.few; omega
                      have D1 := Lib.hid (Sd.new2 (room := r.1.room) (fuse := r.1.fuse) (off := r.1.off) (Y.out.step Z5.out.2.1) Z5.out.2.2 Z5.out.1)
                      clear e0 e1 e2 e3 f0 f1 f2' f3 x0 x1 x2 x3 y0 y1 y2 y3
                      generalize ((((w5.setCell ⟨w.heap.size, 0, none⟩ (.slice A5 n5 c5)).setCell ⟨w.heap.size, 1, none⟩ (.int .i64 r.1.room)).setCell ⟨w.heap.size, 2, none⟩ (.int .i64 r.1.fuse)).setCell ⟨w.heap.size, 3, none⟩ (.bool r.1.off)) = V at D1 ⊢
                      obtain ⟨⟨e0, e1, e2, e3⟩, f0, f1, f2', f3⟩ := D1.out.sb.get
                      obtain ⟨⟨s0, s1, s2, s3⟩, h0, h1, h2, h3⟩ := D1.out.sb.getR
                      go_wp2
                      refine bodyPost_ret (v := .tuple #[dkv A5 n5 c5 r.1.room r.1.fuse r.1.off, .int .i64 seg, .int .i64 r.2]) (by simp [results, Tryz.results15, go_sem, s0, s1, s2, s3]) rfl ?_
                      exact D1.out.endW hn5 [.int .i64 seg, .int .i64 r.2] _ _ _ _
                  case' mzz7 => skip
                  exact AllReadyL.nil
              case' mzz10 => skip
              refine AllReadyL.consK (o := ?ozz11) ?hzz11 ?lzz11 (fun K hK => ?kzz11) ?mzz11
              case hzz11 => simp only [List.getElem?_toArray, List.getElem?_cons_zero, List.getElem?_cons_succ]; rfl
              case lzz11 => kernel_rfl
              case kzz11 =>
                go_simp
                refine hK.out _ _ ?Rzz11
                case Rzz11 =>
                  clear hK K
                  try simp only [Act.put, List.setIfInBounds_toArray, List.set_cons_zero, List.set_cons_succ]
                  refine wpAnyH_take (i := 8) (oi := ?ozz8) (v := ?vzz8) ?hzz8 ?azz8 ?bzz8 ?czz8 ?qzz8 ?yzz8 ?szz8 ?rzz8
                  case hzz8 => simp only [List.getElem?_toArray, List.getElem?_cons_zero, List.getElem?_cons_succ]; rfl
                  case azz8 => kernel_rfl
                  case bzz8 => kernel_rfl
                  case czz8 => kernel_rfl
                  case yzz8 =>
                    refine Or.inl ⟨by rfl, ?_⟩
                    intro w hSw
                    skip
                    go_simp
                    try with_reducible rfl
                  case qzz8 => exact fun _ _ _ h => h
                  case szz8 => first | assumption | trivial
                  case' rzz8 => simp only [Act.put, List.setIfInBounds_toArray, List.set_cons_zero, List.set_cons_succ]
                  refine wpAnyH_take (i := 10) (oi := ?ozz9) (v := ?vzz9) ?hzz9 ?azz9 ?bzz9 ?czz9 ?qzz9 ?yzz9 ?szz9 ?rzz9
                  case hzz9 => simp only [List.getElem?_toArray, List.getElem?_cons_zero, List.getElem?_cons_succ]; rfl
                  case azz9 => kernel_rfl
                  case bzz9 => kernel_rfl
                  case czz9 => kernel_rfl
                  case yzz9 =>
                    refine Or.inl ⟨by rfl, ?_⟩
                    intro w hSw
                    skip
                    go_simp
                    try with_reducible rfl
                  case qzz9 => exact fun _ _ _ h => h
                  case szz9 => first | assumption | trivial
                  case' rzz9 => simp only [Act.put, List.setIfInBounds_toArray, List.set_cons_zero, List.set_cons_succ]
                  refine wpAnyH_done (by kernel_rfl) ?_ _
                  have hn5 : n5 * 48 ≤ 140737488355328 := by have h1 := Z5.out.1.len; have h2 := HD.out.len; have h3 := HD.out.few; omega
                  have D1 := Lib.hid (Sd.new2 (room := r.1.room) (fuse := r.1.fuse) (off := r.1.off) (Y.out.step Z5.out.2.1) Z5.out.2.2 Z5.out.1)
                  clear e0 e1 e2 e3 f0 f1 f2' f3 x0 x1 x2 x3 y0 y1 y2 y3
                  generalize ((((w5.setCell ⟨w.heap.size, 0, none⟩ (.slice A5 n5 c5)).setCell ⟨w.heap.size, 1, none⟩ (.int .i64 r.1.room)).setCell ⟨w.heap.size, 2, none⟩ (.int .i64 r.1.fuse)).setCell ⟨w.heap.size, 3, none⟩ (.bool r.1.off)) = V at D1 ⊢
                  obtain ⟨⟨e0, e1, e2, e3⟩, f0, f1, f2', f3⟩ := D1.out.sb.get
                  obtain ⟨⟨s0, s1, s2, s3⟩, h0, h1, h2, h3⟩ := D1.out.sb.getR
                  go_wp2
                  refine bodyPost_ret (v := .tuple #[dkv A5 n5 c5 r.1.room r.1.fuse r.1.off, .int .i64 seg, .int .i64 r.2]) (by simp [results, Tryz.results15, go_sem, s0, s1, s2, s3]) rfl ?_
                  exact D1.out.endW hn5 [.int .i64 seg, .int .i64 r.2] _ _ _ _
              case' mzz11 => skip
              exact AllReadyL.nil
          case' mzz12 => skip
          exact AllReadyL.nil
      case' mzz13 => skip
      exact AllReadyL.nil
  case' mzz14 => skip
  exact AllReadyL.nil
end Go.Proofs.YtggbdhnjogalgaaGreatDoor
