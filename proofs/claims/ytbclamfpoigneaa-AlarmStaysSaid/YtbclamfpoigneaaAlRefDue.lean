/- Contracts: the document's Due, Drop. -/
import Derived.Test.YtbclamfpoigneaaAlRefPop
namespace Go.Proofs.Ytbclamfpoigneaa
set_option maxRecDepth 100000
open Go.RowKit
set_option linter.unusedVariables false
set_option linter.unusedSimpArgs false
namespace Am

theorem due_step {f : Nat} {h : List Al} {now : Nat} (hf : h.length ≤ f) (h0 : 0 < h.length) (hd : (g h 0).at_ ≤ now) :
    ∃ f', due f h now = ((due f' (popR h) now).1, (g h 0).id :: (due f' (popR h) now).2) ∧ (popR h).length ≤ f' := by
  cases f with
  | zero => omega
  | succ f =>
    refine ⟨f, ?_, by rw [popR_len]; omega⟩
    conv => lhs; unfold due
    rw [if_pos ⟨h0, hd⟩]
theorem due_end {f : Nat} {h : List Al} {now : Nat} (hd : ¬ (0 < h.length ∧ (g h 0).at_ ≤ now)) : due f h now = (h, []) := by
  cases f with
  | zero => rfl
  | succ f => unfold due; rw [if_neg hd]
theorem in_grown {α : Type} {K : Kind α} {w w' : World} {A : Option Addr} {n c : Nat} {l : List α} (h : In_ K w A n c l) {row : Option Nat} (hg : w.grownBy w' row) (hne : ∀ ad, A = some ad → some ad.block ≠ row) : In_ K w' A n c l := by
  refine ⟨⟨h.lst.1, fun j u hu => ?_⟩, h.nil, h.le, h.cap, h.few⟩
  obtain ⟨ad, e, hb, hc⟩ := h.lst.2 j u hu
  refine ⟨ad, e, Nat.lt_of_lt_of_le hb hg.size, ?_⟩
  have hbl : w'.heap[(ad.add j).block]? = w.heap[(ad.add j).block]? := hg.block _ (by rw [addr_block]; exact hb) (by rw [addr_block]; exact hne ad e)
  exact (World.cell?_of_block (w := w) (a := ad.add j) hbl).trans hc
theorem own_ge {α : Type} {K : Kind α} {w : World} {base : Nat} {A : Option Addr} {n c : Nat} {l : List α} (o : OwnK K w base A n c l) : ∀ ad, A = some ad → base ≤ ad.block ∧ ad.block < w.heap.size := by
  rintro ad rfl
  rcases o.parts with ⟨h0, _⟩ | ⟨g, cur, h0, _⟩
  · cases h0
  · injection h0 with h0
    subst h0
    exact o.block_lt
/-- what Due answers. -/
def RetD (w : World) (x : List Al × List Int) (e : Ending) (w' : World) : Prop :=
  ∃ A c B d, e = .returned (.tuple #[.slice A x.1.length c, .slice B x.2.length d]) ∧ In_ alK w' A x.1.length c x.1 ∧ OwnK numK w' w.heap.size B x.2.length d x.2 ∧ Q w w'
set_option maxHeartbeats 4000000 in
theorem rdue_any (A : Option Addr) (n c : Nat) (h : List Al) (now : Nat) (w : World) (hA : In_ alK w A n c h) (hn : n ≤ 900000) :
    Calls Try.prog 15 #[.slice A n c, .int .u64 (now : Int)] w (RetD w (due n h now)) := by
  have HA := Lib.hid hA
  have HN := Lib.hid hn
  clear hA
  go_enter Try.func15, Try.ntmps15
  go_wp2
  go_loopw [0, 6] (fun hv ov wr => ∃ (A4 B : Option Addr) (c4 d f : Nat) (l : List Al) (os : List Int), hv = .slice A4 l.length c4 ∧ ov = .slice B os.length d ∧ In_ alK wr A4 l.length c4 l ∧ OwnK numK wr w.heap.size B os.length d os ∧ l.length ≤ f ∧ l.length + os.length = n ∧ Apt A4 B ∧
    due n h now = ((due f l now).1, os ++ (due f l now).2) ∧ Q w wr) (fun hv _ _ => match hv with | .slice _ m _ => m | _ => 0)
  case atStart =>
    have hl := HA.out.len
    exact ⟨A, none, c, 0, n, h, [], by rw [hl], rfl, by rw [hl]; exact HA.out, OwnK.nil_ _ _ _, by omega, by simpa using hl, (fun _ _ _ e => by cases e), by simp, Q.refl _⟩
  case round =>
    obtain ⟨A4, B, c4, d, f, l, os, rfl, rfl, hi, ho, hlf, hls, hap, hdu, hq⟩ := hrel
    have HI := Lib.hid hi
    have HO := Lib.hid ho
    have HQ := Lib.hid hq
    have HD := Lib.hid hdu
    have HF := Lib.hid hlf
    have hb := HN.out
    have hlb : l.length ≤ 900000 := by omega
    have hob : os.length ≤ 900000 := by omega
    have HS := Lib.hid hls
    have HOB := Lib.hid (own_ge ho)
    clear hi ho hq hdu hlf hls hb hap
    have hfin : ∀ (e : ¬ (0 < l.length ∧ (g l 0).at_ ≤ now)), due n h now = (l, os) := fun e => by
      rw [HD.out, due_end e]; simp
    have HFIN := Lib.hid hfin
    clear hfin
    by_cases h0 : l.length = 0
    · have HX := Lib.hid (HFIN.out (by omega))
      generalize hm : l.length = m at *
      subst h0
      have hz : ¬ (0 : Int) < 0 := by omega
      have HM := Lib.hid hm
      clear hm
      go_wp2
      go_ret2
      refine ⟨A4, c4, B, d, by rw [HX.out]; simp only [HM.out]; rfl, ?_, ?_, HQ.out⟩
      · rw [HX.out]; simp only [HM.out]; exact HI.out
      · rw [HX.out]; exact HO.out
    have hp : 0 < l.length := by omega
    have hpi : (0 : Int) < (l.length : Int) := by omega
    obtain ⟨ad, rfl, hab, y0, y1⟩ := load_al HI.out.lst hp hp
    rw [show ad.add (0 * 2) = ad from rfl, ← g_lt hp] at y0
    rw [show ad.add (0 * 2) = ad from rfl, ← g_lt hp] at y1
    by_cases hd : (g l 0).at_ ≤ now
    case neg =>
      have HX := Lib.hid (HFIN.out (fun e => hd e.2))
      generalize (g l 0).at_ = x at *
      have hxn : ¬ (x : Int) ≤ (now : Int) := by omega
      have hxd : decide ((x : Int) ≤ (now : Int)) = false := decide_eq_false hxn
      generalize hm : l.length = m at *
      have HM := Lib.hid hm
      clear hm
      go_wp2
      go_ret2
      refine ⟨some ad, c4, B, d, by rw [HX.out]; simp only [HM.out]; rfl, ?_, ?_, HQ.out⟩
      · rw [HX.out]; simp only [HM.out]; exact HI.out
      · rw [HX.out]; exact HO.out
    obtain ⟨f', hs1, hs2⟩ := due_step HF.out hp hd
    have hpl := popR_len l
    have K1 := Lib.hid (fun W hA => rpop_any (some ad) l.length c4 l W hA hlb)
    have HST := Lib.hid (And.intro (HD.out.trans (by rw [hs1])) hs2)
    clear hs1 hs2
    unfold RetP alV at K1
    rw [decide_eq_true hp] at K1
    have HP0 := Lib.hid hp
    generalize g l 0 = a at *
    have hxn : (a.at_ : Int) ≤ (now : Int) := by omega
    generalize popR l = p at *
    generalize hm : l.length = m at *
    generalize hpm : p.length = pm at *
    have HM := Lib.hid (And.intro hm (And.intro hpm hpl))
    clear hm hpm hpl
    have hbo : (os.length + 1) * 8 ≤ 140737488355328 := by omega
    go_wp2_with fail
    refine (K1.out _ HI.out).mono ?_
    rintro e w2 ⟨A5, c5, rfl, i5, o5, q5⟩
    have AP5 := Lib.hid (own_ge (o5 HP0.out))
    clear o5
    have qa := (Q.refl w2).alloc (.cells #[.int .u64 (a.at_ : Int), .int .i64 a.id] 25)
    have X := Lib.hid (And.intro (i5.q qa) (And.intro ((HO.out.q q5).q qa) (And.intro ((HQ.out.trans q5).trans qa) (Bx.new w2 [.int .u64 (a.at_ : Int), .int .i64 a.id] 25))))
    have W23 := Lib.hid (Q.size qa)
    clear i5 q5 qa y0 y1 K1
    go_upto_region 5 with (fail)
    change Hid (_ ∧ _ ∧ _ ∧ Bx (w2.alloc (.cells #[.int .u64 (a.at_ : Int), .int .i64 a.id] 25)) _ _) at X
    generalize w2.heap.size = b8 at X ⊢
    change Hid (_ ≤ (w2.alloc (.cells #[.int .u64 (a.at_ : Int), .int .i64 a.id] 25)).heap.size) at W23
    generalize (w2.alloc (.cells #[.int .u64 (a.at_ : Int), .int .i64 a.id] 25)) = w3 at X W23 ⊢
    obtain ⟨⟨x0, x1⟩, _⟩ := X.out.2.2.2.get2
    have hsz := X.out.2.2.1.size
    go_wp2_with (at_builtin
                 refine wpl_appKG numK rfl (.tmp 28) (.tmp 31) 33 rfl rfl w.heap.size B os.length d os rfl (X.out.2.1.alloc _) (some ⟨w3.heap.size, 0, none⟩) 1 1 [a.id] rfl (lst_lit1 w3 a.id) (fun e => by cases e) hbo (by simp; omega) ?_
                 intro A6 c6 w4 o6 g6 t6
                 have Y6 := Lib.hid (And.intro o6 (And.intro g6 t6))
                 clear o6 g6 t6)
    go_roundw
    case rel =>
      have hsa := (X.out.2.2.1.alloc (.cells #[.int .i64 a.id] 3))
      have hii : In_ alK (w3.alloc (.cells #[.int .i64 a.id] 3)) A5 pm c5 p := X.out.1.q ((Q.refl w3).alloc _)
      have hbl := grown_below (X.out.2.1.alloc (.cells #[.int .i64 a.id] 3)) Y6.out.2.1 (by simp; omega)
      have hne : ∀ ad, A5 = some ad → some ad.block ≠ (Value.slice B os.length d).ownBlock := by
        intro ad5 e5 hx
        have h1 := (AP5.out ad5 e5).1
        cases B with
        | none => cases hx
        | some b =>
          have h2 := (HOB.out b rfl).2
          simp only [Value.ownBlock, Option.some.injEq] at hx
          omega
      have hap : Apt A5 A6 := by
        intro a5 a6 e5 e6 hx
        subst e6
        rcases Y6.out.2.2 with h | h
        · have h3 := hne a5 e5
          rw [← h] at h3
          exact h3 (by simp only [Value.ownBlock]; rw [hx])
        · simp only [Value.ownBlock, Option.some.injEq, World.size_alloc] at h
          have h4 := (AP5.out a5 e5).2
          have h5 : w2.heap.size ≤ w3.heap.size := W23.out
          omega
      refine ⟨A5, A6, c5, c6, f', p, os ++ [a.id], by rw [HM.out.2.1], by simp, ?_, by rw [List.length_append]; exact Y6.out.1, by rw [HM.out.2.1]; exact HST.out.2, ?_, hap, by rw [HST.out.1]; simp, hsa.below.trans hbl⟩
      · rw [HM.out.2.1]
        exact in_grown hii Y6.out.2.1 hne
      · rw [List.length_append, HM.out.2.1]
        have := HM.out.2.2
        have := HS.out
        have := HM.out.1
        have := HP0.out
        simp only [List.length_singleton]
        omega
    case measure =>
      have := HM.out.2.2
      show pm < m
      have := HP0.out
      omega
end Am
end Go.Proofs.Ytbclamfpoigneaa
