/- For every disk whose files have names unlike each other, every name, bytes, fuse and keeps: a file that is laid is, behind a loss of power at any byte of it and a crash, as it was, or as it was laid; one whose laying was OK is as it was laid. No condition. -/
import Derived.Test.YtodfdklcioafmaaB10
import Derived.Test.YtodfdklcioafmaaB5
import Derived.Test.YtodfdklcioafmaaB4
namespace Go.Proofs.Ytodfdklcioafmaa.runWhole
set_option maxRecDepth 100000
open Go.ChangeShapes Go.WideShapes Go.ChangeAt Go.RowKit Dkm Wm
set_option linter.unusedVariables false

def Un (l : List Fil) (a : Nat) : Prop := ∀ x y (hx : x < l.length) (hy : y < l.length), x < a → y < x → l[x].nm ≠ l[y].nm
def Ui (l : List Fil) (a b : Nat) : Prop := ∀ y (ha : a < l.length) (hy : y < l.length), y < b → l[a].nm ≠ l[y].nm
theorem un_succ {l : List Fil} {a : Nat} (h : Un l a) (hi : Ui l a a) : Un l (a + 1) := by
  intro x y hx hy hxa hyx
  by_cases e : x = a
  · subst e; exact hi y hx hy hyx
  · exact h x y hx hy (by omega) hyx
theorem un_uniq {l : List Fil} (h : Un l l.length) : Uniq l := by
  intro i j hi hj e
  rcases Nat.lt_trichotomy i j with hlt | he | hlt
  · exact absurd e.symm (h j i hj hi hj hlt)
  · exact he
  · exact absurd e (h i j hi hj hi hlt)
theorem Bnd.crs {B : Nat} {d : Dk} (h : Bnd B d) (ks : List Int) : Bnd B (Dkm.crs d ks) :=
  ⟨crs_sum d ks h.sum, by rw [crs_len]; exact h.few, croom_in ks d.fs d.room h.room _, ⟨by show (-9223372036854775808 : Int) ≤ -1; decide, by show (-1 : Int) ≤ 9223372036854775807; decide⟩⟩
/-- what the law lays on: the disk behind a crash, with its fuse. -/
def base (d : Dk) (fuse2 : Int) : Dk := { Dkm.crs d [] with fuse := max fuse2 (-1) }

/-- behind the loops: a crash, a fuse, a find, a laying, a crash, a find. -/
theorem ends (x : Dk × Int) (d2 : Dk) (nm s : ByteArray) (ks : List Int) (hu : Uniq d2.fs) (hd : Rn.Dry d2.fs) (hx : Rn.lay d2 nm s = x) :
    (x.2 = 0 → (hit nm (Dkm.crs x.1 ks).fs).2 = true ∧ (hit nm (Dkm.crs x.1 ks).fs).1.sf = s) ∧ (x.2 ≠ 0 → (hit nm (Dkm.crs x.1 ks).fs).2 = (hit nm d2.fs).2 ∧ (hit nm (Dkm.crs x.1 ks).fs).1.sf = (hit nm d2.fs).1.sf) := by
  subst hx
  exact ⟨fun h => Rn.lay_good ks hu hd h, fun h => Rn.lay_bad ks hd h⟩

set_option maxRecDepth 100000 in
set_option maxHeartbeats 8000000 in
theorem walk (A : Option Addr) (n c : Nat) (d : Dk) (nm s : ByteArray) (fuse2 : Int) (K : Option Addr) (kn kc : Nat) (ks : List Int) (w : World) (hd : DkIn w A n c d) (hnm : nm.size ≤ 140737488351232) (hs : s.size ≤ 140737488351232) (hf2 : -9223372036854775808 ≤ fuse2 ∧ fuse2 ≤ 9223372036854775807) (hk : Ints w K kn ks) (hkn : kn * 8 ≤ 140737488351232) :
    Calls Try.prog 7 #[.agg #[.slice A n c, .int .i64 d.room, .int .i64 d.fuse, .bool d.off, .string nm, .string s, .int .i64 fuse2, .slice K kn kc]] w fun e w' => e = .returned (.bool true) ∧ Q w w' := by
  have HB := Lib.hid hd.bnd
  have HL := Lib.hid hd.dsk.len
  have HK := Lib.hid hk
  have hfew := hd.dsk.few
  have B2 : Bnd 2305843009213693952 (base d fuse2) := by
    have h := Bnd.crs hd.bnd []
    exact ⟨h.sum, h.few, h.room, by have := hf2; unfold In64; show _ ≤ max fuse2 (-1) ∧ max fuse2 (-1) ≤ _; omega⟩
  have HB2 := Lib.hid B2
  have V0 : Hid (DV ((w.alloc (.cells #[.slice A n c, .int .i64 d.room, .int .i64 d.fuse, .bool d.off, .string nm, .string s, .int .i64 fuse2, .slice K kn kc] 50)).alloc (.cells #[.slice A n c, .int .i64 d.room, .int .i64 d.fuse, .bool d.off] 24)) (w.heap.size + 1) A n c d ∧ Q w ((w.alloc (.cells #[.slice A n c, .int .i64 d.room, .int .i64 d.fuse, .bool d.off, .string nm, .string s, .int .i64 fuse2, .slice K kn kc] 50)).alloc (.cells #[.slice A n c, .int .i64 d.room, .int .i64 d.fuse, .bool d.off] 24))) := Lib.hid (by
    have q0 := (Q.refl w).alloc (.cells #[.slice A n c, .int .i64 d.room, .int .i64 d.fuse, .bool d.off, .string nm, .string s, .int .i64 fuse2, .slice K kn kc] 50)
    have a := DV.new (W := w.alloc (.cells #[.slice A n c, .int .i64 d.room, .int .i64 d.fuse, .bool d.off, .string nm, .string s, .int .i64 fuse2, .slice K kn kc] 50)) (d := d) (hd.dsk.q q0)
    exact ⟨by simpa using a, q0.alloc _⟩)
  clear hd hk B2
  go_enter Try.func7, Try.ntmps7
  go_wp2_with fail
  refine (rshown_any _).mono ?_
  rintro e w1 ⟨rfl, q1⟩
  have HV := Lib.hid (V0.out.1.q q1)
  have HQ := Lib.hid (V0.out.2.trans q1)
  clear V0 q1
  go_wp2
  go_loopw [9] (fun i wr => ∃ a : Nat, a ≤ n ∧ i = .int .i64 a ∧ Un d.fs a ∧ Q w1 wr) (fun i _ => n - (intOf i).toNat)
  case atStart => exact ⟨0, Nat.zero_le _, rfl, fun x y _ _ hx => absurd hx (Nat.not_lt_zero _), Q.refl _⟩
  case round =>
    obtain ⟨a, ha, rfl, hun, hq⟩ := hrel
    have HUN := Lib.hid hun
    have HQA := Lib.hid hq
    clear hun hq
    obtain ⟨⟨e0, e1, e2, e3⟩, f0, f1, f2, f3⟩ := (HV.out.q HQA.out).get
    by_cases hlt : a < n
    · obtain ⟨wo, rfl⟩ : ∃ wo : World, wo = wr := ⟨_, rfl⟩
      have hal : a < d.fs.length := by have := HL.out; omega
      go_wp2
      go_loopw [10] (fun j wy => ∃ b : Nat, b ≤ a ∧ j = .int .i64 b ∧ Ui d.fs a b ∧ Q w1 wy) (fun j _ => a - (intOf j).toNat)
      case atStart => exact ⟨0, Nat.zero_le _, rfl, fun y _ _ hy => absurd hy (Nat.not_lt_zero _), HQA.out⟩
      case round =>
        obtain ⟨b, hb, rfl, hui, hqb⟩ := hrel
        have HUI := Lib.hid hui
        have HQB := Lib.hid hqb
        clear hui hqb e0 e1 e2 e3 f0 f1 f2 f3
        have VB := HV.out.q HQB.out
        obtain ⟨⟨e0, e1, e2, e3⟩, _⟩ := VB.get
        by_cases hba : b < a
        · have hbl : b < d.fs.length := by omega
          obtain ⟨ad, rfl, hbk, c0, c1, c2⟩ := VB.dsk.files.load hlt hal
          obtain ⟨ad', e, _, d0, d1, d2⟩ := VB.dsk.files.load (show b < n by omega) hbl
          injection e with e
          subst e
          have q4 : (a : Int) < (n : Int) := by omega
          have q5 : 0 ≤ (a : Int) := by omega
          have q6 : (b : Int) < (n : Int) := by omega
          have q7 : 0 ≤ (b : Int) := by omega
          clear VB c1 c2 d1 d2
          by_cases heq : d.fs[a].nm = d.fs[b].nm
          · have hb1 := str_eqb heq
            clear heq
            go_wp2
            go_quiet (fail)
            go_wp2
            go_ret
            exact ⟨rfl, HQ.out.trans (HQB.out.drewN _)⟩
          · have hb1 := str_ne heq
            have HEQ := Lib.hid heq
            clear heq
            go_wp2
            go_quiet (fail)
            go_wp2
            exact ⟨⟨b + 1, by omega, by go_num, fun y h1 h2 hy => by
              by_cases ey : y = b
              · subst ey; exact HEQ.out
              · exact HUI.out y h1 h2 (by omega), HQB.out.drewN _⟩, by simp [intOf]; omega⟩
        · have e : a = b := by omega
          have HUA := Lib.hid (un_succ HUN.out (by rw [e]; rw [e] at HUI; exact HUI.out))
          clear e VB
          go_wp2
          go_roundw
          case rel => exact ⟨a + 1, by omega, by go_num, HUA.out, HQB.out⟩
          case measure => simp [intOf]; omega
    · have HUQ := un_uniq (l := d.fs) (by have h1 := HL.out; have : a = d.fs.length := by omega
                                          rw [← this]; exact HUN.out)
      have VA := Lib.hid (HV.out.q HQA.out)
      have QA := Lib.hid (HQ.out.trans HQA.out)
      have z0 := Lib.hid (show w.heap.size + 1 < wr.heap.size from VA.out.box.lt)
      have mx : ∀ {d : Dk}, Bnd 2305843009213693952 d → ∀ f ∈ d.fs, f.sf.size + f.wt.size ≤ maxLen := fun h f hf => Nat.le_trans (h.sum f hf) (by unfold maxLen; omega)
      have hE := fun x hx => ends x (base d fuse2) nm s ks (Rn.crs_uniq d [] HUQ) (Rn.crs_dry d) hx
      have KC := Lib.hid (fun W (hW : Dsk W A n c d.fs) => ref_crash A n c d.room d.fuse d.off none 0 0 [] d.fs W hW (Ints.none_ _ _) (by unfold maxLen; omega) (mx HB.out))
      have hcr : base d fuse2 = ⟨(Dkm.crs d []).fs, (Dkm.crs d []).room, max fuse2 (-1), (Dkm.crs d []).off⟩ := rfl
      have hBc := Bnd.crs HB.out []
      have HBL := HB2.out.lay (by omega) nm s
      have KL := Lib.hid (fun A5 n5 c5 W (hW : Dsk W A5 n5 c5 (base d fuse2).fs) => lay_any nm s A5 n5 c5 (base d fuse2) W hW HB2.out (by omega) hnm)
      have KF := Lib.hid (fun A5 n5 c5 W (hW : Files W A5 n5 (base d fuse2).fs) (hm : n5 ≤ maxLen) => ref_find nm A5 n5 c5 (base d fuse2).room (base d fuse2).fuse (base d fuse2).off (base d fuse2).fs W hW hm)
      generalize hx : Rn.lay (base d fuse2) nm s = x at KL HBL
      have hE := hE x hx
      generalize hit nm (base d fuse2).fs = was at KF hE
      change Hid (∀ W, Dsk W A n c d.fs → Calls _ _ _ _ fun e w' => RetD W (Dkm.crs d []) e w') at KC
      generalize Dkm.crs d [] = dc at KC hcr hBc
      generalize base d fuse2 = db at KL KF hcr
      obtain ⟨x, er⟩ := x
      have hBk := Bnd.crs HBL ks
      have KK := Lib.hid (fun A6 n6 c6 W (hW : Dsk W A6 n6 c6 x.fs) (hI : Ints W K kn ks) => ref_crash A6 n6 c6 x.room x.fuse x.off K kn kc ks x.fs W hW hI (by unfold maxLen; omega) (mx HBL))
      change Hid (∀ A6 n6 c6 W, Dsk W A6 n6 c6 x.fs → Ints W K kn ks → Calls _ _ _ _ fun e w' => RetD W (Dkm.crs x ks) e w') at KK
      simp only at hE
      generalize Dkm.crs x ks = y at KK hE hBk
      have KG := Lib.hid (fun A7 n7 c7 W (hW : Files W A7 n7 y.fs) (hm : n7 ≤ maxLen) => ref_find nm A7 n7 c7 y.room y.fuse y.off y.fs W hW hm)
      generalize hit nm y.fs = now at KG hE
      obtain ⟨was, is⟩ := was
      obtain ⟨now, has⟩ := now
      simp only at hE
      have HE := Lib.hid hE
      have HBc := Lib.hid hBc
      have HBk := Lib.hid hBk
      have HBx := Lib.hid HBL
      subst hcr
      clear hE hx hBc hBk HBL HUQ HUN HV HQA HB HB2 mx
      go_wp2_with fail
      refine (KC.out _ VA.out.dsk).mono ?_
      rintro e w2 ⟨A2, n2, c2, rfl, o2, q2⟩
      have VC := Lib.hid (show DVA ((((w2.setCell ⟨w.heap.size + 1, 0, none⟩ (.slice A2 n2 c2)).setCell ⟨w.heap.size + 1, 1, none⟩ (.int .i64 dc.room)).setCell ⟨w.heap.size + 1, 2, none⟩ (.int .i64 dc.fuse)).setCell ⟨w.heap.size + 1, 3, none⟩ (.bool dc.off)) (w.heap.size + 1) A2 n2 c2 dc from
        ⟨VA.out.put q2 o2 (few_own o2 HBc.out), fun ad e => by have h1 := o2.far_ ad e; have h2 := z0.out; omega⟩)
      have QC := Lib.hid ((QA.out.trans q2).set4 (b := w.heap.size + 1) (by omega) (.slice A2 n2 c2) (.int .i64 dc.room) (.int .i64 dc.fuse) (.bool dc.off))
      clear e0 e1 e2 e3 f0 f1 f2 f3
      obtain ⟨⟨e0, e1, e2, e3⟩, f0, f1, f2, f3⟩ := (VA.out.q q2).get
      clear VA QA q2 o2 KC
      go_upto_region 16 with (fail)
      generalize ((((w2.setCell ⟨w.heap.size + 1, 0, none⟩ (.slice A2 n2 c2)).setCell ⟨w.heap.size + 1, 1, none⟩ (.int .i64 dc.room)).setCell ⟨w.heap.size + 1, 2, none⟩ (.int .i64 dc.fuse)).setCell ⟨w.heap.size + 1, 3, none⟩ (.bool dc.off)) = w3 at VC QC ⊢
      clear e0 e1 e2 e3 f0 f1 f2 f3
      obtain ⟨⟨e0, e1, e2, e3⟩, f0, f1, f2, f3⟩ := VC.out.dv.get
      go_wp2_with fail
      refine (ref_arm A2 n2 c2 dc.room dc.fuse dc.off fuse2 _).mono ?_
      rintro e w4 ⟨rfl, q4⟩
      have VD := Lib.hid (VC.out.put (d' := ⟨dc.fs, dc.room, max fuse2 (-1), dc.off⟩) q4 (VC.out.dv.dsk.q q4) (.inl rfl))
      have QD := Lib.hid ((QC.out.trans q4).set4 (b := w.heap.size + 1) (by omega) (.slice A2 n2 c2) (.int .i64 dc.room) (.int .i64 (max fuse2 (-1))) (.bool dc.off))
      clear e0 e1 e2 e3 f0 f1 f2 f3
      obtain ⟨⟨e0, e1, e2, e3⟩, f0, f1, f2, f3⟩ := (VC.out.dv.q q4).get
      clear VC QC q4
      go_upto_region 17 with (fail)
      (try simp only at VD)
      (try simp only at KL)
      (try simp only at KF)
      generalize max fuse2 (-1) = fz at VD QD KL KF ⊢
      generalize ((((w4.setCell ⟨w.heap.size + 1, 0, none⟩ (.slice A2 n2 c2)).setCell ⟨w.heap.size + 1, 1, none⟩ (.int .i64 dc.room)).setCell ⟨w.heap.size + 1, 2, none⟩ (.int .i64 fz)).setCell ⟨w.heap.size + 1, 3, none⟩ (.bool dc.off)) = w5 at VD QD ⊢
      clear e0 e1 e2 e3 f0 f1 f2 f3
      obtain ⟨⟨e0, e1, e2, e3⟩, f0, f1, f2, f3⟩ := VD.out.dv.get
      (try simp only at e0 e1 e2 e3)
      go_wp2_with fail
      refine (KF.out A2 n2 c2 _ VD.out.dv.dsk.files VD.out.dv.dsk.max).mono ?_
      rintro e w6 ⟨rfl, q6⟩
      have P6 := q6.alloc (.cells #[.string was.nm, .string was.sf, .string was.wt] 52)
      have X6 := Lib.hid (And.intro (VD.out.dv.q P6) (And.intro (QD.out.trans P6) (Bx.new w6 [.string was.nm, .string was.sf, .string was.wt] 52)))
      clear VD QD q6 P6 e0 e1 e2 e3 f0 f1 f2 f3
      obtain ⟨⟨e0, e1, e2, e3⟩, _⟩ := X6.out.1.get
      (try simp only at e0 e1 e2 e3)
      go_wp2_with fail
      refine (KL.out A2 n2 c2 _ X6.out.1.dsk).mono ?_
      rintro e w7 ⟨A7, n7, c7, rfl, D7, _, q7⟩
      have V7 := DV.new (W := w7) (d := x) D7
      have P7 := q7.alloc (.cells #[.slice A7 n7 c7, .int .i64 x.room, .int .i64 x.fuse, .bool x.off] 24)
      have X7 := Lib.hid (And.intro V7 (And.intro (X6.out.2.1.trans P7) (X6.out.2.2.q P7)))
      clear X6 V7 P7 q7 D7 KL KF e0 e1 e2 e3
      obtain ⟨⟨e0, e1, e2, e3⟩, _⟩ := X7.out.1.get
      go_wp2_with fail
      refine (KK.out A7 n7 c7 _ X7.out.1.dsk (HK.out.q X7.out.2.1)).mono ?_
      rintro e w8 ⟨A8, n8, c8, rfl, o8, q8⟩
      have D8 := Lib.hid (o8.dsk (few_own o8 HBk.out))
      have X8 := Lib.hid (And.intro (X7.out.2.1.trans q8) (X7.out.2.2.q q8))
      clear X7 q8 o8 KK e0 e1 e2 e3
      go_wp2_with fail
      refine (KG.out A8 n8 c8 _ D8.out.files D8.out.max).mono ?_
      rintro e w9 ⟨rfl, q9⟩
      have X9 := Lib.hid (And.intro (X8.out.1.trans (q9.alloc (.cells #[.string now.nm, .string now.sf, .string now.wt] 52))) (And.intro (X8.out.2.q (q9.alloc (.cells #[.string now.nm, .string now.sf, .string now.wt] 52))) (Bx.new w9 [.string now.nm, .string now.sf, .string now.wt] 52)))
      clear X8 q9 D8 KG
      obtain ⟨⟨x0, x1, x2⟩, _⟩ := X9.out.2.1.get3
      obtain ⟨⟨y0, y1, y2⟩, _⟩ := X9.out.2.2.get3
      by_cases her : er = 0
      · subst her
        obtain ⟨g1, g2⟩ := HE.out.1 rfl
        obtain ⟨nn, ns, nw⟩ := now
        simp only at g1 g2 y1 ⊢
        subst g1 g2
        go_wp2
        all_goals go_ret
        all_goals exact ⟨by first | rfl | simp, X9.out.1⟩
      · have b1 : (er == 0) = false := by simpa using her
        obtain ⟨g1, g2⟩ := HE.out.2 her
        obtain ⟨nn, ns, nw⟩ := now
        simp only at g1 g2 y1 ⊢
        subst g1 g2
        clear her
        go_wp2
        all_goals go_ret
        all_goals exact ⟨by first | rfl | simp, X9.out.1⟩

theorem opened (W : World) (args : Array Value) (hn : args.size = 1) (h : ∀ (j : Nat) t v, Try.f7.params[j]? = some t → args[j]? = some v → RdV W t v) :
    Calls Try.prog 7 args W fun e W' => e = .returned (.bool true) ∧ Q W W' := by
  obtain ⟨v, rfl⟩ := args1 hn
  rw [Try.params7] at h
  obtain ⟨cs, rfl, hr⟩ := (h 0 50 v rfl rfl).struct Try.underlying50
  obtain ⟨hl, _⟩ := hr.struct Try.underlying50
  rw [show Try.prog.cellsOf 50 = 8 by kernel_rfl] at hl
  match cs, hl with
  | [x0, x1, x2, x3, x4, x5, x6, x7], _ =>
    obtain ⟨A, n, c, d, e0, hd⟩ := open_disk (hr.field Try.underlying50 0 (ty := 24) 0 4 rfl (by kernel_rfl))
    obtain ⟨nm, e1, s1⟩ := (hr.field Try.underlying50 1 (ty := 9) 4 1 rfl (by kernel_rfl)).string Try.underlying9
    obtain ⟨s, e2, s2⟩ := (hr.field Try.underlying50 2 (ty := 9) 5 1 rfl (by kernel_rfl)).string Try.underlying9
    obtain ⟨fuse2, e3, s3⟩ := (hr.field Try.underlying50 3 (ty := 3) 6 1 rfl (by kernel_rfl)).int Try.underlying3
    obtain ⟨K, kn, kc, ks, e4, hk, hk1, _⟩ := open_ints (hr.field Try.underlying50 4 (ty := 48) 7 1 rfl (by kernel_rfl))
    simp at e0 e1 e2 e3 e4
    obtain ⟨rfl, rfl, rfl, rfl⟩ := e0
    subst e1 e2 e3 e4
    exact walk A n c d nm s fuse2 K kn kc ks W hd s1 s2 (wf_i64 s3) hk hk1

set_option maxRecDepth 100000 in
theorem lifted (os : Os) (started : os.Started) (H : Type) (enc : TypeId × Value → H) :
    ReturnsInHanded {} Try.checked os 7 .any (Rows.runWholeSpec.pre6 enc Try.prog Try.f7 Rows.runWholeRow.domain false) (Rows.runWholeSpec.post enc Try.prog Try.f7 false true false false) :=
  framed 1 Try.func7 (by rw [Try.params7]; rfl) rfl (by kernel_rfl) (by kernel_rfl) (by kernel_rfl)
    (fun H ds h => by match ds, h with | [d0], _ => exact ⟨rfl, rfl, rfl⟩)
    opened os started H enc
    (ChangeSpec.witness6 (enc := enc) (C := Try.checked) false ⟨#[], #[.agg #[.slice none 0 0, .int .i64 0, .int .i64 0, .bool false, .string ByteArray.empty, .string ByteArray.empty, .int .i64 0, .slice none 0 0]], []⟩ 8 (by kernel_rfl) (by kernel_rfl) (by kernel_rfl) (by kernel_rfl))

theorem over : Rows.runWholeRow.holds Try.pinned (OpenSpec.ofChange Rows.runWholeSpec) :=
  OpenClaim.holds_of_wide 7 Try.f7 rfl rfl rfl rfl rfl rfl rfl ⟨rfl, rfl, rfl, rfl, rfl⟩ rfl rfl rfl rfl rfl (by kernel_rfl) Try.func7 (by kernel_rfl)
    (of_decide_eq_true (by kernel_rfl)) (by unfold Func.isWrapper; first | (rw [if_pos (by decide +kernel)]; kernel_rfl) | (rw [if_neg (by decide +kernel)]; exact ⟨rfl, rfl⟩))
    (fun os started H enc _ => lifted os started H enc)

theorem proved : Rows.RunWholeSaid := over
end Go.Proofs.Ytodfdklcioafmaa.runWhole
