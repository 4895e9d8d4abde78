/- For every disk and names: a rename that is OK gives the one file's bytes the other one's name, whole, and the old name is none; one that isn't changes no file. No condition. -/
import Derived.Test.YtpjadjbniddmgaaDiskWhole
import Derived.Test.YtpjadjbniddmgaaDiskSame2
import Derived.Test.YtpjadjbniddmgaaDiskIn
namespace Go.Proofs.Ytpjadjbniddmgaa.diskWhole
open Go.ChangeShapes Go.WideShapes Go.ChangeAt Go.RowKit Dkm
set_option linter.unusedVariables false

def Un (l : List Fil) (a : Nat) : Prop := ∀ x y (hx : x < l.length) (hy : y < l.length), x < a → y < x → l[x].nm ≠ l[y].nm
def Ui (l : List Fil) (a b : Nat) : Prop := ∀ y (ha : a < l.length) (hy : y < l.length), y < b → l[a].nm ≠ l[y].nm
theorem un_succ {l : List Fil} {a : Nat} (h : Un l a) (hi : Ui l a a) : Un l (a + 1) := by
  intro x y hx hy hxa hyx
  by_cases e : x = a
  · subst e; exact hi y hx hy hyx
  · exact h x y hx hy (by omega) hyx
theorem un_uniq {l : List Fil} (h : Un l l.length) : Uniq l := by
  intro i j hi hj e
  rcases Nat.lt_trichotomy i j with hlt | he | hlt
  · exact absurd e.symm (h j i hj hi hj hlt)
  · exact he
  · exact absurd e (h i j hi hj hi hlt)

set_option maxRecDepth 100000 in
set_option maxHeartbeats 4000000 in
theorem walk (A : Option Addr) (n c : Nat) (d : Dk) (fr to : ByteArray) (w : World) (hd : DkIn w A n c d) :
    Calls Try.prog 7 #[dkv A n c d.room d.fuse d.off, .string fr, .string to] w fun e w' => e = .returned (.bool true) ∧ Q w w' := by
  have HS := Lib.hid (show ∀ f ∈ d.fs, f.sf.size + f.wt.size ≤ maxLen from fun f hf => by have := hd.fil f hf; unfold FilIn at this; unfold maxLen; omega)
  have HD := Lib.hid hd
  have HL := Lib.hid hd.dsk.len
  have hfew := hd.dsk.few
  have V0 := DV.new (W := w) (d := d) hd.dsk
  have KR := Lib.hid (fun (W : World) (hW : Dsk W A n c d.fs) => ren_any fr to A n c d W hW HS.out hd.fuse.2)
  have HB := Lib.hid (ren_bad d fr to)
  have HG := Lib.hid (ren_good d fr to)
  have HE := Lib.hid (And.intro (ren_len d fr to) (ren_sum d fr to HS.out))
  generalize ren d fr to = r at KR HB HG HE
  obtain ⟨r, er⟩ := r
  clear hd
  go_enter Try.func7, Try.ntmps7
  go_wp2_with fail
  refine (shown_any _).mono ?_
  rintro e w1 ⟨rfl, q1⟩
  have HV := Lib.hid (V0.q q1)
  have HQ := Lib.hid (((Q.refl w).alloc _).trans q1)
  clear V0 q1
  go_wp2
  go_loopw [8] (fun i wr => ∃ a : Nat, a ≤ n ∧ i = .int .i64 a ∧ Un d.fs a ∧ Q w1 wr) (fun i _ => n - (intOf i).toNat)
  case atStart => exact ⟨0, Nat.zero_le _, rfl, fun x y _ _ hx => absurd hx (Nat.not_lt_zero _), Q.refl _⟩
  case round =>
    obtain ⟨a, ha, rfl, hun, hq⟩ := hrel
    have HUN := Lib.hid hun
    have HQA := Lib.hid hq
    clear hun hq
    obtain ⟨⟨e0, e1, e2, e3⟩, f0, f1, f2, f3⟩ := (HV.out.q HQA.out).get
    by_cases hlt : a < n
    · obtain ⟨wo, rfl⟩ : ∃ wo : World, wo = wr := ⟨_, rfl⟩
      have hal : a < d.fs.length := by have := HL.out; omega
      go_wp2
      go_loopw [9] (fun j wy => ∃ b : Nat, b ≤ a ∧ j = .int .i64 b ∧ Ui d.fs a b ∧ Q w1 wy) (fun j _ => a - (intOf j).toNat)
      case atStart => exact ⟨0, Nat.zero_le _, rfl, fun y _ _ hy => absurd hy (Nat.not_lt_zero _), HQA.out⟩
      case round =>
        obtain ⟨b, hb, rfl, hui, hqb⟩ := hrel
        have HUI := Lib.hid hui
        have HQB := Lib.hid hqb
        clear hui hqb e0 e1 e2 e3 f0 f1 f2 f3
        have VB := HV.out.q HQB.out
        obtain ⟨⟨e0, e1, e2, e3⟩, _⟩ := VB.get
        by_cases hba : b < a
        · have hbl : b < d.fs.length := by omega
          obtain ⟨ad, rfl, hbk, c0, c1, c2⟩ := VB.dsk.files.load hlt hal
          obtain ⟨ad', e, _, d0, d1, d2⟩ := VB.dsk.files.load (show b < n by omega) hbl
          injection e with e
          subst e
          have q4 : (a : Int) < (n : Int) := by omega
          have q5 : 0 ≤ (a : Int) := by omega
          have q6 : (b : Int) < (n : Int) := by omega
          have q7 : 0 ≤ (b : Int) := by omega
          clear VB c1 c2 d1 d2
          by_cases heq : d.fs[a].nm = d.fs[b].nm
          · have hb1 := str_eq heq
            clear heq
            go_wp2
            go_quiet (fail)
            go_wp2
            go_ret
            exact ⟨rfl, HQ.out.trans (HQB.out.drewN _)⟩
          · have hb1 := str_ne heq
            have HEQ := Lib.hid heq
            clear heq
            go_wp2
            go_quiet (fail)
            go_wp2
            exact ⟨⟨b + 1, by omega, by go_num, fun y h1 h2 hy => by
              by_cases ey : y = b
              · subst ey; exact HEQ.out
              · exact HUI.out y h1 h2 (by omega), HQB.out.drewN _⟩, by simp [intOf]; omega⟩
        · have e : a = b := by omega
          have HUA := Lib.hid (un_succ HUN.out (by rw [e]; rw [e] at HUI; exact HUI.out))
          clear e VB
          go_wp2
          go_roundw
          case rel => exact ⟨a + 1, by omega, by go_num, HUA.out, HQB.out⟩
          case measure => simp [intOf]; omega
    · have HUQ := Lib.hid (un_uniq (l := d.fs) (by have h1 := HL.out; have : a = d.fs.length := by omega
                                                   rw [← this]; exact HUN.out))
      have VA := Lib.hid (HV.out.q HQA.out)
      have QA := Lib.hid (HQ.out.trans HQA.out)
      clear HUN HV HQA
      have KD := Lib.hid (read_any fr A n c d.room d.fuse d.off d.fs wr VA.out.dsk.files VA.out.dsk.max HS.out)
      have HG2 := Lib.hid (HG.out HUQ.out)
      clear HG
      generalize redd fr d.fs = rd at KD HG2
      obtain ⟨was, ew⟩ := rd
      go_wp2_with fail
      refine KD.out.mono ?_
      rintro e w2 ⟨rfl, q2⟩
      have VB := Lib.hid (VA.out.q q2)
      have QB := Lib.hid (QA.out.trans q2)
      clear KD q2 VA QA e0 e1 e2 e3 f0 f1 f2 f3
      obtain ⟨⟨e0, e1, e2, e3⟩, f0, f1, f2, f3⟩ := VB.out.get
      go_wp2_with fail
      refine (KR.out _ VB.out.dsk).mono ?_
      rintro e w3 ⟨A3, n3, c3, rfl, ho, q3⟩
      have n3n : n3 * 48 ≤ 140737488355328 := by have h1 := ho.len; have h2 := HE.out.1; have h3 := HL.out; omega
      have VC := Lib.hid (VB.out.q q3)
      have QC := Lib.hid (QB.out.trans q3)
      have DK := Lib.hid (ho.dsk n3n)
      have z1 : w.heap.size < w3.heap.size := VC.out.box.lt
      have z2 : w.heap.size ≠ w3.heap.size := by omega
      clear VB QB KR ho q3 e0 e1 e2 e3 f0 f1 f2 f3
      obtain ⟨⟨e0, e1, e2, e3⟩, f0, f1, f2, f3⟩ := VC.out.get
      by_cases her : er = 0
      · subst her
        obtain ⟨g1, g2, g3⟩ := HG2.out rfl
        (try simp only at g1)
        subst g1
        have HG3 := Lib.hid g2
        have HG4 := Lib.hid g3
        clear g2 g3
        have KT := Lib.hid (fun (W : World) (hW : Dsk W A3 n3 c3 r.fs) => read_any to A3 n3 c3 r.room r.fuse r.off r.fs W hW.files hW.max HE.out.2)
        rw [HG3.out] at KT
        have KF := Lib.hid (fun (W : World) (hW : Dsk W A3 n3 c3 r.fs) => read_any fr A3 n3 c3 r.room r.fuse r.off r.fs W hW.files hW.max HE.out.2)
        generalize redd fr r.fs = rf at KF HG4
        obtain ⟨rf, ef⟩ := rf
        go_wp2_with fail
        refine (KT.out _ (DK.out.q ((Q.refl _).alloc _))).mono ?_
        rintro e w4 ⟨rfl, q4⟩
        have BX := (Bx.new w3 [.slice A3 n3 c3, .int .i64 r.room, .int .i64 r.fuse, .bool r.off] 24).q q4
        have DK4 := Lib.hid (DK.out.q (((Q.refl w3).alloc (.cells #[.slice A3 n3 c3, .int .i64 r.room, .int .i64 r.fuse, .bool r.off] 24)).trans q4))
        have QD := Lib.hid ((QC.out.alloc (.cells #[.slice A3 n3 c3, .int .i64 r.room, .int .i64 r.fuse, .bool r.off] 24)).trans q4)
        clear q4 KT e0 e1 e2 e3 f0 f1 f2 f3
        obtain ⟨⟨x0, x1, x2, x3⟩, _⟩ := BX.get4
        go_wp2_with fail
        refine (KF.out _ DK4.out).mono ?_
        rintro e w5 ⟨rfl, q5⟩
        have QE := Lib.hid (QD.out.trans q5)
        clear q5 KF x0 x1 x2 x3 BX
        rcases HG4.out with he | he
        · have hb1 := str_eq he
          clear he
          go_wp2
          go_ret
          exact ⟨by simp, QE.out⟩
        · (try simp only at he)
          subst he
          by_cases he : fr = to
          · have hb1 := str_eq he
            clear he
            go_wp2
            go_ret
            exact ⟨by simp, QE.out⟩
          · have hb1 := str_ne he
            clear he
            go_wp2
            go_ret
            exact ⟨by simp, QE.out⟩
      · have b1 : (er == 0) = false := by simpa using her
        have b2 : (er != 0) = true := by simpa using her
        obtain ⟨g1, g2⟩ := HB.out her
        have HX := Lib.hid (show sameD ⟨r.fs, r.room, d.fuse, d.off⟩ d = true by simp [sameD, g1, g2])
        clear g1 g2
        go_wp2_with fail
        have k6 := same_any A3 A n3 c3 n c ⟨r.fs, r.room, d.fuse, d.off⟩ d (w3.alloc (.cells #[.slice A3 n3 c3, .int .i64 r.room, .int .i64 d.fuse, .bool d.off] 24)) (DK.out.files.q ((Q.refl _).alloc _)) (VC.out.dsk.files.q ((Q.refl _).alloc _)) DK.out.max VC.out.dsk.max
        rw [HX.out] at k6
        refine k6.mono ?_
        clear k6
        rintro e w6 ⟨rfl, q6⟩
        go_wp2
        go_ret
        exact ⟨rfl, (QC.out.alloc _).trans q6⟩

theorem opened (W : World) (args : Array Value) (hn : args.size = 3) (h : ∀ (j : Nat) t v, Try.f7.params[j]? = some t → args[j]? = some v → RdV W t v) :
    Calls Try.prog 7 args W fun e W' => e = .returned (.bool true) ∧ Q W W' := by
  obtain ⟨v, a, b, rfl⟩ := args3 hn
  rw [Try.params7] at h
  obtain ⟨cs, rfl, hr⟩ := (h 0 24 v rfl rfl).struct Try.underlying24
  obtain ⟨A, n, c, d, rfl, hd⟩ := open_disk hr
  obtain ⟨fr, rfl, _⟩ := (h 1 9 a rfl rfl).string Try.underlying9
  obtain ⟨to, rfl, _⟩ := (h 2 9 b rfl rfl).string Try.underlying9
  exact walk A n c d fr to W hd

set_option maxRecDepth 100000 in
theorem lifted (os : Os) (started : os.Started) (H : Type) (enc : TypeId × Value → H) :
    ReturnsInHanded {} Try.checked os 7 .any (Rows.diskWholeSpec.pre6 enc Try.prog Try.f7 Rows.diskWholeRow.domain false) (Rows.diskWholeSpec.post enc Try.prog Try.f7 false true false false) :=
  framed 3 Try.func7 (by rw [Try.params7]; rfl) rfl (by kernel_rfl) (by kernel_rfl) (by kernel_rfl)
    (fun H ds h => by match ds, h with | [d0, d1, d2], _ => exact ⟨rfl, rfl, rfl⟩)
    opened os started H enc
    (ChangeSpec.witness6 (enc := enc) (C := Try.checked) false ⟨#[], #[.agg #[.slice none 0 0, .int .i64 0, .int .i64 0, .bool false], .string ByteArray.empty, .string ByteArray.empty], []⟩ 8 (by kernel_rfl) (by kernel_rfl) (by kernel_rfl) (by kernel_rfl))

theorem over : Rows.diskWholeRow.holds Try.pinned (OpenSpec.ofChange Rows.diskWholeSpec) :=
  OpenClaim.holds_of_wide 7 Try.f7 rfl rfl rfl rfl rfl rfl rfl ⟨rfl, rfl, rfl, rfl, rfl⟩ rfl rfl rfl rfl rfl (by kernel_rfl) Try.func7 (by kernel_rfl)
    (of_decide_eq_true (by kernel_rfl)) (by unfold Func.isWrapper; first | (rw [if_pos (by decide +kernel)]; kernel_rfl) | (rw [if_neg (by decide +kernel)]; exact ⟨rfl, rfl⟩))
    (fun os started H enc _ => lifted os started H enc)

theorem proved : Rows.DiskWholeSaid := over
end Go.Proofs.Ytpjadjbniddmgaa.diskWhole
