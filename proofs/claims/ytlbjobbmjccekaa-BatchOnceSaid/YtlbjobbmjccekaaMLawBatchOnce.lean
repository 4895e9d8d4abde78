/- For every list of batches: of at most 200 of them, done one after another, a token is decided once, and stays so; one that comes again changes nothing. No condition. -/
import Derived.Test.YtlbjobbmjccekaaMBatchRun
import Derived.Test.YtlbjobbmjccekaaA5
import Derived.Test.YtlbjobbmjccekaaA8
import Derived.Test.YtlbjobbmjccekaaA3
import Derived.Test.YtlbjobbmjccekaaA6
import Derived.Deep.DeepCutAuto
namespace Go.Proofs.Ytlbjobbmjccekaa.batchOnce
set_option maxRecDepth 100000
open Go.ChangeShapes Go.WideShapes Go.ChangeAt Go.RowKit Prm
set_option linter.unusedVariables false
set_option linter.unusedSimpArgs false

/-- a batch in its place of the list. -/
structure Rw (ad : Addr) (j : Nat) (k : Int) (tok : ByteArray) (C : Option Addr) (p q : Nat) (wi : World) : Prop where
  c0 : wi.cell? (ad.add (j * 3)) = some (.int .i64 k)
  c1 : wi.cell? ⟨(ad.add (j * 3)).block, (ad.add (j * 3)).off + 1, none⟩ = some (.string tok)
  c2 : wi.cell? ⟨(ad.add (j * 3)).block, (ad.add (j * 3)).off + 2, none⟩ = some (.slice C p q)
theorem Rw.step {ad : Addr} {j : Nat} {k : Int} {tok : ByteArray} {C : Option Addr} {p q : Nat} {wi wj : World} (h : Rw ad j k tok C p q wi) (y : Q wi wj) : Rw ad j k tok C p q wj := ⟨box_ y h.c0, box_ y h.c1, box_ y h.c2⟩

/-- behind 't, e := Do(..)': a new box with the state T. -/
def Cq (g : Nat) (T : Bm.Sta) (er : Nat) (W : World) (s8 s9 : Value) (wx : World) : Prop :=
  ∃ h A c B d, s8 = .pointer (some ⟨h, 0, none⟩) ∧ s9 = .int .i64 (er : Int) ∧ Bx wx h [.slice A T.data.length c, .slice B T.toks.length d] ∧ OwnK pairK wx (g + 1) A T.data.length c T.data ∧ OwnK pairK wx (g + 1) B T.toks.length d T.toks ∧ Q W wx
theorem leafA {g : Nat} {T : Bm.Sta} {er : Nat} {W w5 : World} {A B : Option Addr} {c d : Nat} {base : Nat} (hb : g + 1 ≤ base) (o1 : OwnK pairK w5 base A T.data.length c T.data) (o2 : OwnK pairK w5 base B T.toks.length d T.toks) (q : Q W w5) :
    Cq g T er W (.pointer (some ⟨w5.heap.size, 0, none⟩)) (.int .i64 (er : Int)) (w5.alloc (.cells #[.slice A T.data.length c, .slice B T.toks.length d] 40)) :=
  ⟨_, A, c, B, d, rfl, rfl, Bx.new w5 [.slice A T.data.length c, .slice B T.toks.length d] 40, (o1.lower hb).alloc _, (o2.lower hb).alloc _, q.alloc _⟩
theorem leafB {g h : Nat} {T : Bm.Sta} {er : Nat} {W w5 : World} {A B : Option Addr} {c d : Nat} {base : Nat} {x y : Value} (hb : g + 1 ≤ base) (hh : h < base) (hw : W.heap.size ≤ h) (bx : Bx w5 h [x, y]) (o1 : OwnK pairK w5 base A T.data.length c T.data) (o2 : OwnK pairK w5 base B T.toks.length d T.toks) (q : Q W w5) :
    Cq g T er W (.pointer (some ⟨h, 0, none⟩)) (.int .i64 (er : Int)) ((w5.setCell ⟨h, 0, none⟩ (.slice A T.data.length c)).setCell ⟨h, 1, none⟩ (.slice B T.toks.length d)) :=
  ⟨h, A, c, B, d, rfl, rfl, bx.set2 _ _, (o1.set2 hh _ _).lower hb, (o2.set2 hh _ _).lower hb, q.set2 hw _ _⟩
theorem doo_err {s : Bm.Sta} {b : Bm.Bt} (h : (Bm.doo s b).2 ≠ 0) : (Bm.doo s b).1 = s := by
  unfold Bm.doo at h ⊢
  split
  · rfl
  · split
    · rfl
    · rename_i h1 h2
      rw [if_neg h1, if_neg h2] at h
      exact absurd rfl h

set_option maxHeartbeats 16000000 in
set_option maxRecDepth 100000 in
theorem walk (A : Option Addr) (n c : Nat) (rl : List BRaw) (bl : List Bm.Bt) (w : World) (hA : In_ rawK w A n c rl) (hbl : bl.length = n) (hst : ∀ i, ∀ h1 : i < rl.length, ∀ h2 : i < bl.length, Stands w rl[i] bl[i]) :
    Calls Try.prog 7 #[.slice A n c] w fun e w' => e = .returned (.bool true) ∧ Q w w' := by
  have HA := Lib.hid hA
  have HS := Lib.hid hst
  have HB := Lib.hid hbl
  have HL := Lib.hid hA.len
  have hn0 : n ≤ 9223372036854775807 := hA.max
  clear hA hst hbl
  go_enter Try.func7, Try.ntmps7
  go_wp2_with fail
  refine (bshown_any _).mono ?_
  rintro e w1 ⟨rfl, q1⟩
  have X0 := Lib.hid (Sb7.new w w1 q1)
  clear q1
  go_wp2
  generalize w1.heap.size = g at X0 ⊢
  go_loopw [5] (fun i wr => ∃ (j : Nat) (P R : Option Addr) (pc rc : Nat), j ≤ n ∧ j ≤ 200 ∧ i = .int .i64 j ∧ Sb7 w g P R pc rc (Bm.st bl j) wr) (fun i _ => n - (intOf i).toNat)
  case atStart => exact ⟨0, none, none, 0, 0, Nat.zero_le _, Nat.zero_le _, rfl, X0.out⟩
  case round =>
    obtain ⟨j, P, R, pc, rc, hj, hj2, rfl, x1⟩ := hrel
    have X := Lib.hid x1
    have hsl := Bm.st_len bl j (by rw [HB.out]; exact hj)
    clear x1 X0
    by_cases hlt : j < n ∧ j < 200
    · obtain ⟨hlt, hlt2⟩ := hlt
      have hjn : (j : Int) < (n : Int) := by omega
      have hjn2 : (j : Int) < 200 := by omega
      have hj0 : (0 : Int) ≤ (j : Int) := by omega
      have hrl : j < rl.length := by have := HL.out; omega
      have hbl : j < bl.length := by have := HB.out; omega
      obtain ⟨ad, rfl, hab0, y0, y1, y2⟩ := load_raw HA.out.lst hlt hrl
      obtain ⟨e1, e2, hC⟩ := HS.out j hrl hbl
      have HSt := Lib.hid (Bm.st_succ bl hbl)
      generalize rl[j] = r at y0 y1 y2 e1 e2 hC
      generalize bl[j] = b at e1 e2 hC HSt
      obtain ⟨rk, rt, C, p, q⟩ := r
      obtain ⟨k, tok, ws⟩ := b
      simp only at e1 e2 hC y0 y1 y2
      subst e1 e2
      have Z := Lib.hid (⟨box_ X.out.q y0, box_ X.out.q y1, box_ X.out.q y2⟩ : Rw ad j rk rt C p q wr)
      have HC := Lib.hid (hC.q X.out.q)
      clear y0 y1 y2 hC
      generalize Bm.st bl j = s at X hsl HSt
      have KD := Lib.hid (fun W (y : Q wr W) => bdo_any rk rt P R C s.data.length pc s.toks.length rc p q s.data s.toks ws W ((X.out.o1.q y).in_ (by show s.data.length * 32 ≤ _; omega)) ((X.out.o2.q y).in_ (by show s.toks.length * 32 ≤ _; omega)) (HC.out.lst.q y) HC.out.max (by omega) (by omega))
      rw [show (⟨s.data, s.toks⟩ : Bm.Sta) = s from rfl] at KD
      have KE := Lib.hid (fun W (y : Q wr W) => decided_any rt P R s.data.length pc s.toks.length rc s.toks W (X.out.o2.lst.q y) (by unfold maxLen; omega))
      have hTl := Bm.doo_len s ⟨rk, rt, ws⟩
      have hErr := doo_err (s := s) (b := ⟨rk, rt, ws⟩)
      have hIs := Bm.doo_is (s := s) (b := ⟨rk, rt, ws⟩)
      have hOk := Bm.doo_ok (s := s) (b := ⟨rk, rt, ws⟩)
      have hAg := Bm.doo_again (s := s) (b := ⟨rk, rt, ws⟩)
      generalize hdo : Bm.doo s ⟨rk, rt, ws⟩ = TE at KD HSt hTl hErr hIs hOk hAg
      obtain ⟨T, er⟩ := TE
      simp only at hTl hErr hIs hOk hAg
      have HDo := Lib.hid hdo
      have KD2 := Lib.hid (fun W A5 c5 B5 d5 (o1 : OwnK pairK W (g + 1) A5 T.data.length c5 T.data) (o2 : OwnK pairK W (g + 1) B5 T.toks.length d5 T.toks) (y : Q wr W) => bdo_any rk rt A5 B5 C T.data.length c5 T.toks.length d5 p q T.data T.toks ws W (o1.in_ (by show T.data.length * 32 ≤ _; omega)) (o2.in_ (by show T.toks.length * 32 ≤ _; omega)) (HC.out.lst.q y) HC.out.max (by omega) (by omega))
      rw [show (⟨T.data, T.toks⟩ : Bm.Sta) = T from rfl] at KD2
      have KF := Lib.hid (fun W A5 c5 B5 d5 (o2 : OwnK pairK W (g + 1) B5 T.toks.length d5 T.toks) => decided_any rt A5 B5 T.data.length c5 T.toks.length d5 T.toks W o2.lst (by unfold maxLen; omega))
      have hl1 : s.data.length * 32 ≤ 140737488355328 := by omega
      have hl2 : s.toks.length * 32 ≤ 140737488355328 := by omega
      have hl3 : T.data.length * 32 ≤ 140737488355328 := by omega
      have hl4 : T.toks.length * 32 ≤ 140737488355328 := by omega
      have hgw : g < wr.heap.size := X.out.bx.lt
      clear hdo hTl HC
      simp only at HSt
      have far2_ : ∀ {W : World} {b : Nat} {pt : Addr} {v x y : Value}, b ≠ pt.block → W.cell? pt = some v → ((W.setCell ⟨b, 0, none⟩ x).setCell ⟨b, 1, none⟩ y).cell? pt = some v := fun h hc => by
        rw [World.cell?_setCell_far _ _ _ _ (by exact h), World.cell?_setCell_far _ _ _ _ (by exact h)]; exact hc
      have HDo2 : Hid (True) := Lib.hid trivial
      by_cases he : er = 0
      · subst he
        obtain ⟨hmay, hfd⟩ := hOk rfl
        have hisf : (find rt s.toks).2 = false := by
          cases hh : (find rt s.toks).2 with
          | false => rfl
          | true => exact absurd rfl (hIs hh).2
        rw [hisf] at KE
        generalize (find rt s.toks).1 = fs at KE
        rw [hfd] at KF
        have HAg := Lib.hid (hAg rfl)
        rw [HAg.out] at KD2
        have hz0 : ((0 : Int) == 0) = true := rfl
        by_cases hk : rk = 1
        · have hw : Bm.word rk = ⟨#[99]⟩ := by unfold Bm.word; rw [if_pos hk]
          have hk1 : (rk == 1) = true := by simpa using hk
          rw [hw] at KF
          clear hk hw hmay hfd hisf hErr hIs hOk hAg
          obtain ⟨c0, c1⟩ := X.out.bx.get2.1
          obtain ⟨z0, z1, z2⟩ := Z.out
          go_wp2
          go_region_held3 (fun w' => w'.cell? ⟨g, 0, none⟩ = some (.slice P s.data.length pc) ∧ w'.cell? ⟨g, 1, none⟩ = some (.slice R s.toks.length rc) ∧ w'.cell? ⟨(ad.add (j * 3)).block, (ad.add (j * 3)).off + 1, none⟩ = some (.string rt))
            (first
              | go_keep
              | (go_split_ands
                 (repeat' apply And.intro) <;> exact box_ ‹Q _ _› (by assumption)))
            (first
              | (go_at_call 22
                 refine (KE.out _ (Q.refl _).drew).mono ?_
                 rintro e w2 ⟨rfl, y2⟩))
          have Q2 := Lib.hid ((Q.refl wr).drew.trans y2)
          have X2 := Lib.hid (X.out.step Q2.out)
          have Z2 := Lib.hid (Z.out.step Q2.out)
          clear y2 c0 c1 z0 z1 z2
          have w2_g : g < w2.heap.size := X2.out.bx.lt
          have w2_a : w2.heap.size ≠ g := by omega
          obtain ⟨c0, c1⟩ := X2.out.bx.get2.1
          obtain ⟨z0, z1, z2⟩ := Z2.out
          have w2_b : w2.heap.size ≠ (ad.add (j * 3)).block := by have := block_lt_of_cell z0; omega
          go_upto_region 7 with (fail)
          have BA := Lib.hid (show Bx (w2.drew.alloc (.cells #[.slice none 0 0, .slice none 0 0] 40)) w2.heap.size [.slice none 0 0, .slice none 0 0] from Bx.new w2.drew [.slice none 0 0, .slice none 0 0] 40)
          go_cut [8, 9] (fun s8 s9 wx => Cq g T 0 w2 s8 s9 wx)
          case first =>
            refine wp_region_held_drew (S := fun w' => (w'.cell? ⟨g, 0, none⟩ = some (.slice P s.data.length pc) ∧ w'.cell? ⟨g, 1, none⟩ = some (.slice R s.toks.length rc)) ∧ w'.cell? (ad.add (j * 3)) = some (.int .i64 rk) ∧ w'.cell? ⟨(ad.add (j * 3)).block, (ad.add (j * 3)).off + 1, none⟩ = some (.string rt) ∧ w'.cell? ⟨(ad.add (j * 3)).block, (ad.add (j * 3)).off + 2, none⟩ = some (.slice C p q)) (by kernel_rfl) ?szz20 (fun hHeld => ?rzz20)
            case szz20 =>
              exact ⟨⟨c0, c1⟩, z0, z1, z2⟩
            case' rzz20 => skip
            have hC0 := hHeld
            refine wpAnyH_take (i := 0) (oi := ?ozz21) (v := ?vzz21) ?hzz21 ?azz21 ?bzz21 ?czz21 ?qzz21 ?yzz21 ?szz21 ?rzz21
            case hzz21 => simp only [List.getElem?_toArray, List.getElem?_cons_zero]; rfl
            case azz21 => kernel_rfl
            case bzz21 => kernel_rfl
            case czz21 => kernel_rfl
            case yzz21 =>
              refine Or.inl ⟨by rfl, ?_⟩
              intro w hSw
              obtain ⟨⟨s0, s1⟩, s2, s3, s4⟩ := hSw
              go_simp
              try with_reducible rfl
            case qzz21 => exact fun _ _ _ h => h
            case szz21 => first | assumption | trivial
            case' rzz21 => simp only [Act.put, List.setIfInBounds_toArray, List.set_cons_zero, List.set_cons_succ]
            refine wpAnyH_take (i := 1) (oi := ?ozz22) (v := ?vzz22) ?hzz22 ?azz22 ?bzz22 ?czz22 ?qzz22 ?yzz22 ?szz22 ?rzz22
            case hzz22 => simp only [List.getElem?_toArray, List.getElem?_cons_zero, List.getElem?_cons_succ]; rfl
            case azz22 => kernel_rfl
            case bzz22 => kernel_rfl
            case czz22 => kernel_rfl
            case yzz22 =>
              refine Or.inl ⟨by rfl, ?_⟩
              intro w hSw
              obtain ⟨⟨s0, s1⟩, s2, s3, s4⟩ := hSw
              go_simp
              try with_reducible rfl
            case qzz22 => exact fun _ _ _ h => h
            case szz22 => first | assumption | trivial
            case' rzz22 => simp only [Act.put, List.setIfInBounds_toArray, List.set_cons_zero, List.set_cons_succ]
            refine wpAnyH_take (i := 2) (oi := ?ozz23) (v := ?vzz23) ?hzz23 ?azz23 ?bzz23 ?czz23 ?qzz23 ?yzz23 ?szz23 ?rzz23
            case hzz23 => simp only [List.getElem?_toArray, List.getElem?_cons_zero, List.getElem?_cons_succ]; rfl
            case azz23 => kernel_rfl
            case bzz23 => kernel_rfl
            case czz23 => kernel_rfl
            case yzz23 =>
              refine Or.inl ⟨by rfl, ?_⟩
              intro w hSw
              obtain ⟨⟨s0, s1⟩, s2, s3, s4⟩ := hSw
              go_simp
              try with_reducible rfl
            case qzz23 => exact fun _ _ _ h => h
            case szz23 => first | assumption | trivial
            case' rzz23 => simp only [Act.put, List.setIfInBounds_toArray, List.set_cons_zero, List.set_cons_succ]
            refine wpAnyH_take (i := 3) (oi := ?ozz24) (v := ?vzz24) ?hzz24 ?azz24 ?bzz24 ?czz24 ?qzz24 ?yzz24 ?szz24 ?rzz24
            case hzz24 => simp only [List.getElem?_toArray, List.getElem?_cons_zero, List.getElem?_cons_succ]; rfl
            case azz24 => kernel_rfl
            case bzz24 => kernel_rfl
            case czz24 => kernel_rfl
            case yzz24 =>
              refine Or.inl ⟨by rfl, ?_⟩
              intro w hSw
              obtain ⟨⟨s0, s1⟩, s2, s3, s4⟩ := hSw
              go_simp
              try with_reducible rfl
            case qzz24 => exact fun _ _ _ h => h
            case szz24 => first | assumption | trivial
            case' rzz24 => simp only [Act.put, List.setIfInBounds_toArray, List.set_cons_zero, List.set_cons_succ]
            refine wpAnyH_take (i := 4) (oi := ?ozz25) (v := ?vzz25) ?hzz25 ?azz25 ?bzz25 ?czz25 ?qzz25 ?yzz25 ?szz25 ?rzz25
            case hzz25 => simp only [List.getElem?_toArray, List.getElem?_cons_zero, List.getElem?_cons_succ]; rfl
            case azz25 => kernel_rfl
            case bzz25 => kernel_rfl
            case czz25 => kernel_rfl
            case yzz25 =>
              refine Or.inl ⟨by rfl, ?_⟩
              intro w hSw
              obtain ⟨⟨s0, s1⟩, s2, s3, s4⟩ := hSw
              go_simp
              try with_reducible rfl
            case qzz25 => exact fun _ _ _ h => h
            case szz25 => first | assumption | trivial
            case' rzz25 => simp only [Act.put, List.setIfInBounds_toArray, List.set_cons_zero, List.set_cons_succ]
            refine wpAnyH_ready (rs := [5, 9]) (by kernel_rfl) (by simp) ?_
            refine AllReadyH.cons (o := ?ozz38) ?hzz38 (fun K hK => ?kzz38) ?mzz38
            case hzz38 => simp only [List.getElem?_toArray, List.getElem?_cons_zero, List.getElem?_cons_succ]; rfl
            case kzz38 =>
              go_simp
              refine (KD.out _ (Q2.out.trans ((Q.refl w2).drew))).mono ?_
              rintro e v5 ⟨A5, c5, B5, d5, rfl, o5, t5, q5⟩
              try simp only at o5 t5
              have QK : Q w2 v5 := ((Q.refl w2).drew).trans q5
              go_wp2_with fail
              refine hK.out _ _ ?Szz38 (fun hHeld => ?Rzz38)
              case Szz38 =>
                exact ⟨⟨box_ QK c0, box_ QK c1⟩, box_ QK z0, box_ QK z1, box_ QK z2⟩
              case Rzz38 =>
                clear hK K
                try simp only [Act.put, List.setIfInBounds_toArray, List.set_cons_zero, List.set_cons_succ]
                refine wpAnyH_take (i := 6) (oi := ?ozz26) (v := ?vzz26) ?hzz26 ?azz26 ?bzz26 ?czz26 ?qzz26 ?yzz26 ?szz26 ?rzz26
                case hzz26 => simp only [List.getElem?_toArray, List.getElem?_cons_zero, List.getElem?_cons_succ]; rfl
                case azz26 => kernel_rfl
                case bzz26 => kernel_rfl
                case czz26 => kernel_rfl
                case yzz26 =>
                  refine Or.inl ⟨by rfl, ?_⟩
                  intro w hSw
                  obtain ⟨⟨s0, s1⟩, s2, s3, s4⟩ := hSw
                  go_simp
                  try with_reducible rfl
                case qzz26 => exact fun _ _ _ h => h
                case szz26 => first | assumption | trivial
                case' rzz26 => simp only [Act.put, List.setIfInBounds_toArray, List.set_cons_zero, List.set_cons_succ]
                refine wpAnyH_take (i := 7) (oi := ?ozz27) (v := ?vzz27) ?hzz27 ?azz27 ?bzz27 ?czz27 ?qzz27 ?yzz27 ?szz27 ?rzz27
                case hzz27 => simp only [List.getElem?_toArray, List.getElem?_cons_zero, List.getElem?_cons_succ]; rfl
                case azz27 => kernel_rfl
                case bzz27 => kernel_rfl
                case czz27 => kernel_rfl
                case yzz27 =>
                  refine Or.inl ⟨by rfl, ?_⟩
                  intro w hSw
                  obtain ⟨⟨s0, s1⟩, s2, s3, s4⟩ := hSw
                  go_simp
                  try with_reducible rfl
                case qzz27 => exact fun _ _ _ h => h
                case szz27 => first | assumption | trivial
                case' rzz27 => simp only [Act.put, List.setIfInBounds_toArray, List.set_cons_zero, List.set_cons_succ]
                refine wpAnyH_take (i := 8) (oi := ?ozz28) (v := ?vzz28) ?hzz28 ?azz28 ?bzz28 ?czz28 ?qzz28 ?yzz28 ?szz28 ?rzz28
                case hzz28 => simp only [List.getElem?_toArray, List.getElem?_cons_zero, List.getElem?_cons_succ]; rfl
                case azz28 => kernel_rfl
                case bzz28 => kernel_rfl
                case czz28 => kernel_rfl
                case yzz28 =>
                  refine Or.inl ⟨by rfl, ?_⟩
                  intro w hSw
                  obtain ⟨⟨s0, s1⟩, s2, s3, s4⟩ := hSw
                  go_simp
                  try with_reducible rfl
                case qzz28 => exact fun _ _ _ h => h
                case szz28 => first | assumption | trivial
                case' rzz28 => simp only [Act.put, List.setIfInBounds_toArray, List.set_cons_zero, List.set_cons_succ]
                refine wpAnyH_ready (rs := [9]) (by kernel_rfl) (by simp) ?_
                refine AllReadyH.cons (o := ?ozz31) ?hzz31 (fun K hK => ?kzz31) ?mzz31
                case hzz31 => simp only [List.getElem?_toArray, List.getElem?_cons_zero, List.getElem?_cons_succ]; rfl
                case kzz31 =>
                  go_simp
                  refine hK.out _ _ ?Szz31 (fun hHeld => ?Rzz31)
                  case Szz31 =>
                    exact ⟨⟨box_ (QK.alloc _) c0, box_ (QK.alloc _) c1⟩, box_ (QK.alloc _) z0, box_ (QK.alloc _) z1, box_ (QK.alloc _) z2⟩
                  case Rzz31 =>
                    clear hK K
                    try simp only [Act.put, List.setIfInBounds_toArray, List.set_cons_zero, List.set_cons_succ]
                    refine wpAnyH_ready (rs := [10]) (by kernel_rfl) (by simp) ?_
                    refine AllReadyH.cons (o := ?ozz30) ?hzz30 (fun K hK => ?kzz30) ?mzz30
                    case hzz30 => simp only [List.getElem?_toArray, List.getElem?_cons_zero, List.getElem?_cons_succ]; rfl
                    case kzz30 =>
                      go_simp
                      refine hK.out _ _ ?Szz30 (fun hHeld => ?Rzz30)
                      case Szz30 =>
                        exact ⟨⟨box_ (QK.alloc _) c0, box_ (QK.alloc _) c1⟩, box_ (QK.alloc _) z0, box_ (QK.alloc _) z1, box_ (QK.alloc _) z2⟩
                      case Rzz30 =>
                        clear hK K
                        try simp only [Act.put, List.setIfInBounds_toArray, List.set_cons_zero, List.set_cons_succ]
                        refine wpAnyH_take (i := 11) (oi := ?ozz29) (v := ?vzz29) ?hzz29 ?azz29 ?bzz29 ?czz29 ?qzz29 ?yzz29 ?szz29 ?rzz29
                        case hzz29 => simp only [List.getElem?_toArray, List.getElem?_cons_zero, List.getElem?_cons_succ]; rfl
                        case azz29 => kernel_rfl
                        case bzz29 => kernel_rfl
                        case czz29 => kernel_rfl
                        case yzz29 =>
                          refine Or.inl ⟨by rfl, ?_⟩
                          intro w hSw
                          obtain ⟨⟨s0, s1⟩, s2, s3, s4⟩ := hSw
                          go_simp
                          try with_reducible rfl
                        case qzz29 => exact fun _ _ _ h => h
                        case szz29 => first | assumption | trivial
                        case' rzz29 => simp only [Act.put, List.setIfInBounds_toArray, List.set_cons_zero, List.set_cons_succ]
                        refine wpAnyH_done (by kernel_rfl) ?_ _
                        go_wp2_with fail
                        go_meet
                        exact leafA (g := g) (base := w2.drew.heap.size) (by have := w2_g; simp only [World.size_drew]; omega) o5 t5 QK
                    case' mzz30 => skip
                    exact AllReadyH.nil
                case' mzz31 => skip
                exact AllReadyH.nil
            case' mzz38 => skip
            refine AllReadyH.cons (o := ?ozz39) ?hzz39 (fun K hK => ?kzz39) ?mzz39
            case hzz39 => simp only [List.getElem?_toArray, List.getElem?_cons_zero, List.getElem?_cons_succ]; rfl
            case kzz39 =>
              go_simp
              refine hK.out _ _ ?Szz39 (fun hHeld => ?Rzz39)
              case Szz39 =>
                exact ⟨⟨box_ ((Q.refl w2).drew.alloc (.cells #[.slice none 0 0, .slice none 0 0] 40)) c0, box_ ((Q.refl w2).drew.alloc (.cells #[.slice none 0 0, .slice none 0 0] 40)) c1⟩, box_ ((Q.refl w2).drew.alloc (.cells #[.slice none 0 0, .slice none 0 0] 40)) z0, box_ ((Q.refl w2).drew.alloc (.cells #[.slice none 0 0, .slice none 0 0] 40)) z1, box_ ((Q.refl w2).drew.alloc (.cells #[.slice none 0 0, .slice none 0 0] 40)) z2⟩
              case Rzz39 =>
                clear hK K
                try simp only [Act.put, List.setIfInBounds_toArray, List.set_cons_zero, List.set_cons_succ]
                refine wpAnyH_ready (rs := [5]) (by kernel_rfl) (by simp) ?_
                refine AllReadyH.cons (o := ?ozz37) ?hzz37 (fun K hK => ?kzz37) ?mzz37
                case hzz37 => simp only [List.getElem?_toArray, List.getElem?_cons_zero, List.getElem?_cons_succ]; rfl
                case kzz37 =>
                  go_simp
                  refine (KD.out _ (Q2.out.trans ((Q.refl w2).drew.alloc (.cells #[.slice none 0 0, .slice none 0 0] 40)))).mono ?_
                  rintro e v5 ⟨A5, c5, B5, d5, rfl, o5, t5, q5⟩
                  try simp only at o5 t5
                  have QK : Q w2 v5 := ((Q.refl w2).drew.alloc (.cells #[.slice none 0 0, .slice none 0 0] 40)).trans q5
                  obtain ⟨⟨b0, b1⟩, b2, b3⟩ := (BA.out.q q5).get2
                  go_wp2_with fail
                  refine hK.out _ _ ?Szz37 (fun hHeld => ?Rzz37)
                  case Szz37 =>
                    exact ⟨⟨box_ QK c0, box_ QK c1⟩, box_ QK z0, box_ QK z1, box_ QK z2⟩
                  case Rzz37 =>
                    clear hK K
                    try simp only [Act.put, List.setIfInBounds_toArray, List.set_cons_zero, List.set_cons_succ]
                    refine wpAnyH_take (i := 6) (oi := ?ozz32) (v := ?vzz32) ?hzz32 ?azz32 ?bzz32 ?czz32 ?qzz32 ?yzz32 ?szz32 ?rzz32
                    case hzz32 => simp only [List.getElem?_toArray, List.getElem?_cons_zero, List.getElem?_cons_succ]; rfl
                    case azz32 => kernel_rfl
                    case bzz32 => kernel_rfl
                    case czz32 => kernel_rfl
                    case yzz32 =>
                      refine Or.inl ⟨by rfl, ?_⟩
                      intro w hSw
                      obtain ⟨⟨s0, s1⟩, s2, s3, s4⟩ := hSw
                      go_simp
                      try with_reducible rfl
                    case qzz32 => exact fun _ _ _ h => h
                    case szz32 => first | assumption | trivial
                    case' rzz32 => simp only [Act.put, List.setIfInBounds_toArray, List.set_cons_zero, List.set_cons_succ]
                    refine wpAnyH_take (i := 7) (oi := ?ozz33) (v := ?vzz33) ?hzz33 ?azz33 ?bzz33 ?czz33 ?qzz33 ?yzz33 ?szz33 ?rzz33
                    case hzz33 => simp only [List.getElem?_toArray, List.getElem?_cons_zero, List.getElem?_cons_succ]; rfl
                    case azz33 => kernel_rfl
                    case bzz33 => kernel_rfl
                    case czz33 => kernel_rfl
                    case yzz33 =>
                      refine Or.inl ⟨by rfl, ?_⟩
                      intro w hSw
                      obtain ⟨⟨s0, s1⟩, s2, s3, s4⟩ := hSw
                      go_simp
                      try with_reducible rfl
                    case qzz33 => exact fun _ _ _ h => h
                    case szz33 => first | assumption | trivial
                    case' rzz33 => simp only [Act.put, List.setIfInBounds_toArray, List.set_cons_zero, List.set_cons_succ]
                    refine wpAnyH_take (i := 8) (oi := ?ozz34) (v := ?vzz34) ?hzz34 ?azz34 ?bzz34 ?czz34 ?qzz34 ?yzz34 ?szz34 ?rzz34
                    case hzz34 => simp only [List.getElem?_toArray, List.getElem?_cons_zero, List.getElem?_cons_succ]; rfl
                    case azz34 => kernel_rfl
                    case bzz34 => kernel_rfl
                    case czz34 => kernel_rfl
                    case yzz34 =>
                      refine Or.inl ⟨by rfl, ?_⟩
                      intro w hSw
                      obtain ⟨⟨s0, s1⟩, s2, s3, s4⟩ := hSw
                      go_simp
                      try with_reducible rfl
                    case qzz34 => exact fun _ _ _ h => h
                    case szz34 => first | assumption | trivial
                    case' rzz34 => simp only [Act.put, List.setIfInBounds_toArray, List.set_cons_zero, List.set_cons_succ]
                    refine wpAnyH_ready (rs := [10]) (by kernel_rfl) (by simp) ?_
                    refine AllReadyH.cons (o := ?ozz36) ?hzz36 (fun K hK => ?kzz36) ?mzz36
                    case hzz36 => simp only [List.getElem?_toArray, List.getElem?_cons_zero, List.getElem?_cons_succ]; rfl
                    case kzz36 =>
                      go_simp
                      refine hK.out _ _ ?Szz36 (fun hHeld => ?Rzz36)
                      case Szz36 =>
                        exact ⟨⟨far2_ w2_a (box_ QK c0), far2_ w2_a (box_ QK c1)⟩, far2_ w2_b (box_ QK z0), far2_ w2_b (box_ QK z1), far2_ w2_b (box_ QK z2)⟩
                      case Rzz36 =>
                        clear hK K
                        try simp only [Act.put, List.setIfInBounds_toArray, List.set_cons_zero, List.set_cons_succ]
                        refine wpAnyH_take (i := 11) (oi := ?ozz35) (v := ?vzz35) ?hzz35 ?azz35 ?bzz35 ?czz35 ?qzz35 ?yzz35 ?szz35 ?rzz35
                        case hzz35 => simp only [List.getElem?_toArray, List.getElem?_cons_zero, List.getElem?_cons_succ]; rfl
                        case azz35 => kernel_rfl
                        case bzz35 => kernel_rfl
                        case czz35 => kernel_rfl
                        case yzz35 =>
                          refine Or.inl ⟨by rfl, ?_⟩
                          intro w hSw
                          obtain ⟨⟨s0, s1⟩, s2, s3, s4⟩ := hSw
                          go_simp
                          try with_reducible rfl
                        case qzz35 => exact fun _ _ _ h => h
                        case szz35 => first | assumption | trivial
                        case' rzz35 => simp only [Act.put, List.setIfInBounds_toArray, List.set_cons_zero, List.set_cons_succ]
                        refine wpAnyH_done (by kernel_rfl) ?_ _
                        go_wp2_with fail
                        go_meet
                        exact leafB (g := g) (base := (w2.drew.alloc (.cells #[.slice none 0 0, .slice none 0 0] 40)).heap.size) (by have := w2_g; simp only [World.size_alloc, World.size_drew]; omega) (by simp) (Nat.le_refl _) (BA.out.q q5) o5 t5 QK
                    case' mzz36 => skip
                    exact AllReadyH.nil
                case' mzz37 => skip
                exact AllReadyH.nil
            case' mzz39 => skip
            exact AllReadyH.nil
          case rest =>
            obtain ⟨h, A5, c5, B5, d5, rfl, rfl, x3, o3, t3, q3⟩ := hcut
            have X3 := Lib.hid (X2.out.step q3)
            have Z3 := Lib.hid (Z2.out.step q3)
            have B3 := Lib.hid x3
            have O3 := Lib.hid o3
            have T3 := Lib.hid t3
            have Q3 := Lib.hid (Q2.out.trans q3)
            clear x3 o3 t3 q3 c0 c1 z0 z1 z2
            obtain ⟨c0, c1⟩ := B3.out.get2.1
            obtain ⟨z0, z1, z2⟩ := Z3.out
            go_wp2
            go_region_held3 (fun w' => w'.cell? ⟨h, 0, none⟩ = some (.slice A5 T.data.length c5) ∧ w'.cell? ⟨h, 1, none⟩ = some (.slice B5 T.toks.length d5) ∧ w'.cell? ⟨(ad.add (j * 3)).block, (ad.add (j * 3)).off + 1, none⟩ = some (.string rt))
              (first
                | go_keep
                | (go_split_ands
                   (repeat' apply And.intro) <;> exact box_ ‹Q _ _› (by assumption)))
              (first
                | (go_at_call 22
                   refine (KF.out _ A5 c5 B5 d5 (T3.out.q (Q.refl _).drew)).mono ?_
                   rintro e w4 ⟨rfl, y4⟩))
            have QS := Lib.hid ((Q.refl wc).drew.trans y4)
            have X4 := Lib.hid (X3.out.step QS.out)
            have Z4 := Lib.hid (Z3.out.step QS.out)
            have B4 := Lib.hid (B3.out.q QS.out)
            have O4 := Lib.hid (O3.out.q QS.out)
            have T4 := Lib.hid (T3.out.q QS.out)
            have Q4 := Lib.hid (Q3.out.trans QS.out)
            clear y4 c0 c1 z0 z1 z2 X3 Z3 B3 O3 T3 Q3 QS
            obtain ⟨c0, c1⟩ := B4.out.get2.1
            obtain ⟨d0, d1⟩ := X4.out.bx.get2.1
            obtain ⟨z0, z1, z2⟩ := Z4.out
            have w4_g : g < w4.heap.size := X4.out.bx.lt
            have w4_a : w4.heap.size ≠ h := by have := B4.out.lt; omega
            have w4_b : w4.heap.size ≠ (ad.add (j * 3)).block := by have := block_lt_of_cell z0; omega
            go_upto_region 13 with (fail)
            have BA := Lib.hid (show Bx (w4.drew.alloc (.cells #[.slice none 0 0, .slice none 0 0] 40)) w4.heap.size [.slice none 0 0, .slice none 0 0] from Bx.new w4.drew [.slice none 0 0, .slice none 0 0] 40)
            go_cut [12, 13] (fun s8 s9 wx => Cq g T 8 w4 s8 s9 wx)
            case first =>
              refine wp_region_held_drew (S := fun w' => (w'.cell? ⟨h, 0, none⟩ = some (.slice A5 T.data.length c5) ∧ w'.cell? ⟨h, 1, none⟩ = some (.slice B5 T.toks.length d5)) ∧ w'.cell? (ad.add (j * 3)) = some (.int .i64 rk) ∧ w'.cell? ⟨(ad.add (j * 3)).block, (ad.add (j * 3)).off + 1, none⟩ = some (.string rt) ∧ w'.cell? ⟨(ad.add (j * 3)).block, (ad.add (j * 3)).off + 2, none⟩ = some (.slice C p q)) (by kernel_rfl) ?szz0 (fun hHeld => ?rzz0)
              case szz0 =>
                exact ⟨⟨c0, c1⟩, z0, z1, z2⟩
              case' rzz0 => skip
              have hC0 := hHeld
              refine wpAnyH_take (i := 0) (oi := ?ozz1) (v := ?vzz1) ?hzz1 ?azz1 ?bzz1 ?czz1 ?qzz1 ?yzz1 ?szz1 ?rzz1
              case hzz1 => simp only [List.getElem?_toArray, List.getElem?_cons_zero]; rfl
              case azz1 => kernel_rfl
              case bzz1 => kernel_rfl
              case czz1 => kernel_rfl
              case yzz1 =>
                refine Or.inl ⟨by rfl, ?_⟩
                intro w hSw
                obtain ⟨⟨s0, s1⟩, s2, s3, s4⟩ := hSw
                go_simp
                try with_reducible rfl
              case qzz1 => exact fun _ _ _ h => h
              case szz1 => first | assumption | trivial
              case' rzz1 => simp only [Act.put, List.setIfInBounds_toArray, List.set_cons_zero, List.set_cons_succ]
              refine wpAnyH_take (i := 1) (oi := ?ozz2) (v := ?vzz2) ?hzz2 ?azz2 ?bzz2 ?czz2 ?qzz2 ?yzz2 ?szz2 ?rzz2
              case hzz2 => simp only [List.getElem?_toArray, List.getElem?_cons_zero, List.getElem?_cons_succ]; rfl
              case azz2 => kernel_rfl
              case bzz2 => kernel_rfl
              case czz2 => kernel_rfl
              case yzz2 =>
                refine Or.inl ⟨by rfl, ?_⟩
                intro w hSw
                obtain ⟨⟨s0, s1⟩, s2, s3, s4⟩ := hSw
                go_simp
                try with_reducible rfl
              case qzz2 => exact fun _ _ _ h => h
              case szz2 => first | assumption | trivial
              case' rzz2 => simp only [Act.put, List.setIfInBounds_toArray, List.set_cons_zero, List.set_cons_succ]
              refine wpAnyH_take (i := 2) (oi := ?ozz3) (v := ?vzz3) ?hzz3 ?azz3 ?bzz3 ?czz3 ?qzz3 ?yzz3 ?szz3 ?rzz3
              case hzz3 => simp only [List.getElem?_toArray, List.getElem?_cons_zero, List.getElem?_cons_succ]; rfl
              case azz3 => kernel_rfl
              case bzz3 => kernel_rfl
              case czz3 => kernel_rfl
              case yzz3 =>
                refine Or.inl ⟨by rfl, ?_⟩
                intro w hSw
                obtain ⟨⟨s0, s1⟩, s2, s3, s4⟩ := hSw
                go_simp
                try with_reducible rfl
              case qzz3 => exact fun _ _ _ h => h
              case szz3 => first | assumption | trivial
              case' rzz3 => simp only [Act.put, List.setIfInBounds_toArray, List.set_cons_zero, List.set_cons_succ]
              refine wpAnyH_take (i := 3) (oi := ?ozz4) (v := ?vzz4) ?hzz4 ?azz4 ?bzz4 ?czz4 ?qzz4 ?yzz4 ?szz4 ?rzz4
              case hzz4 => simp only [List.getElem?_toArray, List.getElem?_cons_zero, List.getElem?_cons_succ]; rfl
              case azz4 => kernel_rfl
              case bzz4 => kernel_rfl
              case czz4 => kernel_rfl
              case yzz4 =>
                refine Or.inl ⟨by rfl, ?_⟩
                intro w hSw
                obtain ⟨⟨s0, s1⟩, s2, s3, s4⟩ := hSw
                go_simp
                try with_reducible rfl
              case qzz4 => exact fun _ _ _ h => h
              case szz4 => first | assumption | trivial
              case' rzz4 => simp only [Act.put, List.setIfInBounds_toArray, List.set_cons_zero, List.set_cons_succ]
              refine wpAnyH_take (i := 4) (oi := ?ozz5) (v := ?vzz5) ?hzz5 ?azz5 ?bzz5 ?czz5 ?qzz5 ?yzz5 ?szz5 ?rzz5
              case hzz5 => simp only [List.getElem?_toArray, List.getElem?_cons_zero, List.getElem?_cons_succ]; rfl
              case azz5 => kernel_rfl
              case bzz5 => kernel_rfl
              case czz5 => kernel_rfl
              case yzz5 =>
                refine Or.inl ⟨by rfl, ?_⟩
                intro w hSw
                obtain ⟨⟨s0, s1⟩, s2, s3, s4⟩ := hSw
                go_simp
                try with_reducible rfl
              case qzz5 => exact fun _ _ _ h => h
              case szz5 => first | assumption | trivial
              case' rzz5 => simp only [Act.put, List.setIfInBounds_toArray, List.set_cons_zero, List.set_cons_succ]
              refine wpAnyH_ready (rs := [5, 9]) (by kernel_rfl) (by simp) ?_
              refine AllReadyH.cons (o := ?ozz18) ?hzz18 (fun K hK => ?kzz18) ?mzz18
              case hzz18 => simp only [List.getElem?_toArray, List.getElem?_cons_zero, List.getElem?_cons_succ]; rfl
              case kzz18 =>
                go_simp
                refine (KD2.out _ A5 c5 B5 d5 (O4.out.q ((Q.refl w4).drew)) (T4.out.q ((Q.refl w4).drew)) (Q4.out.trans ((Q.refl w4).drew))).mono ?_
                rintro e v5 ⟨A5, c5, B5, d5, rfl, o5, t5, q5⟩
                try simp only at o5 t5
                have QK : Q w4 v5 := ((Q.refl w4).drew).trans q5
                go_wp2_with fail
                refine hK.out _ _ ?Szz18 (fun hHeld => ?Rzz18)
                case Szz18 =>
                  exact ⟨⟨box_ QK c0, box_ QK c1⟩, box_ QK z0, box_ QK z1, box_ QK z2⟩
                case Rzz18 =>
                  clear hK K
                  try simp only [Act.put, List.setIfInBounds_toArray, List.set_cons_zero, List.set_cons_succ]
                  refine wpAnyH_take (i := 6) (oi := ?ozz6) (v := ?vzz6) ?hzz6 ?azz6 ?bzz6 ?czz6 ?qzz6 ?yzz6 ?szz6 ?rzz6
                  case hzz6 => simp only [List.getElem?_toArray, List.getElem?_cons_zero, List.getElem?_cons_succ]; rfl
                  case azz6 => kernel_rfl
                  case bzz6 => kernel_rfl
                  case czz6 => kernel_rfl
                  case yzz6 =>
                    refine Or.inl ⟨by rfl, ?_⟩
                    intro w hSw
                    obtain ⟨⟨s0, s1⟩, s2, s3, s4⟩ := hSw
                    go_simp
                    try with_reducible rfl
                  case qzz6 => exact fun _ _ _ h => h
                  case szz6 => first | assumption | trivial
                  case' rzz6 => simp only [Act.put, List.setIfInBounds_toArray, List.set_cons_zero, List.set_cons_succ]
                  refine wpAnyH_take (i := 7) (oi := ?ozz7) (v := ?vzz7) ?hzz7 ?azz7 ?bzz7 ?czz7 ?qzz7 ?yzz7 ?szz7 ?rzz7
                  case hzz7 => simp only [List.getElem?_toArray, List.getElem?_cons_zero, List.getElem?_cons_succ]; rfl
                  case azz7 => kernel_rfl
                  case bzz7 => kernel_rfl
                  case czz7 => kernel_rfl
                  case yzz7 =>
                    refine Or.inl ⟨by rfl, ?_⟩
                    intro w hSw
                    obtain ⟨⟨s0, s1⟩, s2, s3, s4⟩ := hSw
                    go_simp
                    try with_reducible rfl
                  case qzz7 => exact fun _ _ _ h => h
                  case szz7 => first | assumption | trivial
                  case' rzz7 => simp only [Act.put, List.setIfInBounds_toArray, List.set_cons_zero, List.set_cons_succ]
                  refine wpAnyH_take (i := 8) (oi := ?ozz8) (v := ?vzz8) ?hzz8 ?azz8 ?bzz8 ?czz8 ?qzz8 ?yzz8 ?szz8 ?rzz8
                  case hzz8 => simp only [List.getElem?_toArray, List.getElem?_cons_zero, List.getElem?_cons_succ]; rfl
                  case azz8 => kernel_rfl
                  case bzz8 => kernel_rfl
                  case czz8 => kernel_rfl
                  case yzz8 =>
                    refine Or.inl ⟨by rfl, ?_⟩
                    intro w hSw
                    obtain ⟨⟨s0, s1⟩, s2, s3, s4⟩ := hSw
                    go_simp
                    try with_reducible rfl
                  case qzz8 => exact fun _ _ _ h => h
                  case szz8 => first | assumption | trivial
                  case' rzz8 => simp only [Act.put, List.setIfInBounds_toArray, List.set_cons_zero, List.set_cons_succ]
                  refine wpAnyH_ready (rs := [9]) (by kernel_rfl) (by simp) ?_
                  refine AllReadyH.cons (o := ?ozz11) ?hzz11 (fun K hK => ?kzz11) ?mzz11
                  case hzz11 => simp only [List.getElem?_toArray, List.getElem?_cons_zero, List.getElem?_cons_succ]; rfl
                  case kzz11 =>
                    go_simp
                    refine hK.out _ _ ?Szz11 (fun hHeld => ?Rzz11)
                    case Szz11 =>
                      exact ⟨⟨box_ (QK.alloc _) c0, box_ (QK.alloc _) c1⟩, box_ (QK.alloc _) z0, box_ (QK.alloc _) z1, box_ (QK.alloc _) z2⟩
                    case Rzz11 =>
                      clear hK K
                      try simp only [Act.put, List.setIfInBounds_toArray, List.set_cons_zero, List.set_cons_succ]
                      refine wpAnyH_ready (rs := [10]) (by kernel_rfl) (by simp) ?_
                      refine AllReadyH.cons (o := ?ozz10) ?hzz10 (fun K hK => ?kzz10) ?mzz10
                      case hzz10 => simp only [List.getElem?_toArray, List.getElem?_cons_zero, List.getElem?_cons_succ]; rfl
                      case kzz10 =>
                        go_simp
                        refine hK.out _ _ ?Szz10 (fun hHeld => ?Rzz10)
                        case Szz10 =>
                          exact ⟨⟨box_ (QK.alloc _) c0, box_ (QK.alloc _) c1⟩, box_ (QK.alloc _) z0, box_ (QK.alloc _) z1, box_ (QK.alloc _) z2⟩
                        case Rzz10 =>
                          clear hK K
                          try simp only [Act.put, List.setIfInBounds_toArray, List.set_cons_zero, List.set_cons_succ]
                          refine wpAnyH_take (i := 11) (oi := ?ozz9) (v := ?vzz9) ?hzz9 ?azz9 ?bzz9 ?czz9 ?qzz9 ?yzz9 ?szz9 ?rzz9
                          case hzz9 => simp only [List.getElem?_toArray, List.getElem?_cons_zero, List.getElem?_cons_succ]; rfl
                          case azz9 => kernel_rfl
                          case bzz9 => kernel_rfl
                          case czz9 => kernel_rfl
                          case yzz9 =>
                            refine Or.inl ⟨by rfl, ?_⟩
                            intro w hSw
                            obtain ⟨⟨s0, s1⟩, s2, s3, s4⟩ := hSw
                            go_simp
                            try with_reducible rfl
                          case qzz9 => exact fun _ _ _ h => h
                          case szz9 => first | assumption | trivial
                          case' rzz9 => simp only [Act.put, List.setIfInBounds_toArray, List.set_cons_zero, List.set_cons_succ]
                          refine wpAnyH_done (by kernel_rfl) ?_ _
                          go_wp2_with fail
                          go_meet
                          exact leafA (g := g) (base := w4.drew.heap.size) (by have := w4_g; simp only [World.size_drew]; omega) o5 t5 QK
                      case' mzz10 => skip
                      exact AllReadyH.nil
                  case' mzz11 => skip
                  exact AllReadyH.nil
              case' mzz18 => skip
              refine AllReadyH.cons (o := ?ozz19) ?hzz19 (fun K hK => ?kzz19) ?mzz19
              case hzz19 => simp only [List.getElem?_toArray, List.getElem?_cons_zero, List.getElem?_cons_succ]; rfl
              case kzz19 =>
                go_simp
                refine hK.out _ _ ?Szz19 (fun hHeld => ?Rzz19)
                case Szz19 =>
                  exact ⟨⟨box_ ((Q.refl w4).drew.alloc (.cells #[.slice none 0 0, .slice none 0 0] 40)) c0, box_ ((Q.refl w4).drew.alloc (.cells #[.slice none 0 0, .slice none 0 0] 40)) c1⟩, box_ ((Q.refl w4).drew.alloc (.cells #[.slice none 0 0, .slice none 0 0] 40)) z0, box_ ((Q.refl w4).drew.alloc (.cells #[.slice none 0 0, .slice none 0 0] 40)) z1, box_ ((Q.refl w4).drew.alloc (.cells #[.slice none 0 0, .slice none 0 0] 40)) z2⟩
                case Rzz19 =>
                  clear hK K
                  try simp only [Act.put, List.setIfInBounds_toArray, List.set_cons_zero, List.set_cons_succ]
                  refine wpAnyH_ready (rs := [5]) (by kernel_rfl) (by simp) ?_
                  refine AllReadyH.cons (o := ?ozz17) ?hzz17 (fun K hK => ?kzz17) ?mzz17
                  case hzz17 => simp only [List.getElem?_toArray, List.getElem?_cons_zero, List.getElem?_cons_succ]; rfl
                  case kzz17 =>
                    go_simp
                    refine (KD2.out _ A5 c5 B5 d5 (O4.out.q ((Q.refl w4).drew.alloc (.cells #[.slice none 0 0, .slice none 0 0] 40))) (T4.out.q ((Q.refl w4).drew.alloc (.cells #[.slice none 0 0, .slice none 0 0] 40))) (Q4.out.trans ((Q.refl w4).drew.alloc (.cells #[.slice none 0 0, .slice none 0 0] 40)))).mono ?_
                    rintro e v5 ⟨A5, c5, B5, d5, rfl, o5, t5, q5⟩
                    try simp only at o5 t5
                    have QK : Q w4 v5 := ((Q.refl w4).drew.alloc (.cells #[.slice none 0 0, .slice none 0 0] 40)).trans q5
                    obtain ⟨⟨b0, b1⟩, b2, b3⟩ := (BA.out.q q5).get2
                    go_wp2_with fail
                    refine hK.out _ _ ?Szz17 (fun hHeld => ?Rzz17)
                    case Szz17 =>
                      exact ⟨⟨box_ QK c0, box_ QK c1⟩, box_ QK z0, box_ QK z1, box_ QK z2⟩
                    case Rzz17 =>
                      clear hK K
                      try simp only [Act.put, List.setIfInBounds_toArray, List.set_cons_zero, List.set_cons_succ]
                      refine wpAnyH_take (i := 6) (oi := ?ozz12) (v := ?vzz12) ?hzz12 ?azz12 ?bzz12 ?czz12 ?qzz12 ?yzz12 ?szz12 ?rzz12
                      case hzz12 => simp only [List.getElem?_toArray, List.getElem?_cons_zero, List.getElem?_cons_succ]; rfl
                      case azz12 => kernel_rfl
                      case bzz12 => kernel_rfl
                      case czz12 => kernel_rfl
                      case yzz12 =>
                        refine Or.inl ⟨by rfl, ?_⟩
                        intro w hSw
                        obtain ⟨⟨s0, s1⟩, s2, s3, s4⟩ := hSw
                        go_simp
                        try with_reducible rfl
                      case qzz12 => exact fun _ _ _ h => h
                      case szz12 => first | assumption | trivial
                      case' rzz12 => simp only [Act.put, List.setIfInBounds_toArray, List.set_cons_zero, List.set_cons_succ]
                      refine wpAnyH_take (i := 7) (oi := ?ozz13) (v := ?vzz13) ?hzz13 ?azz13 ?bzz13 ?czz13 ?qzz13 ?yzz13 ?szz13 ?rzz13
                      case hzz13 => simp only [List.getElem?_toArray, List.getElem?_cons_zero, List.getElem?_cons_succ]; rfl
                      case azz13 => kernel_rfl
                      case bzz13 => kernel_rfl
                      case czz13 => kernel_rfl
                      case yzz13 =>
                        refine Or.inl ⟨by rfl, ?_⟩
                        intro w hSw
                        obtain ⟨⟨s0, s1⟩, s2, s3, s4⟩ := hSw
                        go_simp
                        try with_reducible rfl
                      case qzz13 => exact fun _ _ _ h => h
                      case szz13 => first | assumption | trivial
                      case' rzz13 => simp only [Act.put, List.setIfInBounds_toArray, List.set_cons_zero, List.set_cons_succ]
                      refine wpAnyH_take (i := 8) (oi := ?ozz14) (v := ?vzz14) ?hzz14 ?azz14 ?bzz14 ?czz14 ?qzz14 ?yzz14 ?szz14 ?rzz14
                      case hzz14 => simp only [List.getElem?_toArray, List.getElem?_cons_zero, List.getElem?_cons_succ]; rfl
                      case azz14 => kernel_rfl
                      case bzz14 => kernel_rfl
                      case czz14 => kernel_rfl
                      case yzz14 =>
                        refine Or.inl ⟨by rfl, ?_⟩
                        intro w hSw
                        obtain ⟨⟨s0, s1⟩, s2, s3, s4⟩ := hSw
                        go_simp
                        try with_reducible rfl
                      case qzz14 => exact fun _ _ _ h => h
                      case szz14 => first | assumption | trivial
                      case' rzz14 => simp only [Act.put, List.setIfInBounds_toArray, List.set_cons_zero, List.set_cons_succ]
                      refine wpAnyH_ready (rs := [10]) (by kernel_rfl) (by simp) ?_
                      refine AllReadyH.cons (o := ?ozz16) ?hzz16 (fun K hK => ?kzz16) ?mzz16
                      case hzz16 => simp only [List.getElem?_toArray, List.getElem?_cons_zero, List.getElem?_cons_succ]; rfl
                      case kzz16 =>
                        go_simp
                        refine hK.out _ _ ?Szz16 (fun hHeld => ?Rzz16)
                        case Szz16 =>
                          exact ⟨⟨far2_ w4_a (box_ QK c0), far2_ w4_a (box_ QK c1)⟩, far2_ w4_b (box_ QK z0), far2_ w4_b (box_ QK z1), far2_ w4_b (box_ QK z2)⟩
                        case Rzz16 =>
                          clear hK K
                          try simp only [Act.put, List.setIfInBounds_toArray, List.set_cons_zero, List.set_cons_succ]
                          refine wpAnyH_take (i := 11) (oi := ?ozz15) (v := ?vzz15) ?hzz15 ?azz15 ?bzz15 ?czz15 ?qzz15 ?yzz15 ?szz15 ?rzz15
                          case hzz15 => simp only [List.getElem?_toArray, List.getElem?_cons_zero, List.getElem?_cons_succ]; rfl
                          case azz15 => kernel_rfl
                          case bzz15 => kernel_rfl
                          case czz15 => kernel_rfl
                          case yzz15 =>
                            refine Or.inl ⟨by rfl, ?_⟩
                            intro w hSw
                            obtain ⟨⟨s0, s1⟩, s2, s3, s4⟩ := hSw
                            go_simp
                            try with_reducible rfl
                          case qzz15 => exact fun _ _ _ h => h
                          case szz15 => first | assumption | trivial
                          case' rzz15 => simp only [Act.put, List.setIfInBounds_toArray, List.set_cons_zero, List.set_cons_succ]
                          refine wpAnyH_done (by kernel_rfl) ?_ _
                          go_wp2_with fail
                          go_meet
                          exact leafB (g := g) (base := (w4.drew.alloc (.cells #[.slice none 0 0, .slice none 0 0] 40)).heap.size) (by have := w4_g; simp only [World.size_alloc, World.size_drew]; omega) (by simp) (Nat.le_refl _) (BA.out.q q5) o5 t5 QK
                      case' mzz16 => skip
                      exact AllReadyH.nil
                  case' mzz17 => skip
                  exact AllReadyH.nil
              case' mzz19 => skip
              exact AllReadyH.nil
            case rest =>
              obtain ⟨h6, A6, c6, B6, d6, rfl, rfl, x6, o6, t6, q6⟩ := hcut
              have X6 := Lib.hid (X4.out.step q6)
              have B6x := Lib.hid (B4.out.q q6)
              have C6 := Lib.hid x6
              have O6 := Lib.hid (O4.out.q q6)
              have T6 := Lib.hid (T4.out.q q6)
              have O7 := Lib.hid o6
              have T7 := Lib.hid t6
              clear x6 o6 t6 q6 c0 c1 z0 z1 z2 d0 d1 X4 Z4 B4 O4 T4 Q4
              obtain ⟨c0, c1⟩ := B6x.out.get2.1
              obtain ⟨p0, p1, p2, p3⟩ : _ ∧ _ ∧ _ ∧ _ := ⟨X6.out.bx.get2.1.1, X6.out.bx.get2.1.2, X6.out.bx.get2.2.1, X6.out.bx.get2.2.2⟩
              obtain ⟨d0, d1⟩ := C6.out.get2.1
              go_wp2_with fail
              refine (bsame_any A5 B5 A6 B6 T.data.length c5 T.toks.length d5 T.data.length c6 T.toks.length d6 T T _ (O6.out.in_ hl3) (T6.out.in_ hl4) (O7.out.in_ hl3) (T7.out.in_ hl4)).mono ?_
              rw [decide_eq_true rfl]
              rintro e w7 ⟨rfl, y7⟩
              have X8 := Lib.hid (X6.out.step y7)
              have B8 := Lib.hid (B6x.out.q y7)
              have O8 := Lib.hid (O6.out.q y7)
              have T8 := Lib.hid (T6.out.q y7)
              clear y7 c0 c1 d0 d1 p0 p1 p2 p3 X6 B6x C6 O6 T6 O7 T7
              obtain ⟨c0, c1⟩ := B8.out.get2.1
              obtain ⟨p0, p1, p2, p3⟩ : _ ∧ _ ∧ _ ∧ _ := ⟨X8.out.bx.get2.1.1, X8.out.bx.get2.1.2, X8.out.bx.get2.2.1, X8.out.bx.get2.2.2⟩
              have X9 := Lib.hid (X8.out.set (s' := T) (Q.refl _) O8.out T8.out)
              go_wp2
              go_roundw
              case rel => exact ⟨j + 1, A5, B5, c5, d5, by omega, by omega, by go_num, by rw [HSt.out]; exact X9.out⟩
              case measure => simp [intOf]; omega
        · have hw : Bm.word rk = ⟨#[103]⟩ := by unfold Bm.word; rw [if_neg hk]
          have hk1 : (rk == 1) = false := by simpa using hk
          rw [hw] at KF
          clear hk hw hmay hfd hisf hErr hIs hOk hAg
          obtain ⟨c0, c1⟩ := X.out.bx.get2.1
          obtain ⟨z0, z1, z2⟩ := Z.out
          go_wp2
          go_region_held3 (fun w' => w'.cell? ⟨g, 0, none⟩ = some (.slice P s.data.length pc) ∧ w'.cell? ⟨g, 1, none⟩ = some (.slice R s.toks.length rc) ∧ w'.cell? ⟨(ad.add (j * 3)).block, (ad.add (j * 3)).off + 1, none⟩ = some (.string rt))
            (first
              | go_keep
              | (go_split_ands
                 (repeat' apply And.intro) <;> exact box_ ‹Q _ _› (by assumption)))
            (first
              | (go_at_call 22
                 refine (KE.out _ (Q.refl _).drew).mono ?_
                 rintro e w2 ⟨rfl, y2⟩))
          have Q2 := Lib.hid ((Q.refl wr).drew.trans y2)
          have X2 := Lib.hid (X.out.step Q2.out)
          have Z2 := Lib.hid (Z.out.step Q2.out)
          clear y2 c0 c1 z0 z1 z2
          have w2_g : g < w2.heap.size := X2.out.bx.lt
          have w2_a : w2.heap.size ≠ g := by omega
          obtain ⟨c0, c1⟩ := X2.out.bx.get2.1
          obtain ⟨z0, z1, z2⟩ := Z2.out
          have w2_b : w2.heap.size ≠ (ad.add (j * 3)).block := by have := block_lt_of_cell z0; omega
          go_upto_region 7 with (fail)
          have BA := Lib.hid (show Bx (w2.drew.alloc (.cells #[.slice none 0 0, .slice none 0 0] 40)) w2.heap.size [.slice none 0 0, .slice none 0 0] from Bx.new w2.drew [.slice none 0 0, .slice none 0 0] 40)
          go_cut [8, 9] (fun s8 s9 wx => Cq g T 0 w2 s8 s9 wx)
          case first =>
            refine wp_region_held_drew (S := fun w' => (w'.cell? ⟨g, 0, none⟩ = some (.slice P s.data.length pc) ∧ w'.cell? ⟨g, 1, none⟩ = some (.slice R s.toks.length rc)) ∧ w'.cell? (ad.add (j * 3)) = some (.int .i64 rk) ∧ w'.cell? ⟨(ad.add (j * 3)).block, (ad.add (j * 3)).off + 1, none⟩ = some (.string rt) ∧ w'.cell? ⟨(ad.add (j * 3)).block, (ad.add (j * 3)).off + 2, none⟩ = some (.slice C p q)) (by kernel_rfl) ?szz60 (fun hHeld => ?rzz60)
            case szz60 =>
              exact ⟨⟨c0, c1⟩, z0, z1, z2⟩
            case' rzz60 => skip
            have hC0 := hHeld
            refine wpAnyH_take (i := 0) (oi := ?ozz61) (v := ?vzz61) ?hzz61 ?azz61 ?bzz61 ?czz61 ?qzz61 ?yzz61 ?szz61 ?rzz61
            case hzz61 => simp only [List.getElem?_toArray, List.getElem?_cons_zero]; rfl
            case azz61 => kernel_rfl
            case bzz61 => kernel_rfl
            case czz61 => kernel_rfl
            case yzz61 =>
              refine Or.inl ⟨by rfl, ?_⟩
              intro w hSw
              obtain ⟨⟨s0, s1⟩, s2, s3, s4⟩ := hSw
              go_simp
              try with_reducible rfl
            case qzz61 => exact fun _ _ _ h => h
            case szz61 => first | assumption | trivial
            case' rzz61 => simp only [Act.put, List.setIfInBounds_toArray, List.set_cons_zero, List.set_cons_succ]
            refine wpAnyH_take (i := 1) (oi := ?ozz62) (v := ?vzz62) ?hzz62 ?azz62 ?bzz62 ?czz62 ?qzz62 ?yzz62 ?szz62 ?rzz62
            case hzz62 => simp only [List.getElem?_toArray, List.getElem?_cons_zero, List.getElem?_cons_succ]; rfl
            case azz62 => kernel_rfl
            case bzz62 => kernel_rfl
            case czz62 => kernel_rfl
            case yzz62 =>
              refine Or.inl ⟨by rfl, ?_⟩
              intro w hSw
              obtain ⟨⟨s0, s1⟩, s2, s3, s4⟩ := hSw
              go_simp
              try with_reducible rfl
            case qzz62 => exact fun _ _ _ h => h
            case szz62 => first | assumption | trivial
            case' rzz62 => simp only [Act.put, List.setIfInBounds_toArray, List.set_cons_zero, List.set_cons_succ]
            refine wpAnyH_take (i := 2) (oi := ?ozz63) (v := ?vzz63) ?hzz63 ?azz63 ?bzz63 ?czz63 ?qzz63 ?yzz63 ?szz63 ?rzz63
            case hzz63 => simp only [List.getElem?_toArray, List.getElem?_cons_zero, List.getElem?_cons_succ]; rfl
            case azz63 => kernel_rfl
            case bzz63 => kernel_rfl
            case czz63 => kernel_rfl
            case yzz63 =>
              refine Or.inl ⟨by rfl, ?_⟩
              intro w hSw
              obtain ⟨⟨s0, s1⟩, s2, s3, s4⟩ := hSw
              go_simp
              try with_reducible rfl
            case qzz63 => exact fun _ _ _ h => h
            case szz63 => first | assumption | trivial
            case' rzz63 => simp only [Act.put, List.setIfInBounds_toArray, List.set_cons_zero, List.set_cons_succ]
            refine wpAnyH_take (i := 3) (oi := ?ozz64) (v := ?vzz64) ?hzz64 ?azz64 ?bzz64 ?czz64 ?qzz64 ?yzz64 ?szz64 ?rzz64
            case hzz64 => simp only [List.getElem?_toArray, List.getElem?_cons_zero, List.getElem?_cons_succ]; rfl
            case azz64 => kernel_rfl
            case bzz64 => kernel_rfl
            case czz64 => kernel_rfl
            case yzz64 =>
              refine Or.inl ⟨by rfl, ?_⟩
              intro w hSw
              obtain ⟨⟨s0, s1⟩, s2, s3, s4⟩ := hSw
              go_simp
              try with_reducible rfl
            case qzz64 => exact fun _ _ _ h => h
            case szz64 => first | assumption | trivial
            case' rzz64 => simp only [Act.put, List.setIfInBounds_toArray, List.set_cons_zero, List.set_cons_succ]
            refine wpAnyH_take (i := 4) (oi := ?ozz65) (v := ?vzz65) ?hzz65 ?azz65 ?bzz65 ?czz65 ?qzz65 ?yzz65 ?szz65 ?rzz65
            case hzz65 => simp only [List.getElem?_toArray, List.getElem?_cons_zero, List.getElem?_cons_succ]; rfl
            case azz65 => kernel_rfl
            case bzz65 => kernel_rfl
            case czz65 => kernel_rfl
            case yzz65 =>
              refine Or.inl ⟨by rfl, ?_⟩
              intro w hSw
              obtain ⟨⟨s0, s1⟩, s2, s3, s4⟩ := hSw
              go_simp
              try with_reducible rfl
            case qzz65 => exact fun _ _ _ h => h
            case szz65 => first | assumption | trivial
            case' rzz65 => simp only [Act.put, List.setIfInBounds_toArray, List.set_cons_zero, List.set_cons_succ]
            refine wpAnyH_ready (rs := [5, 9]) (by kernel_rfl) (by simp) ?_
            refine AllReadyH.cons (o := ?ozz78) ?hzz78 (fun K hK => ?kzz78) ?mzz78
            case hzz78 => simp only [List.getElem?_toArray, List.getElem?_cons_zero, List.getElem?_cons_succ]; rfl
            case kzz78 =>
              go_simp
              refine (KD.out _ (Q2.out.trans ((Q.refl w2).drew))).mono ?_
              rintro e v5 ⟨A5, c5, B5, d5, rfl, o5, t5, q5⟩
              try simp only at o5 t5
              have QK : Q w2 v5 := ((Q.refl w2).drew).trans q5
              go_wp2_with fail
              refine hK.out _ _ ?Szz78 (fun hHeld => ?Rzz78)
              case Szz78 =>
                exact ⟨⟨box_ QK c0, box_ QK c1⟩, box_ QK z0, box_ QK z1, box_ QK z2⟩
              case Rzz78 =>
                clear hK K
                try simp only [Act.put, List.setIfInBounds_toArray, List.set_cons_zero, List.set_cons_succ]
                refine wpAnyH_take (i := 6) (oi := ?ozz66) (v := ?vzz66) ?hzz66 ?azz66 ?bzz66 ?czz66 ?qzz66 ?yzz66 ?szz66 ?rzz66
                case hzz66 => simp only [List.getElem?_toArray, List.getElem?_cons_zero, List.getElem?_cons_succ]; rfl
                case azz66 => kernel_rfl
                case bzz66 => kernel_rfl
                case czz66 => kernel_rfl
                case yzz66 =>
                  refine Or.inl ⟨by rfl, ?_⟩
                  intro w hSw
                  obtain ⟨⟨s0, s1⟩, s2, s3, s4⟩ := hSw
                  go_simp
                  try with_reducible rfl
                case qzz66 => exact fun _ _ _ h => h
                case szz66 => first | assumption | trivial
                case' rzz66 => simp only [Act.put, List.setIfInBounds_toArray, List.set_cons_zero, List.set_cons_succ]
                refine wpAnyH_take (i := 7) (oi := ?ozz67) (v := ?vzz67) ?hzz67 ?azz67 ?bzz67 ?czz67 ?qzz67 ?yzz67 ?szz67 ?rzz67
                case hzz67 => simp only [List.getElem?_toArray, List.getElem?_cons_zero, List.getElem?_cons_succ]; rfl
                case azz67 => kernel_rfl
                case bzz67 => kernel_rfl
                case czz67 => kernel_rfl
                case yzz67 =>
                  refine Or.inl ⟨by rfl, ?_⟩
                  intro w hSw
                  obtain ⟨⟨s0, s1⟩, s2, s3, s4⟩ := hSw
                  go_simp
                  try with_reducible rfl
                case qzz67 => exact fun _ _ _ h => h
                case szz67 => first | assumption | trivial
                case' rzz67 => simp only [Act.put, List.setIfInBounds_toArray, List.set_cons_zero, List.set_cons_succ]
                refine wpAnyH_take (i := 8) (oi := ?ozz68) (v := ?vzz68) ?hzz68 ?azz68 ?bzz68 ?czz68 ?qzz68 ?yzz68 ?szz68 ?rzz68
                case hzz68 => simp only [List.getElem?_toArray, List.getElem?_cons_zero, List.getElem?_cons_succ]; rfl
                case azz68 => kernel_rfl
                case bzz68 => kernel_rfl
                case czz68 => kernel_rfl
                case yzz68 =>
                  refine Or.inl ⟨by rfl, ?_⟩
                  intro w hSw
                  obtain ⟨⟨s0, s1⟩, s2, s3, s4⟩ := hSw
                  go_simp
                  try with_reducible rfl
                case qzz68 => exact fun _ _ _ h => h
                case szz68 => first | assumption | trivial
                case' rzz68 => simp only [Act.put, List.setIfInBounds_toArray, List.set_cons_zero, List.set_cons_succ]
                refine wpAnyH_ready (rs := [9]) (by kernel_rfl) (by simp) ?_
                refine AllReadyH.cons (o := ?ozz71) ?hzz71 (fun K hK => ?kzz71) ?mzz71
                case hzz71 => simp only [List.getElem?_toArray, List.getElem?_cons_zero, List.getElem?_cons_succ]; rfl
                case kzz71 =>
                  go_simp
                  refine hK.out _ _ ?Szz71 (fun hHeld => ?Rzz71)
                  case Szz71 =>
                    exact ⟨⟨box_ (QK.alloc _) c0, box_ (QK.alloc _) c1⟩, box_ (QK.alloc _) z0, box_ (QK.alloc _) z1, box_ (QK.alloc _) z2⟩
                  case Rzz71 =>
                    clear hK K
                    try simp only [Act.put, List.setIfInBounds_toArray, List.set_cons_zero, List.set_cons_succ]
                    refine wpAnyH_ready (rs := [10]) (by kernel_rfl) (by simp) ?_
                    refine AllReadyH.cons (o := ?ozz70) ?hzz70 (fun K hK => ?kzz70) ?mzz70
                    case hzz70 => simp only [List.getElem?_toArray, List.getElem?_cons_zero, List.getElem?_cons_succ]; rfl
                    case kzz70 =>
                      go_simp
                      refine hK.out _ _ ?Szz70 (fun hHeld => ?Rzz70)
                      case Szz70 =>
                        exact ⟨⟨box_ (QK.alloc _) c0, box_ (QK.alloc _) c1⟩, box_ (QK.alloc _) z0, box_ (QK.alloc _) z1, box_ (QK.alloc _) z2⟩
                      case Rzz70 =>
                        clear hK K
                        try simp only [Act.put, List.setIfInBounds_toArray, List.set_cons_zero, List.set_cons_succ]
                        refine wpAnyH_take (i := 11) (oi := ?ozz69) (v := ?vzz69) ?hzz69 ?azz69 ?bzz69 ?czz69 ?qzz69 ?yzz69 ?szz69 ?rzz69
                        case hzz69 => simp only [List.getElem?_toArray, List.getElem?_cons_zero, List.getElem?_cons_succ]; rfl
                        case azz69 => kernel_rfl
                        case bzz69 => kernel_rfl
                        case czz69 => kernel_rfl
                        case yzz69 =>
                          refine Or.inl ⟨by rfl, ?_⟩
                          intro w hSw
                          obtain ⟨⟨s0, s1⟩, s2, s3, s4⟩ := hSw
                          go_simp
                          try with_reducible rfl
                        case qzz69 => exact fun _ _ _ h => h
                        case szz69 => first | assumption | trivial
                        case' rzz69 => simp only [Act.put, List.setIfInBounds_toArray, List.set_cons_zero, List.set_cons_succ]
                        refine wpAnyH_done (by kernel_rfl) ?_ _
                        go_wp2_with fail
                        go_meet
                        exact leafA (g := g) (base := w2.drew.heap.size) (by have := w2_g; simp only [World.size_drew]; omega) o5 t5 QK
                    case' mzz70 => skip
                    exact AllReadyH.nil
                case' mzz71 => skip
                exact AllReadyH.nil
            case' mzz78 => skip
            refine AllReadyH.cons (o := ?ozz79) ?hzz79 (fun K hK => ?kzz79) ?mzz79
            case hzz79 => simp only [List.getElem?_toArray, List.getElem?_cons_zero, List.getElem?_cons_succ]; rfl
            case kzz79 =>
              go_simp
              refine hK.out _ _ ?Szz79 (fun hHeld => ?Rzz79)
              case Szz79 =>
                exact ⟨⟨box_ ((Q.refl w2).drew.alloc (.cells #[.slice none 0 0, .slice none 0 0] 40)) c0, box_ ((Q.refl w2).drew.alloc (.cells #[.slice none 0 0, .slice none 0 0] 40)) c1⟩, box_ ((Q.refl w2).drew.alloc (.cells #[.slice none 0 0, .slice none 0 0] 40)) z0, box_ ((Q.refl w2).drew.alloc (.cells #[.slice none 0 0, .slice none 0 0] 40)) z1, box_ ((Q.refl w2).drew.alloc (.cells #[.slice none 0 0, .slice none 0 0] 40)) z2⟩
              case Rzz79 =>
                clear hK K
                try simp only [Act.put, List.setIfInBounds_toArray, List.set_cons_zero, List.set_cons_succ]
                refine wpAnyH_ready (rs := [5]) (by kernel_rfl) (by simp) ?_
                refine AllReadyH.cons (o := ?ozz77) ?hzz77 (fun K hK => ?kzz77) ?mzz77
                case hzz77 => simp only [List.getElem?_toArray, List.getElem?_cons_zero, List.getElem?_cons_succ]; rfl
                case kzz77 =>
                  go_simp
                  refine (KD.out _ (Q2.out.trans ((Q.refl w2).drew.alloc (.cells #[.slice none 0 0, .slice none 0 0] 40)))).mono ?_
                  rintro e v5 ⟨A5, c5, B5, d5, rfl, o5, t5, q5⟩
                  try simp only at o5 t5
                  have QK : Q w2 v5 := ((Q.refl w2).drew.alloc (.cells #[.slice none 0 0, .slice none 0 0] 40)).trans q5
                  obtain ⟨⟨b0, b1⟩, b2, b3⟩ := (BA.out.q q5).get2
                  go_wp2_with fail
                  refine hK.out _ _ ?Szz77 (fun hHeld => ?Rzz77)
                  case Szz77 =>
                    exact ⟨⟨box_ QK c0, box_ QK c1⟩, box_ QK z0, box_ QK z1, box_ QK z2⟩
                  case Rzz77 =>
                    clear hK K
                    try simp only [Act.put, List.setIfInBounds_toArray, List.set_cons_zero, List.set_cons_succ]
                    refine wpAnyH_take (i := 6) (oi := ?ozz72) (v := ?vzz72) ?hzz72 ?azz72 ?bzz72 ?czz72 ?qzz72 ?yzz72 ?szz72 ?rzz72
                    case hzz72 => simp only [List.getElem?_toArray, List.getElem?_cons_zero, List.getElem?_cons_succ]; rfl
                    case azz72 => kernel_rfl
                    case bzz72 => kernel_rfl
                    case czz72 => kernel_rfl
                    case yzz72 =>
                      refine Or.inl ⟨by rfl, ?_⟩
                      intro w hSw
                      obtain ⟨⟨s0, s1⟩, s2, s3, s4⟩ := hSw
                      go_simp
                      try with_reducible rfl
                    case qzz72 => exact fun _ _ _ h => h
                    case szz72 => first | assumption | trivial
                    case' rzz72 => simp only [Act.put, List.setIfInBounds_toArray, List.set_cons_zero, List.set_cons_succ]
                    refine wpAnyH_take (i := 7) (oi := ?ozz73) (v := ?vzz73) ?hzz73 ?azz73 ?bzz73 ?czz73 ?qzz73 ?yzz73 ?szz73 ?rzz73
                    case hzz73 => simp only [List.getElem?_toArray, List.getElem?_cons_zero, List.getElem?_cons_succ]; rfl
                    case azz73 => kernel_rfl
                    case bzz73 => kernel_rfl
                    case czz73 => kernel_rfl
                    case yzz73 =>
                      refine Or.inl ⟨by rfl, ?_⟩
                      intro w hSw
                      obtain ⟨⟨s0, s1⟩, s2, s3, s4⟩ := hSw
                      go_simp
                      try with_reducible rfl
                    case qzz73 => exact fun _ _ _ h => h
                    case szz73 => first | assumption | trivial
                    case' rzz73 => simp only [Act.put, List.setIfInBounds_toArray, List.set_cons_zero, List.set_cons_succ]
                    refine wpAnyH_take (i := 8) (oi := ?ozz74) (v := ?vzz74) ?hzz74 ?azz74 ?bzz74 ?czz74 ?qzz74 ?yzz74 ?szz74 ?rzz74
                    case hzz74 => simp only [List.getElem?_toArray, List.getElem?_cons_zero, List.getElem?_cons_succ]; rfl
                    case azz74 => kernel_rfl
                    case bzz74 => kernel_rfl
                    case czz74 => kernel_rfl
                    case yzz74 =>
                      refine Or.inl ⟨by rfl, ?_⟩
                      intro w hSw
                      obtain ⟨⟨s0, s1⟩, s2, s3, s4⟩ := hSw
                      go_simp
                      try with_reducible rfl
                    case qzz74 => exact fun _ _ _ h => h
                    case szz74 => first | assumption | trivial
                    case' rzz74 => simp only [Act.put, List.setIfInBounds_toArray, List.set_cons_zero, List.set_cons_succ]
                    refine wpAnyH_ready (rs := [10]) (by kernel_rfl) (by simp) ?_
                    refine AllReadyH.cons (o := ?ozz76) ?hzz76 (fun K hK => ?kzz76) ?mzz76
                    case hzz76 => simp only [List.getElem?_toArray, List.getElem?_cons_zero, List.getElem?_cons_succ]; rfl
                    case kzz76 =>
                      go_simp
                      refine hK.out _ _ ?Szz76 (fun hHeld => ?Rzz76)
                      case Szz76 =>
                        exact ⟨⟨far2_ w2_a (box_ QK c0), far2_ w2_a (box_ QK c1)⟩, far2_ w2_b (box_ QK z0), far2_ w2_b (box_ QK z1), far2_ w2_b (box_ QK z2)⟩
                      case Rzz76 =>
                        clear hK K
                        try simp only [Act.put, List.setIfInBounds_toArray, List.set_cons_zero, List.set_cons_succ]
                        refine wpAnyH_take (i := 11) (oi := ?ozz75) (v := ?vzz75) ?hzz75 ?azz75 ?bzz75 ?czz75 ?qzz75 ?yzz75 ?szz75 ?rzz75
                        case hzz75 => simp only [List.getElem?_toArray, List.getElem?_cons_zero, List.getElem?_cons_succ]; rfl
                        case azz75 => kernel_rfl
                        case bzz75 => kernel_rfl
                        case czz75 => kernel_rfl
                        case yzz75 =>
                          refine Or.inl ⟨by rfl, ?_⟩
                          intro w hSw
                          obtain ⟨⟨s0, s1⟩, s2, s3, s4⟩ := hSw
                          go_simp
                          try with_reducible rfl
                        case qzz75 => exact fun _ _ _ h => h
                        case szz75 => first | assumption | trivial
                        case' rzz75 => simp only [Act.put, List.setIfInBounds_toArray, List.set_cons_zero, List.set_cons_succ]
                        refine wpAnyH_done (by kernel_rfl) ?_ _
                        go_wp2_with fail
                        go_meet
                        exact leafB (g := g) (base := (w2.drew.alloc (.cells #[.slice none 0 0, .slice none 0 0] 40)).heap.size) (by have := w2_g; simp only [World.size_alloc, World.size_drew]; omega) (by simp) (Nat.le_refl _) (BA.out.q q5) o5 t5 QK
                    case' mzz76 => skip
                    exact AllReadyH.nil
                case' mzz77 => skip
                exact AllReadyH.nil
            case' mzz79 => skip
            exact AllReadyH.nil
          case rest =>
            obtain ⟨h, A5, c5, B5, d5, rfl, rfl, x3, o3, t3, q3⟩ := hcut
            have X3 := Lib.hid (X2.out.step q3)
            have Z3 := Lib.hid (Z2.out.step q3)
            have B3 := Lib.hid x3
            have O3 := Lib.hid o3
            have T3 := Lib.hid t3
            have Q3 := Lib.hid (Q2.out.trans q3)
            clear x3 o3 t3 q3 c0 c1 z0 z1 z2
            obtain ⟨c0, c1⟩ := B3.out.get2.1
            obtain ⟨z0, z1, z2⟩ := Z3.out
            go_wp2
            go_region_held3 (fun w' => w'.cell? ⟨h, 0, none⟩ = some (.slice A5 T.data.length c5) ∧ w'.cell? ⟨h, 1, none⟩ = some (.slice B5 T.toks.length d5) ∧ w'.cell? ⟨(ad.add (j * 3)).block, (ad.add (j * 3)).off + 1, none⟩ = some (.string rt))
              (first
                | go_keep
                | (go_split_ands
                   (repeat' apply And.intro) <;> exact box_ ‹Q _ _› (by assumption)))
              (first
                | (go_at_call 22
                   refine (KF.out _ A5 c5 B5 d5 (T3.out.q (Q.refl _).drew)).mono ?_
                   rintro e w4 ⟨rfl, y4⟩))
            have QS := Lib.hid ((Q.refl wc).drew.trans y4)
            have X4 := Lib.hid (X3.out.step QS.out)
            have Z4 := Lib.hid (Z3.out.step QS.out)
            have B4 := Lib.hid (B3.out.q QS.out)
            have O4 := Lib.hid (O3.out.q QS.out)
            have T4 := Lib.hid (T3.out.q QS.out)
            have Q4 := Lib.hid (Q3.out.trans QS.out)
            clear y4 c0 c1 z0 z1 z2 X3 Z3 B3 O3 T3 Q3 QS
            obtain ⟨c0, c1⟩ := B4.out.get2.1
            obtain ⟨d0, d1⟩ := X4.out.bx.get2.1
            obtain ⟨z0, z1, z2⟩ := Z4.out
            have w4_g : g < w4.heap.size := X4.out.bx.lt
            have w4_a : w4.heap.size ≠ h := by have := B4.out.lt; omega
            have w4_b : w4.heap.size ≠ (ad.add (j * 3)).block := by have := block_lt_of_cell z0; omega
            go_upto_region 13 with (fail)
            have BA := Lib.hid (show Bx (w4.drew.alloc (.cells #[.slice none 0 0, .slice none 0 0] 40)) w4.heap.size [.slice none 0 0, .slice none 0 0] from Bx.new w4.drew [.slice none 0 0, .slice none 0 0] 40)
            go_cut [12, 13] (fun s8 s9 wx => Cq g T 8 w4 s8 s9 wx)
            case first =>
              refine wp_region_held_drew (S := fun w' => (w'.cell? ⟨h, 0, none⟩ = some (.slice A5 T.data.length c5) ∧ w'.cell? ⟨h, 1, none⟩ = some (.slice B5 T.toks.length d5)) ∧ w'.cell? (ad.add (j * 3)) = some (.int .i64 rk) ∧ w'.cell? ⟨(ad.add (j * 3)).block, (ad.add (j * 3)).off + 1, none⟩ = some (.string rt) ∧ w'.cell? ⟨(ad.add (j * 3)).block, (ad.add (j * 3)).off + 2, none⟩ = some (.slice C p q)) (by kernel_rfl) ?szz40 (fun hHeld => ?rzz40)
              case szz40 =>
                exact ⟨⟨c0, c1⟩, z0, z1, z2⟩
              case' rzz40 => skip
              have hC0 := hHeld
              refine wpAnyH_take (i := 0) (oi := ?ozz41) (v := ?vzz41) ?hzz41 ?azz41 ?bzz41 ?czz41 ?qzz41 ?yzz41 ?szz41 ?rzz41
              case hzz41 => simp only [List.getElem?_toArray, List.getElem?_cons_zero]; rfl
              case azz41 => kernel_rfl
              case bzz41 => kernel_rfl
              case czz41 => kernel_rfl
              case yzz41 =>
                refine Or.inl ⟨by rfl, ?_⟩
                intro w hSw
                obtain ⟨⟨s0, s1⟩, s2, s3, s4⟩ := hSw
                go_simp
                try with_reducible rfl
              case qzz41 => exact fun _ _ _ h => h
              case szz41 => first | assumption | trivial
              case' rzz41 => simp only [Act.put, List.setIfInBounds_toArray, List.set_cons_zero, List.set_cons_succ]
              refine wpAnyH_take (i := 1) (oi := ?ozz42) (v := ?vzz42) ?hzz42 ?azz42 ?bzz42 ?czz42 ?qzz42 ?yzz42 ?szz42 ?rzz42
              case hzz42 => simp only [List.getElem?_toArray, List.getElem?_cons_zero, List.getElem?_cons_succ]; rfl
              case azz42 => kernel_rfl
              case bzz42 => kernel_rfl
              case czz42 => kernel_rfl
              case yzz42 =>
                refine Or.inl ⟨by rfl, ?_⟩
                intro w hSw
                obtain ⟨⟨s0, s1⟩, s2, s3, s4⟩ := hSw
                go_simp
                try with_reducible rfl
              case qzz42 => exact fun _ _ _ h => h
              case szz42 => first | assumption | trivial
              case' rzz42 => simp only [Act.put, List.setIfInBounds_toArray, List.set_cons_zero, List.set_cons_succ]
              refine wpAnyH_take (i := 2) (oi := ?ozz43) (v := ?vzz43) ?hzz43 ?azz43 ?bzz43 ?czz43 ?qzz43 ?yzz43 ?szz43 ?rzz43
              case hzz43 => simp only [List.getElem?_toArray, List.getElem?_cons_zero, List.getElem?_cons_succ]; rfl
              case azz43 => kernel_rfl
              case bzz43 => kernel_rfl
              case czz43 => kernel_rfl
              case yzz43 =>
                refine Or.inl ⟨by rfl, ?_⟩
                intro w hSw
                obtain ⟨⟨s0, s1⟩, s2, s3, s4⟩ := hSw
                go_simp
                try with_reducible rfl
              case qzz43 => exact fun _ _ _ h => h
              case szz43 => first | assumption | trivial
              case' rzz43 => simp only [Act.put, List.setIfInBounds_toArray, List.set_cons_zero, List.set_cons_succ]
              refine wpAnyH_take (i := 3) (oi := ?ozz44) (v := ?vzz44) ?hzz44 ?azz44 ?bzz44 ?czz44 ?qzz44 ?yzz44 ?szz44 ?rzz44
              case hzz44 => simp only [List.getElem?_toArray, List.getElem?_cons_zero, List.getElem?_cons_succ]; rfl
              case azz44 => kernel_rfl
              case bzz44 => kernel_rfl
              case czz44 => kernel_rfl
              case yzz44 =>
                refine Or.inl ⟨by rfl, ?_⟩
                intro w hSw
                obtain ⟨⟨s0, s1⟩, s2, s3, s4⟩ := hSw
                go_simp
                try with_reducible rfl
              case qzz44 => exact fun _ _ _ h => h
              case szz44 => first | assumption | trivial
              case' rzz44 => simp only [Act.put, List.setIfInBounds_toArray, List.set_cons_zero, List.set_cons_succ]
              refine wpAnyH_take (i := 4) (oi := ?ozz45) (v := ?vzz45) ?hzz45 ?azz45 ?bzz45 ?czz45 ?qzz45 ?yzz45 ?szz45 ?rzz45
              case hzz45 => simp only [List.getElem?_toArray, List.getElem?_cons_zero, List.getElem?_cons_succ]; rfl
              case azz45 => kernel_rfl
              case bzz45 => kernel_rfl
              case czz45 => kernel_rfl
              case yzz45 =>
                refine Or.inl ⟨by rfl, ?_⟩
                intro w hSw
                obtain ⟨⟨s0, s1⟩, s2, s3, s4⟩ := hSw
                go_simp
                try with_reducible rfl
              case qzz45 => exact fun _ _ _ h => h
              case szz45 => first | assumption | trivial
              case' rzz45 => simp only [Act.put, List.setIfInBounds_toArray, List.set_cons_zero, List.set_cons_succ]
              refine wpAnyH_ready (rs := [5, 9]) (by kernel_rfl) (by simp) ?_
              refine AllReadyH.cons (o := ?ozz58) ?hzz58 (fun K hK => ?kzz58) ?mzz58
              case hzz58 => simp only [List.getElem?_toArray, List.getElem?_cons_zero, List.getElem?_cons_succ]; rfl
              case kzz58 =>
                go_simp
                refine (KD2.out _ A5 c5 B5 d5 (O4.out.q ((Q.refl w4).drew)) (T4.out.q ((Q.refl w4).drew)) (Q4.out.trans ((Q.refl w4).drew))).mono ?_
                rintro e v5 ⟨A5, c5, B5, d5, rfl, o5, t5, q5⟩
                try simp only at o5 t5
                have QK : Q w4 v5 := ((Q.refl w4).drew).trans q5
                go_wp2_with fail
                refine hK.out _ _ ?Szz58 (fun hHeld => ?Rzz58)
                case Szz58 =>
                  exact ⟨⟨box_ QK c0, box_ QK c1⟩, box_ QK z0, box_ QK z1, box_ QK z2⟩
                case Rzz58 =>
                  clear hK K
                  try simp only [Act.put, List.setIfInBounds_toArray, List.set_cons_zero, List.set_cons_succ]
                  refine wpAnyH_take (i := 6) (oi := ?ozz46) (v := ?vzz46) ?hzz46 ?azz46 ?bzz46 ?czz46 ?qzz46 ?yzz46 ?szz46 ?rzz46
                  case hzz46 => simp only [List.getElem?_toArray, List.getElem?_cons_zero, List.getElem?_cons_succ]; rfl
                  case azz46 => kernel_rfl
                  case bzz46 => kernel_rfl
                  case czz46 => kernel_rfl
                  case yzz46 =>
                    refine Or.inl ⟨by rfl, ?_⟩
                    intro w hSw
                    obtain ⟨⟨s0, s1⟩, s2, s3, s4⟩ := hSw
                    go_simp
                    try with_reducible rfl
                  case qzz46 => exact fun _ _ _ h => h
                  case szz46 => first | assumption | trivial
                  case' rzz46 => simp only [Act.put, List.setIfInBounds_toArray, List.set_cons_zero, List.set_cons_succ]
                  refine wpAnyH_take (i := 7) (oi := ?ozz47) (v := ?vzz47) ?hzz47 ?azz47 ?bzz47 ?czz47 ?qzz47 ?yzz47 ?szz47 ?rzz47
                  case hzz47 => simp only [List.getElem?_toArray, List.getElem?_cons_zero, List.getElem?_cons_succ]; rfl
                  case azz47 => kernel_rfl
                  case bzz47 => kernel_rfl
                  case czz47 => kernel_rfl
                  case yzz47 =>
                    refine Or.inl ⟨by rfl, ?_⟩
                    intro w hSw
                    obtain ⟨⟨s0, s1⟩, s2, s3, s4⟩ := hSw
                    go_simp
                    try with_reducible rfl
                  case qzz47 => exact fun _ _ _ h => h
                  case szz47 => first | assumption | trivial
                  case' rzz47 => simp only [Act.put, List.setIfInBounds_toArray, List.set_cons_zero, List.set_cons_succ]
                  refine wpAnyH_take (i := 8) (oi := ?ozz48) (v := ?vzz48) ?hzz48 ?azz48 ?bzz48 ?czz48 ?qzz48 ?yzz48 ?szz48 ?rzz48
                  case hzz48 => simp only [List.getElem?_toArray, List.getElem?_cons_zero, List.getElem?_cons_succ]; rfl
                  case azz48 => kernel_rfl
                  case bzz48 => kernel_rfl
                  case czz48 => kernel_rfl
                  case yzz48 =>
                    refine Or.inl ⟨by rfl, ?_⟩
                    intro w hSw
                    obtain ⟨⟨s0, s1⟩, s2, s3, s4⟩ := hSw
                    go_simp
                    try with_reducible rfl
                  case qzz48 => exact fun _ _ _ h => h
                  case szz48 => first | assumption | trivial
                  case' rzz48 => simp only [Act.put, List.setIfInBounds_toArray, List.set_cons_zero, List.set_cons_succ]
                  refine wpAnyH_ready (rs := [9]) (by kernel_rfl) (by simp) ?_
                  refine AllReadyH.cons (o := ?ozz51) ?hzz51 (fun K hK => ?kzz51) ?mzz51
                  case hzz51 => simp only [List.getElem?_toArray, List.getElem?_cons_zero, List.getElem?_cons_succ]; rfl
                  case kzz51 =>
                    go_simp
                    refine hK.out _ _ ?Szz51 (fun hHeld => ?Rzz51)
                    case Szz51 =>
                      exact ⟨⟨box_ (QK.alloc _) c0, box_ (QK.alloc _) c1⟩, box_ (QK.alloc _) z0, box_ (QK.alloc _) z1, box_ (QK.alloc _) z2⟩
                    case Rzz51 =>
                      clear hK K
                      try simp only [Act.put, List.setIfInBounds_toArray, List.set_cons_zero, List.set_cons_succ]
                      refine wpAnyH_ready (rs := [10]) (by kernel_rfl) (by simp) ?_
                      refine AllReadyH.cons (o := ?ozz50) ?hzz50 (fun K hK => ?kzz50) ?mzz50
                      case hzz50 => simp only [List.getElem?_toArray, List.getElem?_cons_zero, List.getElem?_cons_succ]; rfl
                      case kzz50 =>
                        go_simp
                        refine hK.out _ _ ?Szz50 (fun hHeld => ?Rzz50)
                        case Szz50 =>
                          exact ⟨⟨box_ (QK.alloc _) c0, box_ (QK.alloc _) c1⟩, box_ (QK.alloc _) z0, box_ (QK.alloc _) z1, box_ (QK.alloc _) z2⟩
                        case Rzz50 =>
                          clear hK K
                          try simp only [Act.put, List.setIfInBounds_toArray, List.set_cons_zero, List.set_cons_succ]
                          refine wpAnyH_take (i := 11) (oi := ?ozz49) (v := ?vzz49) ?hzz49 ?azz49 ?bzz49 ?czz49 ?qzz49 ?yzz49 ?szz49 ?rzz49
                          case hzz49 => simp only [List.getElem?_toArray, List.getElem?_cons_zero, List.getElem?_cons_succ]; rfl
                          case azz49 => kernel_rfl
                          case bzz49 => kernel_rfl
                          case czz49 => kernel_rfl
                          case yzz49 =>
                            refine Or.inl ⟨by rfl, ?_⟩
                            intro w hSw
                            obtain ⟨⟨s0, s1⟩, s2, s3, s4⟩ := hSw
                            go_simp
                            try with_reducible rfl
                          case qzz49 => exact fun _ _ _ h => h
                          case szz49 => first | assumption | trivial
                          case' rzz49 => simp only [Act.put, List.setIfInBounds_toArray, List.set_cons_zero, List.set_cons_succ]
                          refine wpAnyH_done (by kernel_rfl) ?_ _
                          go_wp2_with fail
                          go_meet
                          exact leafA (g := g) (base := w4.drew.heap.size) (by have := w4_g; simp only [World.size_drew]; omega) o5 t5 QK
                      case' mzz50 => skip
                      exact AllReadyH.nil
                  case' mzz51 => skip
                  exact AllReadyH.nil
              case' mzz58 => skip
              refine AllReadyH.cons (o := ?ozz59) ?hzz59 (fun K hK => ?kzz59) ?mzz59
              case hzz59 => simp only [List.getElem?_toArray, List.getElem?_cons_zero, List.getElem?_cons_succ]; rfl
              case kzz59 =>
                go_simp
                refine hK.out _ _ ?Szz59 (fun hHeld => ?Rzz59)
                case Szz59 =>
                  exact ⟨⟨box_ ((Q.refl w4).drew.alloc (.cells #[.slice none 0 0, .slice none 0 0] 40)) c0, box_ ((Q.refl w4).drew.alloc (.cells #[.slice none 0 0, .slice none 0 0] 40)) c1⟩, box_ ((Q.refl w4).drew.alloc (.cells #[.slice none 0 0, .slice none 0 0] 40)) z0, box_ ((Q.refl w4).drew.alloc (.cells #[.slice none 0 0, .slice none 0 0] 40)) z1, box_ ((Q.refl w4).drew.alloc (.cells #[.slice none 0 0, .slice none 0 0] 40)) z2⟩
                case Rzz59 =>
                  clear hK K
                  try simp only [Act.put, List.setIfInBounds_toArray, List.set_cons_zero, List.set_cons_succ]
                  refine wpAnyH_ready (rs := [5]) (by kernel_rfl) (by simp) ?_
                  refine AllReadyH.cons (o := ?ozz57) ?hzz57 (fun K hK => ?kzz57) ?mzz57
                  case hzz57 => simp only [List.getElem?_toArray, List.getElem?_cons_zero, List.getElem?_cons_succ]; rfl
                  case kzz57 =>
                    go_simp
                    refine (KD2.out _ A5 c5 B5 d5 (O4.out.q ((Q.refl w4).drew.alloc (.cells #[.slice none 0 0, .slice none 0 0] 40))) (T4.out.q ((Q.refl w4).drew.alloc (.cells #[.slice none 0 0, .slice none 0 0] 40))) (Q4.out.trans ((Q.refl w4).drew.alloc (.cells #[.slice none 0 0, .slice none 0 0] 40)))).mono ?_
                    rintro e v5 ⟨A5, c5, B5, d5, rfl, o5, t5, q5⟩
                    try simp only at o5 t5
                    have QK : Q w4 v5 := ((Q.refl w4).drew.alloc (.cells #[.slice none 0 0, .slice none 0 0] 40)).trans q5
                    obtain ⟨⟨b0, b1⟩, b2, b3⟩ := (BA.out.q q5).get2
                    go_wp2_with fail
                    refine hK.out _ _ ?Szz57 (fun hHeld => ?Rzz57)
                    case Szz57 =>
                      exact ⟨⟨box_ QK c0, box_ QK c1⟩, box_ QK z0, box_ QK z1, box_ QK z2⟩
                    case Rzz57 =>
                      clear hK K
                      try simp only [Act.put, List.setIfInBounds_toArray, List.set_cons_zero, List.set_cons_succ]
                      refine wpAnyH_take (i := 6) (oi := ?ozz52) (v := ?vzz52) ?hzz52 ?azz52 ?bzz52 ?czz52 ?qzz52 ?yzz52 ?szz52 ?rzz52
                      case hzz52 => simp only [List.getElem?_toArray, List.getElem?_cons_zero, List.getElem?_cons_succ]; rfl
                      case azz52 => kernel_rfl
                      case bzz52 => kernel_rfl
                      case czz52 => kernel_rfl
                      case yzz52 =>
                        refine Or.inl ⟨by rfl, ?_⟩
                        intro w hSw
                        obtain ⟨⟨s0, s1⟩, s2, s3, s4⟩ := hSw
                        go_simp
                        try with_reducible rfl
                      case qzz52 => exact fun _ _ _ h => h
                      case szz52 => first | assumption | trivial
                      case' rzz52 => simp only [Act.put, List.setIfInBounds_toArray, List.set_cons_zero, List.set_cons_succ]
                      refine wpAnyH_take (i := 7) (oi := ?ozz53) (v := ?vzz53) ?hzz53 ?azz53 ?bzz53 ?czz53 ?qzz53 ?yzz53 ?szz53 ?rzz53
                      case hzz53 => simp only [List.getElem?_toArray, List.getElem?_cons_zero, List.getElem?_cons_succ]; rfl
                      case azz53 => kernel_rfl
                      case bzz53 => kernel_rfl
                      case czz53 => kernel_rfl
                      case yzz53 =>
                        refine Or.inl ⟨by rfl, ?_⟩
                        intro w hSw
                        obtain ⟨⟨s0, s1⟩, s2, s3, s4⟩ := hSw
                        go_simp
                        try with_reducible rfl
                      case qzz53 => exact fun _ _ _ h => h
                      case szz53 => first | assumption | trivial
                      case' rzz53 => simp only [Act.put, List.setIfInBounds_toArray, List.set_cons_zero, List.set_cons_succ]
                      refine wpAnyH_take (i := 8) (oi := ?ozz54) (v := ?vzz54) ?hzz54 ?azz54 ?bzz54 ?czz54 ?qzz54 ?yzz54 ?szz54 ?rzz54
                      case hzz54 => simp only [List.getElem?_toArray, List.getElem?_cons_zero, List.getElem?_cons_succ]; rfl
                      case azz54 => kernel_rfl
                      case bzz54 => kernel_rfl
                      case czz54 => kernel_rfl
                      case yzz54 =>
                        refine Or.inl ⟨by rfl, ?_⟩
                        intro w hSw
                        obtain ⟨⟨s0, s1⟩, s2, s3, s4⟩ := hSw
                        go_simp
                        try with_reducible rfl
                      case qzz54 => exact fun _ _ _ h => h
                      case szz54 => first | assumption | trivial
                      case' rzz54 => simp only [Act.put, List.setIfInBounds_toArray, List.set_cons_zero, List.set_cons_succ]
                      refine wpAnyH_ready (rs := [10]) (by kernel_rfl) (by simp) ?_
                      refine AllReadyH.cons (o := ?ozz56) ?hzz56 (fun K hK => ?kzz56) ?mzz56
                      case hzz56 => simp only [List.getElem?_toArray, List.getElem?_cons_zero, List.getElem?_cons_succ]; rfl
                      case kzz56 =>
                        go_simp
                        refine hK.out _ _ ?Szz56 (fun hHeld => ?Rzz56)
                        case Szz56 =>
                          exact ⟨⟨far2_ w4_a (box_ QK c0), far2_ w4_a (box_ QK c1)⟩, far2_ w4_b (box_ QK z0), far2_ w4_b (box_ QK z1), far2_ w4_b (box_ QK z2)⟩
                        case Rzz56 =>
                          clear hK K
                          try simp only [Act.put, List.setIfInBounds_toArray, List.set_cons_zero, List.set_cons_succ]
                          refine wpAnyH_take (i := 11) (oi := ?ozz55) (v := ?vzz55) ?hzz55 ?azz55 ?bzz55 ?czz55 ?qzz55 ?yzz55 ?szz55 ?rzz55
                          case hzz55 => simp only [List.getElem?_toArray, List.getElem?_cons_zero, List.getElem?_cons_succ]; rfl
                          case azz55 => kernel_rfl
                          case bzz55 => kernel_rfl
                          case czz55 => kernel_rfl
                          case yzz55 =>
                            refine Or.inl ⟨by rfl, ?_⟩
                            intro w hSw
                            obtain ⟨⟨s0, s1⟩, s2, s3, s4⟩ := hSw
                            go_simp
                            try with_reducible rfl
                          case qzz55 => exact fun _ _ _ h => h
                          case szz55 => first | assumption | trivial
                          case' rzz55 => simp only [Act.put, List.setIfInBounds_toArray, List.set_cons_zero, List.set_cons_succ]
                          refine wpAnyH_done (by kernel_rfl) ?_ _
                          go_wp2_with fail
                          go_meet
                          exact leafB (g := g) (base := (w4.drew.alloc (.cells #[.slice none 0 0, .slice none 0 0] 40)).heap.size) (by have := w4_g; simp only [World.size_alloc, World.size_drew]; omega) (by simp) (Nat.le_refl _) (BA.out.q q5) o5 t5 QK
                      case' mzz56 => skip
                      exact AllReadyH.nil
                  case' mzz57 => skip
                  exact AllReadyH.nil
              case' mzz59 => skip
              exact AllReadyH.nil
            case rest =>
              obtain ⟨h6, A6, c6, B6, d6, rfl, rfl, x6, o6, t6, q6⟩ := hcut
              have X6 := Lib.hid (X4.out.step q6)
              have B6x := Lib.hid (B4.out.q q6)
              have C6 := Lib.hid x6
              have O6 := Lib.hid (O4.out.q q6)
              have T6 := Lib.hid (T4.out.q q6)
              have O7 := Lib.hid o6
              have T7 := Lib.hid t6
              clear x6 o6 t6 q6 c0 c1 z0 z1 z2 d0 d1 X4 Z4 B4 O4 T4 Q4
              obtain ⟨c0, c1⟩ := B6x.out.get2.1
              obtain ⟨p0, p1, p2, p3⟩ : _ ∧ _ ∧ _ ∧ _ := ⟨X6.out.bx.get2.1.1, X6.out.bx.get2.1.2, X6.out.bx.get2.2.1, X6.out.bx.get2.2.2⟩
              obtain ⟨d0, d1⟩ := C6.out.get2.1
              go_wp2_with fail
              refine (bsame_any A5 B5 A6 B6 T.data.length c5 T.toks.length d5 T.data.length c6 T.toks.length d6 T T _ (O6.out.in_ hl3) (T6.out.in_ hl4) (O7.out.in_ hl3) (T7.out.in_ hl4)).mono ?_
              rw [decide_eq_true rfl]
              rintro e w7 ⟨rfl, y7⟩
              have X8 := Lib.hid (X6.out.step y7)
              have B8 := Lib.hid (B6x.out.q y7)
              have O8 := Lib.hid (O6.out.q y7)
              have T8 := Lib.hid (T6.out.q y7)
              clear y7 c0 c1 d0 d1 p0 p1 p2 p3 X6 B6x C6 O6 T6 O7 T7
              obtain ⟨c0, c1⟩ := B8.out.get2.1
              obtain ⟨p0, p1, p2, p3⟩ : _ ∧ _ ∧ _ ∧ _ := ⟨X8.out.bx.get2.1.1, X8.out.bx.get2.1.2, X8.out.bx.get2.2.1, X8.out.bx.get2.2.2⟩
              have X9 := Lib.hid (X8.out.set (s' := T) (Q.refl _) O8.out T8.out)
              go_wp2
              go_roundw
              case rel => exact ⟨j + 1, A5, B5, c5, d5, by omega, by omega, by go_num, by rw [HSt.out]; exact X9.out⟩
              case measure => simp [intOf]; omega
      · have hT := hErr he
        subst hT
        rw [HDo.out] at KD2
        have hz0 : ((er : Int) == 0) = false := by simp; omega
        generalize hfr : find rt T.toks = fr at KE KF
        obtain ⟨fs, fb⟩ := fr
        clear hErr hIs hOk hAg he hfr
        cases fb with
        | true =>
          have hss : (fs.toList == fs.toList) = true := by simp
          obtain ⟨c0, c1⟩ := X.out.bx.get2.1
          obtain ⟨z0, z1, z2⟩ := Z.out
          go_wp2
          go_region_held3 (fun w' => w'.cell? ⟨g, 0, none⟩ = some (.slice P T.data.length pc) ∧ w'.cell? ⟨g, 1, none⟩ = some (.slice R T.toks.length rc) ∧ w'.cell? ⟨(ad.add (j * 3)).block, (ad.add (j * 3)).off + 1, none⟩ = some (.string rt))
            (first
              | go_keep
              | (go_split_ands
                 (repeat' apply And.intro) <;> exact box_ ‹Q _ _› (by assumption)))
            (first
              | (go_at_call 22
                 refine (KE.out _ (Q.refl _).drew).mono ?_
                 rintro e w2 ⟨rfl, y2⟩))
          have Q2 := Lib.hid ((Q.refl wr).drew.trans y2)
          have X2 := Lib.hid (X.out.step Q2.out)
          have Z2 := Lib.hid (Z.out.step Q2.out)
          clear y2 c0 c1 z0 z1 z2
          have w2_g : g < w2.heap.size := X2.out.bx.lt
          have w2_a : w2.heap.size ≠ g := by omega
          obtain ⟨c0, c1⟩ := X2.out.bx.get2.1
          obtain ⟨z0, z1, z2⟩ := Z2.out
          have w2_b : w2.heap.size ≠ (ad.add (j * 3)).block := by have := block_lt_of_cell z0; omega
          go_upto_region 7 with (fail)
          have BA := Lib.hid (show Bx (w2.drew.alloc (.cells #[.slice none 0 0, .slice none 0 0] 40)) w2.heap.size [.slice none 0 0, .slice none 0 0] from Bx.new w2.drew [.slice none 0 0, .slice none 0 0] 40)
          go_cut [8, 9] (fun s8 s9 wx => Cq g T er w2 s8 s9 wx)
          case first =>
            refine wp_region_held_drew (S := fun w' => (w'.cell? ⟨g, 0, none⟩ = some (.slice P T.data.length pc) ∧ w'.cell? ⟨g, 1, none⟩ = some (.slice R T.toks.length rc)) ∧ w'.cell? (ad.add (j * 3)) = some (.int .i64 rk) ∧ w'.cell? ⟨(ad.add (j * 3)).block, (ad.add (j * 3)).off + 1, none⟩ = some (.string rt) ∧ w'.cell? ⟨(ad.add (j * 3)).block, (ad.add (j * 3)).off + 2, none⟩ = some (.slice C p q)) (by kernel_rfl) ?szz100 (fun hHeld => ?rzz100)
            case szz100 =>
              exact ⟨⟨c0, c1⟩, z0, z1, z2⟩
            case' rzz100 => skip
            have hC0 := hHeld
            refine wpAnyH_take (i := 0) (oi := ?ozz101) (v := ?vzz101) ?hzz101 ?azz101 ?bzz101 ?czz101 ?qzz101 ?yzz101 ?szz101 ?rzz101
            case hzz101 => simp only [List.getElem?_toArray, List.getElem?_cons_zero]; rfl
            case azz101 => kernel_rfl
            case bzz101 => kernel_rfl
            case czz101 => kernel_rfl
            case yzz101 =>
              refine Or.inl ⟨by rfl, ?_⟩
              intro w hSw
              obtain ⟨⟨s0, s1⟩, s2, s3, s4⟩ := hSw
              go_simp
              try with_reducible rfl
            case qzz101 => exact fun _ _ _ h => h
            case szz101 => first | assumption | trivial
            case' rzz101 => simp only [Act.put, List.setIfInBounds_toArray, List.set_cons_zero, List.set_cons_succ]
            refine wpAnyH_take (i := 1) (oi := ?ozz102) (v := ?vzz102) ?hzz102 ?azz102 ?bzz102 ?czz102 ?qzz102 ?yzz102 ?szz102 ?rzz102
            case hzz102 => simp only [List.getElem?_toArray, List.getElem?_cons_zero, List.getElem?_cons_succ]; rfl
            case azz102 => kernel_rfl
            case bzz102 => kernel_rfl
            case czz102 => kernel_rfl
            case yzz102 =>
              refine Or.inl ⟨by rfl, ?_⟩
              intro w hSw
              obtain ⟨⟨s0, s1⟩, s2, s3, s4⟩ := hSw
              go_simp
              try with_reducible rfl
            case qzz102 => exact fun _ _ _ h => h
            case szz102 => first | assumption | trivial
            case' rzz102 => simp only [Act.put, List.setIfInBounds_toArray, List.set_cons_zero, List.set_cons_succ]
            refine wpAnyH_take (i := 2) (oi := ?ozz103) (v := ?vzz103) ?hzz103 ?azz103 ?bzz103 ?czz103 ?qzz103 ?yzz103 ?szz103 ?rzz103
            case hzz103 => simp only [List.getElem?_toArray, List.getElem?_cons_zero, List.getElem?_cons_succ]; rfl
            case azz103 => kernel_rfl
            case bzz103 => kernel_rfl
            case czz103 => kernel_rfl
            case yzz103 =>
              refine Or.inl ⟨by rfl, ?_⟩
              intro w hSw
              obtain ⟨⟨s0, s1⟩, s2, s3, s4⟩ := hSw
              go_simp
              try with_reducible rfl
            case qzz103 => exact fun _ _ _ h => h
            case szz103 => first | assumption | trivial
            case' rzz103 => simp only [Act.put, List.setIfInBounds_toArray, List.set_cons_zero, List.set_cons_succ]
            refine wpAnyH_take (i := 3) (oi := ?ozz104) (v := ?vzz104) ?hzz104 ?azz104 ?bzz104 ?czz104 ?qzz104 ?yzz104 ?szz104 ?rzz104
            case hzz104 => simp only [List.getElem?_toArray, List.getElem?_cons_zero, List.getElem?_cons_succ]; rfl
            case azz104 => kernel_rfl
            case bzz104 => kernel_rfl
            case czz104 => kernel_rfl
            case yzz104 =>
              refine Or.inl ⟨by rfl, ?_⟩
              intro w hSw
              obtain ⟨⟨s0, s1⟩, s2, s3, s4⟩ := hSw
              go_simp
              try with_reducible rfl
            case qzz104 => exact fun _ _ _ h => h
            case szz104 => first | assumption | trivial
            case' rzz104 => simp only [Act.put, List.setIfInBounds_toArray, List.set_cons_zero, List.set_cons_succ]
            refine wpAnyH_take (i := 4) (oi := ?ozz105) (v := ?vzz105) ?hzz105 ?azz105 ?bzz105 ?czz105 ?qzz105 ?yzz105 ?szz105 ?rzz105
            case hzz105 => simp only [List.getElem?_toArray, List.getElem?_cons_zero, List.getElem?_cons_succ]; rfl
            case azz105 => kernel_rfl
            case bzz105 => kernel_rfl
            case czz105 => kernel_rfl
            case yzz105 =>
              refine Or.inl ⟨by rfl, ?_⟩
              intro w hSw
              obtain ⟨⟨s0, s1⟩, s2, s3, s4⟩ := hSw
              go_simp
              try with_reducible rfl
            case qzz105 => exact fun _ _ _ h => h
            case szz105 => first | assumption | trivial
            case' rzz105 => simp only [Act.put, List.setIfInBounds_toArray, List.set_cons_zero, List.set_cons_succ]
            refine wpAnyH_ready (rs := [5, 9]) (by kernel_rfl) (by simp) ?_
            refine AllReadyH.cons (o := ?ozz118) ?hzz118 (fun K hK => ?kzz118) ?mzz118
            case hzz118 => simp only [List.getElem?_toArray, List.getElem?_cons_zero, List.getElem?_cons_succ]; rfl
            case kzz118 =>
              go_simp
              refine (KD.out _ (Q2.out.trans ((Q.refl w2).drew))).mono ?_
              rintro e v5 ⟨A5, c5, B5, d5, rfl, o5, t5, q5⟩
              try simp only at o5 t5
              have QK : Q w2 v5 := ((Q.refl w2).drew).trans q5
              go_wp2_with fail
              refine hK.out _ _ ?Szz118 (fun hHeld => ?Rzz118)
              case Szz118 =>
                exact ⟨⟨box_ QK c0, box_ QK c1⟩, box_ QK z0, box_ QK z1, box_ QK z2⟩
              case Rzz118 =>
                clear hK K
                try simp only [Act.put, List.setIfInBounds_toArray, List.set_cons_zero, List.set_cons_succ]
                refine wpAnyH_take (i := 6) (oi := ?ozz106) (v := ?vzz106) ?hzz106 ?azz106 ?bzz106 ?czz106 ?qzz106 ?yzz106 ?szz106 ?rzz106
                case hzz106 => simp only [List.getElem?_toArray, List.getElem?_cons_zero, List.getElem?_cons_succ]; rfl
                case azz106 => kernel_rfl
                case bzz106 => kernel_rfl
                case czz106 => kernel_rfl
                case yzz106 =>
                  refine Or.inl ⟨by rfl, ?_⟩
                  intro w hSw
                  obtain ⟨⟨s0, s1⟩, s2, s3, s4⟩ := hSw
                  go_simp
                  try with_reducible rfl
                case qzz106 => exact fun _ _ _ h => h
                case szz106 => first | assumption | trivial
                case' rzz106 => simp only [Act.put, List.setIfInBounds_toArray, List.set_cons_zero, List.set_cons_succ]
                refine wpAnyH_take (i := 7) (oi := ?ozz107) (v := ?vzz107) ?hzz107 ?azz107 ?bzz107 ?czz107 ?qzz107 ?yzz107 ?szz107 ?rzz107
                case hzz107 => simp only [List.getElem?_toArray, List.getElem?_cons_zero, List.getElem?_cons_succ]; rfl
                case azz107 => kernel_rfl
                case bzz107 => kernel_rfl
                case czz107 => kernel_rfl
                case yzz107 =>
                  refine Or.inl ⟨by rfl, ?_⟩
                  intro w hSw
                  obtain ⟨⟨s0, s1⟩, s2, s3, s4⟩ := hSw
                  go_simp
                  try with_reducible rfl
                case qzz107 => exact fun _ _ _ h => h
                case szz107 => first | assumption | trivial
                case' rzz107 => simp only [Act.put, List.setIfInBounds_toArray, List.set_cons_zero, List.set_cons_succ]
                refine wpAnyH_take (i := 8) (oi := ?ozz108) (v := ?vzz108) ?hzz108 ?azz108 ?bzz108 ?czz108 ?qzz108 ?yzz108 ?szz108 ?rzz108
                case hzz108 => simp only [List.getElem?_toArray, List.getElem?_cons_zero, List.getElem?_cons_succ]; rfl
                case azz108 => kernel_rfl
                case bzz108 => kernel_rfl
                case czz108 => kernel_rfl
                case yzz108 =>
                  refine Or.inl ⟨by rfl, ?_⟩
                  intro w hSw
                  obtain ⟨⟨s0, s1⟩, s2, s3, s4⟩ := hSw
                  go_simp
                  try with_reducible rfl
                case qzz108 => exact fun _ _ _ h => h
                case szz108 => first | assumption | trivial
                case' rzz108 => simp only [Act.put, List.setIfInBounds_toArray, List.set_cons_zero, List.set_cons_succ]
                refine wpAnyH_ready (rs := [9]) (by kernel_rfl) (by simp) ?_
                refine AllReadyH.cons (o := ?ozz111) ?hzz111 (fun K hK => ?kzz111) ?mzz111
                case hzz111 => simp only [List.getElem?_toArray, List.getElem?_cons_zero, List.getElem?_cons_succ]; rfl
                case kzz111 =>
                  go_simp
                  refine hK.out _ _ ?Szz111 (fun hHeld => ?Rzz111)
                  case Szz111 =>
                    exact ⟨⟨box_ (QK.alloc _) c0, box_ (QK.alloc _) c1⟩, box_ (QK.alloc _) z0, box_ (QK.alloc _) z1, box_ (QK.alloc _) z2⟩
                  case Rzz111 =>
                    clear hK K
                    try simp only [Act.put, List.setIfInBounds_toArray, List.set_cons_zero, List.set_cons_succ]
                    refine wpAnyH_ready (rs := [10]) (by kernel_rfl) (by simp) ?_
                    refine AllReadyH.cons (o := ?ozz110) ?hzz110 (fun K hK => ?kzz110) ?mzz110
                    case hzz110 => simp only [List.getElem?_toArray, List.getElem?_cons_zero, List.getElem?_cons_succ]; rfl
                    case kzz110 =>
                      go_simp
                      refine hK.out _ _ ?Szz110 (fun hHeld => ?Rzz110)
                      case Szz110 =>
                        exact ⟨⟨box_ (QK.alloc _) c0, box_ (QK.alloc _) c1⟩, box_ (QK.alloc _) z0, box_ (QK.alloc _) z1, box_ (QK.alloc _) z2⟩
                      case Rzz110 =>
                        clear hK K
                        try simp only [Act.put, List.setIfInBounds_toArray, List.set_cons_zero, List.set_cons_succ]
                        refine wpAnyH_take (i := 11) (oi := ?ozz109) (v := ?vzz109) ?hzz109 ?azz109 ?bzz109 ?czz109 ?qzz109 ?yzz109 ?szz109 ?rzz109
                        case hzz109 => simp only [List.getElem?_toArray, List.getElem?_cons_zero, List.getElem?_cons_succ]; rfl
                        case azz109 => kernel_rfl
                        case bzz109 => kernel_rfl
                        case czz109 => kernel_rfl
                        case yzz109 =>
                          refine Or.inl ⟨by rfl, ?_⟩
                          intro w hSw
                          obtain ⟨⟨s0, s1⟩, s2, s3, s4⟩ := hSw
                          go_simp
                          try with_reducible rfl
                        case qzz109 => exact fun _ _ _ h => h
                        case szz109 => first | assumption | trivial
                        case' rzz109 => simp only [Act.put, List.setIfInBounds_toArray, List.set_cons_zero, List.set_cons_succ]
                        refine wpAnyH_done (by kernel_rfl) ?_ _
                        go_wp2_with fail
                        go_meet
                        exact leafA (g := g) (base := w2.drew.heap.size) (by have := w2_g; simp only [World.size_drew]; omega) o5 t5 QK
                    case' mzz110 => skip
                    exact AllReadyH.nil
                case' mzz111 => skip
                exact AllReadyH.nil
            case' mzz118 => skip
            refine AllReadyH.cons (o := ?ozz119) ?hzz119 (fun K hK => ?kzz119) ?mzz119
            case hzz119 => simp only [List.getElem?_toArray, List.getElem?_cons_zero, List.getElem?_cons_succ]; rfl
            case kzz119 =>
              go_simp
              refine hK.out _ _ ?Szz119 (fun hHeld => ?Rzz119)
              case Szz119 =>
                exact ⟨⟨box_ ((Q.refl w2).drew.alloc (.cells #[.slice none 0 0, .slice none 0 0] 40)) c0, box_ ((Q.refl w2).drew.alloc (.cells #[.slice none 0 0, .slice none 0 0] 40)) c1⟩, box_ ((Q.refl w2).drew.alloc (.cells #[.slice none 0 0, .slice none 0 0] 40)) z0, box_ ((Q.refl w2).drew.alloc (.cells #[.slice none 0 0, .slice none 0 0] 40)) z1, box_ ((Q.refl w2).drew.alloc (.cells #[.slice none 0 0, .slice none 0 0] 40)) z2⟩
              case Rzz119 =>
                clear hK K
                try simp only [Act.put, List.setIfInBounds_toArray, List.set_cons_zero, List.set_cons_succ]
                refine wpAnyH_ready (rs := [5]) (by kernel_rfl) (by simp) ?_
                refine AllReadyH.cons (o := ?ozz117) ?hzz117 (fun K hK => ?kzz117) ?mzz117
                case hzz117 => simp only [List.getElem?_toArray, List.getElem?_cons_zero, List.getElem?_cons_succ]; rfl
                case kzz117 =>
                  go_simp
                  refine (KD.out _ (Q2.out.trans ((Q.refl w2).drew.alloc (.cells #[.slice none 0 0, .slice none 0 0] 40)))).mono ?_
                  rintro e v5 ⟨A5, c5, B5, d5, rfl, o5, t5, q5⟩
                  try simp only at o5 t5
                  have QK : Q w2 v5 := ((Q.refl w2).drew.alloc (.cells #[.slice none 0 0, .slice none 0 0] 40)).trans q5
                  obtain ⟨⟨b0, b1⟩, b2, b3⟩ := (BA.out.q q5).get2
                  go_wp2_with fail
                  refine hK.out _ _ ?Szz117 (fun hHeld => ?Rzz117)
                  case Szz117 =>
                    exact ⟨⟨box_ QK c0, box_ QK c1⟩, box_ QK z0, box_ QK z1, box_ QK z2⟩
                  case Rzz117 =>
                    clear hK K
                    try simp only [Act.put, List.setIfInBounds_toArray, List.set_cons_zero, List.set_cons_succ]
                    refine wpAnyH_take (i := 6) (oi := ?ozz112) (v := ?vzz112) ?hzz112 ?azz112 ?bzz112 ?czz112 ?qzz112 ?yzz112 ?szz112 ?rzz112
                    case hzz112 => simp only [List.getElem?_toArray, List.getElem?_cons_zero, List.getElem?_cons_succ]; rfl
                    case azz112 => kernel_rfl
                    case bzz112 => kernel_rfl
                    case czz112 => kernel_rfl
                    case yzz112 =>
                      refine Or.inl ⟨by rfl, ?_⟩
                      intro w hSw
                      obtain ⟨⟨s0, s1⟩, s2, s3, s4⟩ := hSw
                      go_simp
                      try with_reducible rfl
                    case qzz112 => exact fun _ _ _ h => h
                    case szz112 => first | assumption | trivial
                    case' rzz112 => simp only [Act.put, List.setIfInBounds_toArray, List.set_cons_zero, List.set_cons_succ]
                    refine wpAnyH_take (i := 7) (oi := ?ozz113) (v := ?vzz113) ?hzz113 ?azz113 ?bzz113 ?czz113 ?qzz113 ?yzz113 ?szz113 ?rzz113
                    case hzz113 => simp only [List.getElem?_toArray, List.getElem?_cons_zero, List.getElem?_cons_succ]; rfl
                    case azz113 => kernel_rfl
                    case bzz113 => kernel_rfl
                    case czz113 => kernel_rfl
                    case yzz113 =>
                      refine Or.inl ⟨by rfl, ?_⟩
                      intro w hSw
                      obtain ⟨⟨s0, s1⟩, s2, s3, s4⟩ := hSw
                      go_simp
                      try with_reducible rfl
                    case qzz113 => exact fun _ _ _ h => h
                    case szz113 => first | assumption | trivial
                    case' rzz113 => simp only [Act.put, List.setIfInBounds_toArray, List.set_cons_zero, List.set_cons_succ]
                    refine wpAnyH_take (i := 8) (oi := ?ozz114) (v := ?vzz114) ?hzz114 ?azz114 ?bzz114 ?czz114 ?qzz114 ?yzz114 ?szz114 ?rzz114
                    case hzz114 => simp only [List.getElem?_toArray, List.getElem?_cons_zero, List.getElem?_cons_succ]; rfl
                    case azz114 => kernel_rfl
                    case bzz114 => kernel_rfl
                    case czz114 => kernel_rfl
                    case yzz114 =>
                      refine Or.inl ⟨by rfl, ?_⟩
                      intro w hSw
                      obtain ⟨⟨s0, s1⟩, s2, s3, s4⟩ := hSw
                      go_simp
                      try with_reducible rfl
                    case qzz114 => exact fun _ _ _ h => h
                    case szz114 => first | assumption | trivial
                    case' rzz114 => simp only [Act.put, List.setIfInBounds_toArray, List.set_cons_zero, List.set_cons_succ]
                    refine wpAnyH_ready (rs := [10]) (by kernel_rfl) (by simp) ?_
                    refine AllReadyH.cons (o := ?ozz116) ?hzz116 (fun K hK => ?kzz116) ?mzz116
                    case hzz116 => simp only [List.getElem?_toArray, List.getElem?_cons_zero, List.getElem?_cons_succ]; rfl
                    case kzz116 =>
                      go_simp
                      refine hK.out _ _ ?Szz116 (fun hHeld => ?Rzz116)
                      case Szz116 =>
                        exact ⟨⟨far2_ w2_a (box_ QK c0), far2_ w2_a (box_ QK c1)⟩, far2_ w2_b (box_ QK z0), far2_ w2_b (box_ QK z1), far2_ w2_b (box_ QK z2)⟩
                      case Rzz116 =>
                        clear hK K
                        try simp only [Act.put, List.setIfInBounds_toArray, List.set_cons_zero, List.set_cons_succ]
                        refine wpAnyH_take (i := 11) (oi := ?ozz115) (v := ?vzz115) ?hzz115 ?azz115 ?bzz115 ?czz115 ?qzz115 ?yzz115 ?szz115 ?rzz115
                        case hzz115 => simp only [List.getElem?_toArray, List.getElem?_cons_zero, List.getElem?_cons_succ]; rfl
                        case azz115 => kernel_rfl
                        case bzz115 => kernel_rfl
                        case czz115 => kernel_rfl
                        case yzz115 =>
                          refine Or.inl ⟨by rfl, ?_⟩
                          intro w hSw
                          obtain ⟨⟨s0, s1⟩, s2, s3, s4⟩ := hSw
                          go_simp
                          try with_reducible rfl
                        case qzz115 => exact fun _ _ _ h => h
                        case szz115 => first | assumption | trivial
                        case' rzz115 => simp only [Act.put, List.setIfInBounds_toArray, List.set_cons_zero, List.set_cons_succ]
                        refine wpAnyH_done (by kernel_rfl) ?_ _
                        go_wp2_with fail
                        go_meet
                        exact leafB (g := g) (base := (w2.drew.alloc (.cells #[.slice none 0 0, .slice none 0 0] 40)).heap.size) (by have := w2_g; simp only [World.size_alloc, World.size_drew]; omega) (by simp) (Nat.le_refl _) (BA.out.q q5) o5 t5 QK
                    case' mzz116 => skip
                    exact AllReadyH.nil
                case' mzz117 => skip
                exact AllReadyH.nil
            case' mzz119 => skip
            exact AllReadyH.nil
          case rest =>
            obtain ⟨h, A5, c5, B5, d5, rfl, rfl, x3, o3, t3, q3⟩ := hcut
            have X3 := Lib.hid (X2.out.step q3)
            have Z3 := Lib.hid (Z2.out.step q3)
            have B3 := Lib.hid x3
            have O3 := Lib.hid o3
            have T3 := Lib.hid t3
            have Q3 := Lib.hid (Q2.out.trans q3)
            clear x3 o3 t3 q3 c0 c1 z0 z1 z2
            obtain ⟨c0, c1⟩ := B3.out.get2.1
            obtain ⟨z0, z1, z2⟩ := Z3.out
            go_wp2
            go_region_held3 (fun w' => w'.cell? ⟨h, 0, none⟩ = some (.slice A5 T.data.length c5) ∧ w'.cell? ⟨h, 1, none⟩ = some (.slice B5 T.toks.length d5) ∧ w'.cell? ⟨(ad.add (j * 3)).block, (ad.add (j * 3)).off + 1, none⟩ = some (.string rt))
              (first
                | go_keep
                | (go_split_ands
                   (repeat' apply And.intro) <;> exact box_ ‹Q _ _› (by assumption)))
              (first
                | (go_at_call 22
                   refine (KF.out _ A5 c5 B5 d5 (T3.out.q (Q.refl _).drew)).mono ?_
                   rintro e w4 ⟨rfl, y4⟩))
            have QS := Lib.hid ((Q.refl wc).drew.trans y4)
            have X4 := Lib.hid (X3.out.step QS.out)
            have Z4 := Lib.hid (Z3.out.step QS.out)
            have B4 := Lib.hid (B3.out.q QS.out)
            have O4 := Lib.hid (O3.out.q QS.out)
            have T4 := Lib.hid (T3.out.q QS.out)
            have Q4 := Lib.hid (Q3.out.trans QS.out)
            clear y4 c0 c1 z0 z1 z2 X3 Z3 B3 O3 T3 Q3 QS
            obtain ⟨c0, c1⟩ := B4.out.get2.1
            obtain ⟨d0, d1⟩ := X4.out.bx.get2.1
            obtain ⟨z0, z1, z2⟩ := Z4.out
            go_wp2_with fail
            refine (bsame_any P R A5 B5 T.data.length pc T.toks.length rc T.data.length c5 T.toks.length d5 T T _ (X4.out.o1.in_ hl1) (X4.out.o2.in_ hl2) (O4.out.in_ hl3) (T4.out.in_ hl4)).mono ?_
            rw [decide_eq_true rfl]
            rintro e w5 ⟨rfl, y5⟩
            have X5 := Lib.hid (X4.out.step y5)
            have Z5 := Lib.hid (Z4.out.step y5)
            have B5x := Lib.hid (B4.out.q y5)
            have O5 := Lib.hid (O4.out.q y5)
            have T5 := Lib.hid (T4.out.q y5)
            have Q5 := Lib.hid (Q4.out.trans y5)
            clear y5 c0 c1 d0 d1 z0 z1 z2 X4 Z4 B4 O4 T4 Q4
            obtain ⟨c0, c1⟩ := B5x.out.get2.1
            obtain ⟨z0, z1, z2⟩ := Z5.out
            have w5_g : g < w5.heap.size := X5.out.bx.lt
            have w5_a : w5.heap.size ≠ h := by have := B5x.out.lt; omega
            have w5_b : w5.heap.size ≠ (ad.add (j * 3)).block := by have := block_lt_of_cell z0; omega
            go_upto_region 13 with (fail)
            have BA := Lib.hid (show Bx (w5.drew.alloc (.cells #[.slice none 0 0, .slice none 0 0] 40)) w5.heap.size [.slice none 0 0, .slice none 0 0] from Bx.new w5.drew [.slice none 0 0, .slice none 0 0] 40)
            go_cut [12, 13] (fun s8 s9 wx => Cq g T er w5 s8 s9 wx)
            case first =>
              refine wp_region_held_drew (S := fun w' => (w'.cell? ⟨h, 0, none⟩ = some (.slice A5 T.data.length c5) ∧ w'.cell? ⟨h, 1, none⟩ = some (.slice B5 T.toks.length d5)) ∧ w'.cell? (ad.add (j * 3)) = some (.int .i64 rk) ∧ w'.cell? ⟨(ad.add (j * 3)).block, (ad.add (j * 3)).off + 1, none⟩ = some (.string rt) ∧ w'.cell? ⟨(ad.add (j * 3)).block, (ad.add (j * 3)).off + 2, none⟩ = some (.slice C p q)) (by kernel_rfl) ?szz80 (fun hHeld => ?rzz80)
              case szz80 =>
                exact ⟨⟨c0, c1⟩, z0, z1, z2⟩
              case' rzz80 => skip
              have hC0 := hHeld
              refine wpAnyH_take (i := 0) (oi := ?ozz81) (v := ?vzz81) ?hzz81 ?azz81 ?bzz81 ?czz81 ?qzz81 ?yzz81 ?szz81 ?rzz81
              case hzz81 => simp only [List.getElem?_toArray, List.getElem?_cons_zero]; rfl
              case azz81 => kernel_rfl
              case bzz81 => kernel_rfl
              case czz81 => kernel_rfl
              case yzz81 =>
                refine Or.inl ⟨by rfl, ?_⟩
                intro w hSw
                obtain ⟨⟨s0, s1⟩, s2, s3, s4⟩ := hSw
                go_simp
                try with_reducible rfl
              case qzz81 => exact fun _ _ _ h => h
              case szz81 => first | assumption | trivial
              case' rzz81 => simp only [Act.put, List.setIfInBounds_toArray, List.set_cons_zero, List.set_cons_succ]
              refine wpAnyH_take (i := 1) (oi := ?ozz82) (v := ?vzz82) ?hzz82 ?azz82 ?bzz82 ?czz82 ?qzz82 ?yzz82 ?szz82 ?rzz82
              case hzz82 => simp only [List.getElem?_toArray, List.getElem?_cons_zero, List.getElem?_cons_succ]; rfl
              case azz82 => kernel_rfl
              case bzz82 => kernel_rfl
              case czz82 => kernel_rfl
              case yzz82 =>
                refine Or.inl ⟨by rfl, ?_⟩
                intro w hSw
                obtain ⟨⟨s0, s1⟩, s2, s3, s4⟩ := hSw
                go_simp
                try with_reducible rfl
              case qzz82 => exact fun _ _ _ h => h
              case szz82 => first | assumption | trivial
              case' rzz82 => simp only [Act.put, List.setIfInBounds_toArray, List.set_cons_zero, List.set_cons_succ]
              refine wpAnyH_take (i := 2) (oi := ?ozz83) (v := ?vzz83) ?hzz83 ?azz83 ?bzz83 ?czz83 ?qzz83 ?yzz83 ?szz83 ?rzz83
              case hzz83 => simp only [List.getElem?_toArray, List.getElem?_cons_zero, List.getElem?_cons_succ]; rfl
              case azz83 => kernel_rfl
              case bzz83 => kernel_rfl
              case czz83 => kernel_rfl
              case yzz83 =>
                refine Or.inl ⟨by rfl, ?_⟩
                intro w hSw
                obtain ⟨⟨s0, s1⟩, s2, s3, s4⟩ := hSw
                go_simp
                try with_reducible rfl
              case qzz83 => exact fun _ _ _ h => h
              case szz83 => first | assumption | trivial
              case' rzz83 => simp only [Act.put, List.setIfInBounds_toArray, List.set_cons_zero, List.set_cons_succ]
              refine wpAnyH_take (i := 3) (oi := ?ozz84) (v := ?vzz84) ?hzz84 ?azz84 ?bzz84 ?czz84 ?qzz84 ?yzz84 ?szz84 ?rzz84
              case hzz84 => simp only [List.getElem?_toArray, List.getElem?_cons_zero, List.getElem?_cons_succ]; rfl
              case azz84 => kernel_rfl
              case bzz84 => kernel_rfl
              case czz84 => kernel_rfl
              case yzz84 =>
                refine Or.inl ⟨by rfl, ?_⟩
                intro w hSw
                obtain ⟨⟨s0, s1⟩, s2, s3, s4⟩ := hSw
                go_simp
                try with_reducible rfl
              case qzz84 => exact fun _ _ _ h => h
              case szz84 => first | assumption | trivial
              case' rzz84 => simp only [Act.put, List.setIfInBounds_toArray, List.set_cons_zero, List.set_cons_succ]
              refine wpAnyH_take (i := 4) (oi := ?ozz85) (v := ?vzz85) ?hzz85 ?azz85 ?bzz85 ?czz85 ?qzz85 ?yzz85 ?szz85 ?rzz85
              case hzz85 => simp only [List.getElem?_toArray, List.getElem?_cons_zero, List.getElem?_cons_succ]; rfl
              case azz85 => kernel_rfl
              case bzz85 => kernel_rfl
              case czz85 => kernel_rfl
              case yzz85 =>
                refine Or.inl ⟨by rfl, ?_⟩
                intro w hSw
                obtain ⟨⟨s0, s1⟩, s2, s3, s4⟩ := hSw
                go_simp
                try with_reducible rfl
              case qzz85 => exact fun _ _ _ h => h
              case szz85 => first | assumption | trivial
              case' rzz85 => simp only [Act.put, List.setIfInBounds_toArray, List.set_cons_zero, List.set_cons_succ]
              refine wpAnyH_ready (rs := [5, 9]) (by kernel_rfl) (by simp) ?_
              refine AllReadyH.cons (o := ?ozz98) ?hzz98 (fun K hK => ?kzz98) ?mzz98
              case hzz98 => simp only [List.getElem?_toArray, List.getElem?_cons_zero, List.getElem?_cons_succ]; rfl
              case kzz98 =>
                go_simp
                refine (KD2.out _ A5 c5 B5 d5 (O5.out.q ((Q.refl w5).drew)) (T5.out.q ((Q.refl w5).drew)) (Q5.out.trans ((Q.refl w5).drew))).mono ?_
                rintro e v5 ⟨A5, c5, B5, d5, rfl, o5, t5, q5⟩
                try simp only at o5 t5
                have QK : Q w5 v5 := ((Q.refl w5).drew).trans q5
                go_wp2_with fail
                refine hK.out _ _ ?Szz98 (fun hHeld => ?Rzz98)
                case Szz98 =>
                  exact ⟨⟨box_ QK c0, box_ QK c1⟩, box_ QK z0, box_ QK z1, box_ QK z2⟩
                case Rzz98 =>
                  clear hK K
                  try simp only [Act.put, List.setIfInBounds_toArray, List.set_cons_zero, List.set_cons_succ]
                  refine wpAnyH_take (i := 6) (oi := ?ozz86) (v := ?vzz86) ?hzz86 ?azz86 ?bzz86 ?czz86 ?qzz86 ?yzz86 ?szz86 ?rzz86
                  case hzz86 => simp only [List.getElem?_toArray, List.getElem?_cons_zero, List.getElem?_cons_succ]; rfl
                  case azz86 => kernel_rfl
                  case bzz86 => kernel_rfl
                  case czz86 => kernel_rfl
                  case yzz86 =>
                    refine Or.inl ⟨by rfl, ?_⟩
                    intro w hSw
                    obtain ⟨⟨s0, s1⟩, s2, s3, s4⟩ := hSw
                    go_simp
                    try with_reducible rfl
                  case qzz86 => exact fun _ _ _ h => h
                  case szz86 => first | assumption | trivial
                  case' rzz86 => simp only [Act.put, List.setIfInBounds_toArray, List.set_cons_zero, List.set_cons_succ]
                  refine wpAnyH_take (i := 7) (oi := ?ozz87) (v := ?vzz87) ?hzz87 ?azz87 ?bzz87 ?czz87 ?qzz87 ?yzz87 ?szz87 ?rzz87
                  case hzz87 => simp only [List.getElem?_toArray, List.getElem?_cons_zero, List.getElem?_cons_succ]; rfl
                  case azz87 => kernel_rfl
                  case bzz87 => kernel_rfl
                  case czz87 => kernel_rfl
                  case yzz87 =>
                    refine Or.inl ⟨by rfl, ?_⟩
                    intro w hSw
                    obtain ⟨⟨s0, s1⟩, s2, s3, s4⟩ := hSw
                    go_simp
                    try with_reducible rfl
                  case qzz87 => exact fun _ _ _ h => h
                  case szz87 => first | assumption | trivial
                  case' rzz87 => simp only [Act.put, List.setIfInBounds_toArray, List.set_cons_zero, List.set_cons_succ]
                  refine wpAnyH_take (i := 8) (oi := ?ozz88) (v := ?vzz88) ?hzz88 ?azz88 ?bzz88 ?czz88 ?qzz88 ?yzz88 ?szz88 ?rzz88
                  case hzz88 => simp only [List.getElem?_toArray, List.getElem?_cons_zero, List.getElem?_cons_succ]; rfl
                  case azz88 => kernel_rfl
                  case bzz88 => kernel_rfl
                  case czz88 => kernel_rfl
                  case yzz88 =>
                    refine Or.inl ⟨by rfl, ?_⟩
                    intro w hSw
                    obtain ⟨⟨s0, s1⟩, s2, s3, s4⟩ := hSw
                    go_simp
                    try with_reducible rfl
                  case qzz88 => exact fun _ _ _ h => h
                  case szz88 => first | assumption | trivial
                  case' rzz88 => simp only [Act.put, List.setIfInBounds_toArray, List.set_cons_zero, List.set_cons_succ]
                  refine wpAnyH_ready (rs := [9]) (by kernel_rfl) (by simp) ?_
                  refine AllReadyH.cons (o := ?ozz91) ?hzz91 (fun K hK => ?kzz91) ?mzz91
                  case hzz91 => simp only [List.getElem?_toArray, List.getElem?_cons_zero, List.getElem?_cons_succ]; rfl
                  case kzz91 =>
                    go_simp
                    refine hK.out _ _ ?Szz91 (fun hHeld => ?Rzz91)
                    case Szz91 =>
                      exact ⟨⟨box_ (QK.alloc _) c0, box_ (QK.alloc _) c1⟩, box_ (QK.alloc _) z0, box_ (QK.alloc _) z1, box_ (QK.alloc _) z2⟩
                    case Rzz91 =>
                      clear hK K
                      try simp only [Act.put, List.setIfInBounds_toArray, List.set_cons_zero, List.set_cons_succ]
                      refine wpAnyH_ready (rs := [10]) (by kernel_rfl) (by simp) ?_
                      refine AllReadyH.cons (o := ?ozz90) ?hzz90 (fun K hK => ?kzz90) ?mzz90
                      case hzz90 => simp only [List.getElem?_toArray, List.getElem?_cons_zero, List.getElem?_cons_succ]; rfl
                      case kzz90 =>
                        go_simp
                        refine hK.out _ _ ?Szz90 (fun hHeld => ?Rzz90)
                        case Szz90 =>
                          exact ⟨⟨box_ (QK.alloc _) c0, box_ (QK.alloc _) c1⟩, box_ (QK.alloc _) z0, box_ (QK.alloc _) z1, box_ (QK.alloc _) z2⟩
                        case Rzz90 =>
                          clear hK K
                          try simp only [Act.put, List.setIfInBounds_toArray, List.set_cons_zero, List.set_cons_succ]
                          refine wpAnyH_take (i := 11) (oi := ?ozz89) (v := ?vzz89) ?hzz89 ?azz89 ?bzz89 ?czz89 ?qzz89 ?yzz89 ?szz89 ?rzz89
                          case hzz89 => simp only [List.getElem?_toArray, List.getElem?_cons_zero, List.getElem?_cons_succ]; rfl
                          case azz89 => kernel_rfl
                          case bzz89 => kernel_rfl
                          case czz89 => kernel_rfl
                          case yzz89 =>
                            refine Or.inl ⟨by rfl, ?_⟩
                            intro w hSw
                            obtain ⟨⟨s0, s1⟩, s2, s3, s4⟩ := hSw
                            go_simp
                            try with_reducible rfl
                          case qzz89 => exact fun _ _ _ h => h
                          case szz89 => first | assumption | trivial
                          case' rzz89 => simp only [Act.put, List.setIfInBounds_toArray, List.set_cons_zero, List.set_cons_succ]
                          refine wpAnyH_done (by kernel_rfl) ?_ _
                          go_wp2_with fail
                          go_meet
                          exact leafA (g := g) (base := w5.drew.heap.size) (by have := w5_g; simp only [World.size_drew]; omega) o5 t5 QK
                      case' mzz90 => skip
                      exact AllReadyH.nil
                  case' mzz91 => skip
                  exact AllReadyH.nil
              case' mzz98 => skip
              refine AllReadyH.cons (o := ?ozz99) ?hzz99 (fun K hK => ?kzz99) ?mzz99
              case hzz99 => simp only [List.getElem?_toArray, List.getElem?_cons_zero, List.getElem?_cons_succ]; rfl
              case kzz99 =>
                go_simp
                refine hK.out _ _ ?Szz99 (fun hHeld => ?Rzz99)
                case Szz99 =>
                  exact ⟨⟨box_ ((Q.refl w5).drew.alloc (.cells #[.slice none 0 0, .slice none 0 0] 40)) c0, box_ ((Q.refl w5).drew.alloc (.cells #[.slice none 0 0, .slice none 0 0] 40)) c1⟩, box_ ((Q.refl w5).drew.alloc (.cells #[.slice none 0 0, .slice none 0 0] 40)) z0, box_ ((Q.refl w5).drew.alloc (.cells #[.slice none 0 0, .slice none 0 0] 40)) z1, box_ ((Q.refl w5).drew.alloc (.cells #[.slice none 0 0, .slice none 0 0] 40)) z2⟩
                case Rzz99 =>
                  clear hK K
                  try simp only [Act.put, List.setIfInBounds_toArray, List.set_cons_zero, List.set_cons_succ]
                  refine wpAnyH_ready (rs := [5]) (by kernel_rfl) (by simp) ?_
                  refine AllReadyH.cons (o := ?ozz97) ?hzz97 (fun K hK => ?kzz97) ?mzz97
                  case hzz97 => simp only [List.getElem?_toArray, List.getElem?_cons_zero, List.getElem?_cons_succ]; rfl
                  case kzz97 =>
                    go_simp
                    refine (KD2.out _ A5 c5 B5 d5 (O5.out.q ((Q.refl w5).drew.alloc (.cells #[.slice none 0 0, .slice none 0 0] 40))) (T5.out.q ((Q.refl w5).drew.alloc (.cells #[.slice none 0 0, .slice none 0 0] 40))) (Q5.out.trans ((Q.refl w5).drew.alloc (.cells #[.slice none 0 0, .slice none 0 0] 40)))).mono ?_
                    rintro e v5 ⟨A5, c5, B5, d5, rfl, o5, t5, q5⟩
                    try simp only at o5 t5
                    have QK : Q w5 v5 := ((Q.refl w5).drew.alloc (.cells #[.slice none 0 0, .slice none 0 0] 40)).trans q5
                    obtain ⟨⟨b0, b1⟩, b2, b3⟩ := (BA.out.q q5).get2
                    go_wp2_with fail
                    refine hK.out _ _ ?Szz97 (fun hHeld => ?Rzz97)
                    case Szz97 =>
                      exact ⟨⟨box_ QK c0, box_ QK c1⟩, box_ QK z0, box_ QK z1, box_ QK z2⟩
                    case Rzz97 =>
                      clear hK K
                      try simp only [Act.put, List.setIfInBounds_toArray, List.set_cons_zero, List.set_cons_succ]
                      refine wpAnyH_take (i := 6) (oi := ?ozz92) (v := ?vzz92) ?hzz92 ?azz92 ?bzz92 ?czz92 ?qzz92 ?yzz92 ?szz92 ?rzz92
                      case hzz92 => simp only [List.getElem?_toArray, List.getElem?_cons_zero, List.getElem?_cons_succ]; rfl
                      case azz92 => kernel_rfl
                      case bzz92 => kernel_rfl
                      case czz92 => kernel_rfl
                      case yzz92 =>
                        refine Or.inl ⟨by rfl, ?_⟩
                        intro w hSw
                        obtain ⟨⟨s0, s1⟩, s2, s3, s4⟩ := hSw
                        go_simp
                        try with_reducible rfl
                      case qzz92 => exact fun _ _ _ h => h
                      case szz92 => first | assumption | trivial
                      case' rzz92 => simp only [Act.put, List.setIfInBounds_toArray, List.set_cons_zero, List.set_cons_succ]
                      refine wpAnyH_take (i := 7) (oi := ?ozz93) (v := ?vzz93) ?hzz93 ?azz93 ?bzz93 ?czz93 ?qzz93 ?yzz93 ?szz93 ?rzz93
                      case hzz93 => simp only [List.getElem?_toArray, List.getElem?_cons_zero, List.getElem?_cons_succ]; rfl
                      case azz93 => kernel_rfl
                      case bzz93 => kernel_rfl
                      case czz93 => kernel_rfl
                      case yzz93 =>
                        refine Or.inl ⟨by rfl, ?_⟩
                        intro w hSw
                        obtain ⟨⟨s0, s1⟩, s2, s3, s4⟩ := hSw
                        go_simp
                        try with_reducible rfl
                      case qzz93 => exact fun _ _ _ h => h
                      case szz93 => first | assumption | trivial
                      case' rzz93 => simp only [Act.put, List.setIfInBounds_toArray, List.set_cons_zero, List.set_cons_succ]
                      refine wpAnyH_take (i := 8) (oi := ?ozz94) (v := ?vzz94) ?hzz94 ?azz94 ?bzz94 ?czz94 ?qzz94 ?yzz94 ?szz94 ?rzz94
                      case hzz94 => simp only [List.getElem?_toArray, List.getElem?_cons_zero, List.getElem?_cons_succ]; rfl
                      case azz94 => kernel_rfl
                      case bzz94 => kernel_rfl
                      case czz94 => kernel_rfl
                      case yzz94 =>
                        refine Or.inl ⟨by rfl, ?_⟩
                        intro w hSw
                        obtain ⟨⟨s0, s1⟩, s2, s3, s4⟩ := hSw
                        go_simp
                        try with_reducible rfl
                      case qzz94 => exact fun _ _ _ h => h
                      case szz94 => first | assumption | trivial
                      case' rzz94 => simp only [Act.put, List.setIfInBounds_toArray, List.set_cons_zero, List.set_cons_succ]
                      refine wpAnyH_ready (rs := [10]) (by kernel_rfl) (by simp) ?_
                      refine AllReadyH.cons (o := ?ozz96) ?hzz96 (fun K hK => ?kzz96) ?mzz96
                      case hzz96 => simp only [List.getElem?_toArray, List.getElem?_cons_zero, List.getElem?_cons_succ]; rfl
                      case kzz96 =>
                        go_simp
                        refine hK.out _ _ ?Szz96 (fun hHeld => ?Rzz96)
                        case Szz96 =>
                          exact ⟨⟨far2_ w5_a (box_ QK c0), far2_ w5_a (box_ QK c1)⟩, far2_ w5_b (box_ QK z0), far2_ w5_b (box_ QK z1), far2_ w5_b (box_ QK z2)⟩
                        case Rzz96 =>
                          clear hK K
                          try simp only [Act.put, List.setIfInBounds_toArray, List.set_cons_zero, List.set_cons_succ]
                          refine wpAnyH_take (i := 11) (oi := ?ozz95) (v := ?vzz95) ?hzz95 ?azz95 ?bzz95 ?czz95 ?qzz95 ?yzz95 ?szz95 ?rzz95
                          case hzz95 => simp only [List.getElem?_toArray, List.getElem?_cons_zero, List.getElem?_cons_succ]; rfl
                          case azz95 => kernel_rfl
                          case bzz95 => kernel_rfl
                          case czz95 => kernel_rfl
                          case yzz95 =>
                            refine Or.inl ⟨by rfl, ?_⟩
                            intro w hSw
                            obtain ⟨⟨s0, s1⟩, s2, s3, s4⟩ := hSw
                            go_simp
                            try with_reducible rfl
                          case qzz95 => exact fun _ _ _ h => h
                          case szz95 => first | assumption | trivial
                          case' rzz95 => simp only [Act.put, List.setIfInBounds_toArray, List.set_cons_zero, List.set_cons_succ]
                          refine wpAnyH_done (by kernel_rfl) ?_ _
                          go_wp2_with fail
                          go_meet
                          exact leafB (g := g) (base := (w5.drew.alloc (.cells #[.slice none 0 0, .slice none 0 0] 40)).heap.size) (by have := w5_g; simp only [World.size_alloc, World.size_drew]; omega) (by simp) (Nat.le_refl _) (BA.out.q q5) o5 t5 QK
                      case' mzz96 => skip
                      exact AllReadyH.nil
                  case' mzz97 => skip
                  exact AllReadyH.nil
              case' mzz99 => skip
              exact AllReadyH.nil
            case rest =>
              obtain ⟨h6, A6, c6, B6, d6, rfl, rfl, x6, o6, t6, q6⟩ := hcut
              have X6 := Lib.hid (X5.out.step q6)
              have B6x := Lib.hid (B5x.out.q q6)
              have C6 := Lib.hid x6
              have O6 := Lib.hid (O5.out.q q6)
              have T6 := Lib.hid (T5.out.q q6)
              have O7 := Lib.hid o6
              have T7 := Lib.hid t6
              clear x6 o6 t6 q6 c0 c1 z0 z1 z2  X5 Z5 B5x O5 T5 Q5
              obtain ⟨c0, c1⟩ := B6x.out.get2.1
              obtain ⟨p0, p1, p2, p3⟩ : _ ∧ _ ∧ _ ∧ _ := ⟨X6.out.bx.get2.1.1, X6.out.bx.get2.1.2, X6.out.bx.get2.2.1, X6.out.bx.get2.2.2⟩
              have X9 := Lib.hid (X6.out.set (s' := T) (Q.refl _) O6.out T6.out)
              go_wp2
              go_roundw
              case rel => exact ⟨j + 1, A5, B5, c5, d5, by omega, by omega, by go_num, by rw [HSt.out]; exact X9.out⟩
              case measure => simp [intOf]; omega
        | false =>
          obtain ⟨c0, c1⟩ := X.out.bx.get2.1
          obtain ⟨z0, z1, z2⟩ := Z.out
          go_wp2
          go_region_held3 (fun w' => w'.cell? ⟨g, 0, none⟩ = some (.slice P T.data.length pc) ∧ w'.cell? ⟨g, 1, none⟩ = some (.slice R T.toks.length rc) ∧ w'.cell? ⟨(ad.add (j * 3)).block, (ad.add (j * 3)).off + 1, none⟩ = some (.string rt))
            (first
              | go_keep
              | (go_split_ands
                 (repeat' apply And.intro) <;> exact box_ ‹Q _ _› (by assumption)))
            (first
              | (go_at_call 22
                 refine (KE.out _ (Q.refl _).drew).mono ?_
                 rintro e w2 ⟨rfl, y2⟩))
          have Q2 := Lib.hid ((Q.refl wr).drew.trans y2)
          have X2 := Lib.hid (X.out.step Q2.out)
          have Z2 := Lib.hid (Z.out.step Q2.out)
          clear y2 c0 c1 z0 z1 z2
          have w2_g : g < w2.heap.size := X2.out.bx.lt
          have w2_a : w2.heap.size ≠ g := by omega
          obtain ⟨c0, c1⟩ := X2.out.bx.get2.1
          obtain ⟨z0, z1, z2⟩ := Z2.out
          have w2_b : w2.heap.size ≠ (ad.add (j * 3)).block := by have := block_lt_of_cell z0; omega
          go_upto_region 7 with (fail)
          have BA := Lib.hid (show Bx (w2.drew.alloc (.cells #[.slice none 0 0, .slice none 0 0] 40)) w2.heap.size [.slice none 0 0, .slice none 0 0] from Bx.new w2.drew [.slice none 0 0, .slice none 0 0] 40)
          go_cut [8, 9] (fun s8 s9 wx => Cq g T er w2 s8 s9 wx)
          case first =>
            refine wp_region_held_drew (S := fun w' => (w'.cell? ⟨g, 0, none⟩ = some (.slice P T.data.length pc) ∧ w'.cell? ⟨g, 1, none⟩ = some (.slice R T.toks.length rc)) ∧ w'.cell? (ad.add (j * 3)) = some (.int .i64 rk) ∧ w'.cell? ⟨(ad.add (j * 3)).block, (ad.add (j * 3)).off + 1, none⟩ = some (.string rt) ∧ w'.cell? ⟨(ad.add (j * 3)).block, (ad.add (j * 3)).off + 2, none⟩ = some (.slice C p q)) (by kernel_rfl) ?szz140 (fun hHeld => ?rzz140)
            case szz140 =>
              exact ⟨⟨c0, c1⟩, z0, z1, z2⟩
            case' rzz140 => skip
            have hC0 := hHeld
            refine wpAnyH_take (i := 0) (oi := ?ozz141) (v := ?vzz141) ?hzz141 ?azz141 ?bzz141 ?czz141 ?qzz141 ?yzz141 ?szz141 ?rzz141
            case hzz141 => simp only [List.getElem?_toArray, List.getElem?_cons_zero]; rfl
            case azz141 => kernel_rfl
            case bzz141 => kernel_rfl
            case czz141 => kernel_rfl
            case yzz141 =>
              refine Or.inl ⟨by rfl, ?_⟩
              intro w hSw
              obtain ⟨⟨s0, s1⟩, s2, s3, s4⟩ := hSw
              go_simp
              try with_reducible rfl
            case qzz141 => exact fun _ _ _ h => h
            case szz141 => first | assumption | trivial
            case' rzz141 => simp only [Act.put, List.setIfInBounds_toArray, List.set_cons_zero, List.set_cons_succ]
            refine wpAnyH_take (i := 1) (oi := ?ozz142) (v := ?vzz142) ?hzz142 ?azz142 ?bzz142 ?czz142 ?qzz142 ?yzz142 ?szz142 ?rzz142
            case hzz142 => simp only [List.getElem?_toArray, List.getElem?_cons_zero, List.getElem?_cons_succ]; rfl
            case azz142 => kernel_rfl
            case bzz142 => kernel_rfl
            case czz142 => kernel_rfl
            case yzz142 =>
              refine Or.inl ⟨by rfl, ?_⟩
              intro w hSw
              obtain ⟨⟨s0, s1⟩, s2, s3, s4⟩ := hSw
              go_simp
              try with_reducible rfl
            case qzz142 => exact fun _ _ _ h => h
            case szz142 => first | assumption | trivial
            case' rzz142 => simp only [Act.put, List.setIfInBounds_toArray, List.set_cons_zero, List.set_cons_succ]
            refine wpAnyH_take (i := 2) (oi := ?ozz143) (v := ?vzz143) ?hzz143 ?azz143 ?bzz143 ?czz143 ?qzz143 ?yzz143 ?szz143 ?rzz143
            case hzz143 => simp only [List.getElem?_toArray, List.getElem?_cons_zero, List.getElem?_cons_succ]; rfl
            case azz143 => kernel_rfl
            case bzz143 => kernel_rfl
            case czz143 => kernel_rfl
            case yzz143 =>
              refine Or.inl ⟨by rfl, ?_⟩
              intro w hSw
              obtain ⟨⟨s0, s1⟩, s2, s3, s4⟩ := hSw
              go_simp
              try with_reducible rfl
            case qzz143 => exact fun _ _ _ h => h
            case szz143 => first | assumption | trivial
            case' rzz143 => simp only [Act.put, List.setIfInBounds_toArray, List.set_cons_zero, List.set_cons_succ]
            refine wpAnyH_take (i := 3) (oi := ?ozz144) (v := ?vzz144) ?hzz144 ?azz144 ?bzz144 ?czz144 ?qzz144 ?yzz144 ?szz144 ?rzz144
            case hzz144 => simp only [List.getElem?_toArray, List.getElem?_cons_zero, List.getElem?_cons_succ]; rfl
            case azz144 => kernel_rfl
            case bzz144 => kernel_rfl
            case czz144 => kernel_rfl
            case yzz144 =>
              refine Or.inl ⟨by rfl, ?_⟩
              intro w hSw
              obtain ⟨⟨s0, s1⟩, s2, s3, s4⟩ := hSw
              go_simp
              try with_reducible rfl
            case qzz144 => exact fun _ _ _ h => h
            case szz144 => first | assumption | trivial
            case' rzz144 => simp only [Act.put, List.setIfInBounds_toArray, List.set_cons_zero, List.set_cons_succ]
            refine wpAnyH_take (i := 4) (oi := ?ozz145) (v := ?vzz145) ?hzz145 ?azz145 ?bzz145 ?czz145 ?qzz145 ?yzz145 ?szz145 ?rzz145
            case hzz145 => simp only [List.getElem?_toArray, List.getElem?_cons_zero, List.getElem?_cons_succ]; rfl
            case azz145 => kernel_rfl
            case bzz145 => kernel_rfl
            case czz145 => kernel_rfl
            case yzz145 =>
              refine Or.inl ⟨by rfl, ?_⟩
              intro w hSw
              obtain ⟨⟨s0, s1⟩, s2, s3, s4⟩ := hSw
              go_simp
              try with_reducible rfl
            case qzz145 => exact fun _ _ _ h => h
            case szz145 => first | assumption | trivial
            case' rzz145 => simp only [Act.put, List.setIfInBounds_toArray, List.set_cons_zero, List.set_cons_succ]
            refine wpAnyH_ready (rs := [5, 9]) (by kernel_rfl) (by simp) ?_
            refine AllReadyH.cons (o := ?ozz158) ?hzz158 (fun K hK => ?kzz158) ?mzz158
            case hzz158 => simp only [List.getElem?_toArray, List.getElem?_cons_zero, List.getElem?_cons_succ]; rfl
            case kzz158 =>
              go_simp
              refine (KD.out _ (Q2.out.trans ((Q.refl w2).drew))).mono ?_
              rintro e v5 ⟨A5, c5, B5, d5, rfl, o5, t5, q5⟩
              try simp only at o5 t5
              have QK : Q w2 v5 := ((Q.refl w2).drew).trans q5
              go_wp2_with fail
              refine hK.out _ _ ?Szz158 (fun hHeld => ?Rzz158)
              case Szz158 =>
                exact ⟨⟨box_ QK c0, box_ QK c1⟩, box_ QK z0, box_ QK z1, box_ QK z2⟩
              case Rzz158 =>
                clear hK K
                try simp only [Act.put, List.setIfInBounds_toArray, List.set_cons_zero, List.set_cons_succ]
                refine wpAnyH_take (i := 6) (oi := ?ozz146) (v := ?vzz146) ?hzz146 ?azz146 ?bzz146 ?czz146 ?qzz146 ?yzz146 ?szz146 ?rzz146
                case hzz146 => simp only [List.getElem?_toArray, List.getElem?_cons_zero, List.getElem?_cons_succ]; rfl
                case azz146 => kernel_rfl
                case bzz146 => kernel_rfl
                case czz146 => kernel_rfl
                case yzz146 =>
                  refine Or.inl ⟨by rfl, ?_⟩
                  intro w hSw
                  obtain ⟨⟨s0, s1⟩, s2, s3, s4⟩ := hSw
                  go_simp
                  try with_reducible rfl
                case qzz146 => exact fun _ _ _ h => h
                case szz146 => first | assumption | trivial
                case' rzz146 => simp only [Act.put, List.setIfInBounds_toArray, List.set_cons_zero, List.set_cons_succ]
                refine wpAnyH_take (i := 7) (oi := ?ozz147) (v := ?vzz147) ?hzz147 ?azz147 ?bzz147 ?czz147 ?qzz147 ?yzz147 ?szz147 ?rzz147
                case hzz147 => simp only [List.getElem?_toArray, List.getElem?_cons_zero, List.getElem?_cons_succ]; rfl
                case azz147 => kernel_rfl
                case bzz147 => kernel_rfl
                case czz147 => kernel_rfl
                case yzz147 =>
                  refine Or.inl ⟨by rfl, ?_⟩
                  intro w hSw
                  obtain ⟨⟨s0, s1⟩, s2, s3, s4⟩ := hSw
                  go_simp
                  try with_reducible rfl
                case qzz147 => exact fun _ _ _ h => h
                case szz147 => first | assumption | trivial
                case' rzz147 => simp only [Act.put, List.setIfInBounds_toArray, List.set_cons_zero, List.set_cons_succ]
                refine wpAnyH_take (i := 8) (oi := ?ozz148) (v := ?vzz148) ?hzz148 ?azz148 ?bzz148 ?czz148 ?qzz148 ?yzz148 ?szz148 ?rzz148
                case hzz148 => simp only [List.getElem?_toArray, List.getElem?_cons_zero, List.getElem?_cons_succ]; rfl
                case azz148 => kernel_rfl
                case bzz148 => kernel_rfl
                case czz148 => kernel_rfl
                case yzz148 =>
                  refine Or.inl ⟨by rfl, ?_⟩
                  intro w hSw
                  obtain ⟨⟨s0, s1⟩, s2, s3, s4⟩ := hSw
                  go_simp
                  try with_reducible rfl
                case qzz148 => exact fun _ _ _ h => h
                case szz148 => first | assumption | trivial
                case' rzz148 => simp only [Act.put, List.setIfInBounds_toArray, List.set_cons_zero, List.set_cons_succ]
                refine wpAnyH_ready (rs := [9]) (by kernel_rfl) (by simp) ?_
                refine AllReadyH.cons (o := ?ozz151) ?hzz151 (fun K hK => ?kzz151) ?mzz151
                case hzz151 => simp only [List.getElem?_toArray, List.getElem?_cons_zero, List.getElem?_cons_succ]; rfl
                case kzz151 =>
                  go_simp
                  refine hK.out _ _ ?Szz151 (fun hHeld => ?Rzz151)
                  case Szz151 =>
                    exact ⟨⟨box_ (QK.alloc _) c0, box_ (QK.alloc _) c1⟩, box_ (QK.alloc _) z0, box_ (QK.alloc _) z1, box_ (QK.alloc _) z2⟩
                  case Rzz151 =>
                    clear hK K
                    try simp only [Act.put, List.setIfInBounds_toArray, List.set_cons_zero, List.set_cons_succ]
                    refine wpAnyH_ready (rs := [10]) (by kernel_rfl) (by simp) ?_
                    refine AllReadyH.cons (o := ?ozz150) ?hzz150 (fun K hK => ?kzz150) ?mzz150
                    case hzz150 => simp only [List.getElem?_toArray, List.getElem?_cons_zero, List.getElem?_cons_succ]; rfl
                    case kzz150 =>
                      go_simp
                      refine hK.out _ _ ?Szz150 (fun hHeld => ?Rzz150)
                      case Szz150 =>
                        exact ⟨⟨box_ (QK.alloc _) c0, box_ (QK.alloc _) c1⟩, box_ (QK.alloc _) z0, box_ (QK.alloc _) z1, box_ (QK.alloc _) z2⟩
                      case Rzz150 =>
                        clear hK K
                        try simp only [Act.put, List.setIfInBounds_toArray, List.set_cons_zero, List.set_cons_succ]
                        refine wpAnyH_take (i := 11) (oi := ?ozz149) (v := ?vzz149) ?hzz149 ?azz149 ?bzz149 ?czz149 ?qzz149 ?yzz149 ?szz149 ?rzz149
                        case hzz149 => simp only [List.getElem?_toArray, List.getElem?_cons_zero, List.getElem?_cons_succ]; rfl
                        case azz149 => kernel_rfl
                        case bzz149 => kernel_rfl
                        case czz149 => kernel_rfl
                        case yzz149 =>
                          refine Or.inl ⟨by rfl, ?_⟩
                          intro w hSw
                          obtain ⟨⟨s0, s1⟩, s2, s3, s4⟩ := hSw
                          go_simp
                          try with_reducible rfl
                        case qzz149 => exact fun _ _ _ h => h
                        case szz149 => first | assumption | trivial
                        case' rzz149 => simp only [Act.put, List.setIfInBounds_toArray, List.set_cons_zero, List.set_cons_succ]
                        refine wpAnyH_done (by kernel_rfl) ?_ _
                        go_wp2_with fail
                        go_meet
                        exact leafA (g := g) (base := w2.drew.heap.size) (by have := w2_g; simp only [World.size_drew]; omega) o5 t5 QK
                    case' mzz150 => skip
                    exact AllReadyH.nil
                case' mzz151 => skip
                exact AllReadyH.nil
            case' mzz158 => skip
            refine AllReadyH.cons (o := ?ozz159) ?hzz159 (fun K hK => ?kzz159) ?mzz159
            case hzz159 => simp only [List.getElem?_toArray, List.getElem?_cons_zero, List.getElem?_cons_succ]; rfl
            case kzz159 =>
              go_simp
              refine hK.out _ _ ?Szz159 (fun hHeld => ?Rzz159)
              case Szz159 =>
                exact ⟨⟨box_ ((Q.refl w2).drew.alloc (.cells #[.slice none 0 0, .slice none 0 0] 40)) c0, box_ ((Q.refl w2).drew.alloc (.cells #[.slice none 0 0, .slice none 0 0] 40)) c1⟩, box_ ((Q.refl w2).drew.alloc (.cells #[.slice none 0 0, .slice none 0 0] 40)) z0, box_ ((Q.refl w2).drew.alloc (.cells #[.slice none 0 0, .slice none 0 0] 40)) z1, box_ ((Q.refl w2).drew.alloc (.cells #[.slice none 0 0, .slice none 0 0] 40)) z2⟩
              case Rzz159 =>
                clear hK K
                try simp only [Act.put, List.setIfInBounds_toArray, List.set_cons_zero, List.set_cons_succ]
                refine wpAnyH_ready (rs := [5]) (by kernel_rfl) (by simp) ?_
                refine AllReadyH.cons (o := ?ozz157) ?hzz157 (fun K hK => ?kzz157) ?mzz157
                case hzz157 => simp only [List.getElem?_toArray, List.getElem?_cons_zero, List.getElem?_cons_succ]; rfl
                case kzz157 =>
                  go_simp
                  refine (KD.out _ (Q2.out.trans ((Q.refl w2).drew.alloc (.cells #[.slice none 0 0, .slice none 0 0] 40)))).mono ?_
                  rintro e v5 ⟨A5, c5, B5, d5, rfl, o5, t5, q5⟩
                  try simp only at o5 t5
                  have QK : Q w2 v5 := ((Q.refl w2).drew.alloc (.cells #[.slice none 0 0, .slice none 0 0] 40)).trans q5
                  obtain ⟨⟨b0, b1⟩, b2, b3⟩ := (BA.out.q q5).get2
                  go_wp2_with fail
                  refine hK.out _ _ ?Szz157 (fun hHeld => ?Rzz157)
                  case Szz157 =>
                    exact ⟨⟨box_ QK c0, box_ QK c1⟩, box_ QK z0, box_ QK z1, box_ QK z2⟩
                  case Rzz157 =>
                    clear hK K
                    try simp only [Act.put, List.setIfInBounds_toArray, List.set_cons_zero, List.set_cons_succ]
                    refine wpAnyH_take (i := 6) (oi := ?ozz152) (v := ?vzz152) ?hzz152 ?azz152 ?bzz152 ?czz152 ?qzz152 ?yzz152 ?szz152 ?rzz152
                    case hzz152 => simp only [List.getElem?_toArray, List.getElem?_cons_zero, List.getElem?_cons_succ]; rfl
                    case azz152 => kernel_rfl
                    case bzz152 => kernel_rfl
                    case czz152 => kernel_rfl
                    case yzz152 =>
                      refine Or.inl ⟨by rfl, ?_⟩
                      intro w hSw
                      obtain ⟨⟨s0, s1⟩, s2, s3, s4⟩ := hSw
                      go_simp
                      try with_reducible rfl
                    case qzz152 => exact fun _ _ _ h => h
                    case szz152 => first | assumption | trivial
                    case' rzz152 => simp only [Act.put, List.setIfInBounds_toArray, List.set_cons_zero, List.set_cons_succ]
                    refine wpAnyH_take (i := 7) (oi := ?ozz153) (v := ?vzz153) ?hzz153 ?azz153 ?bzz153 ?czz153 ?qzz153 ?yzz153 ?szz153 ?rzz153
                    case hzz153 => simp only [List.getElem?_toArray, List.getElem?_cons_zero, List.getElem?_cons_succ]; rfl
                    case azz153 => kernel_rfl
                    case bzz153 => kernel_rfl
                    case czz153 => kernel_rfl
                    case yzz153 =>
                      refine Or.inl ⟨by rfl, ?_⟩
                      intro w hSw
                      obtain ⟨⟨s0, s1⟩, s2, s3, s4⟩ := hSw
                      go_simp
                      try with_reducible rfl
                    case qzz153 => exact fun _ _ _ h => h
                    case szz153 => first | assumption | trivial
                    case' rzz153 => simp only [Act.put, List.setIfInBounds_toArray, List.set_cons_zero, List.set_cons_succ]
                    refine wpAnyH_take (i := 8) (oi := ?ozz154) (v := ?vzz154) ?hzz154 ?azz154 ?bzz154 ?czz154 ?qzz154 ?yzz154 ?szz154 ?rzz154
                    case hzz154 => simp only [List.getElem?_toArray, List.getElem?_cons_zero, List.getElem?_cons_succ]; rfl
                    case azz154 => kernel_rfl
                    case bzz154 => kernel_rfl
                    case czz154 => kernel_rfl
                    case yzz154 =>
                      refine Or.inl ⟨by rfl, ?_⟩
                      intro w hSw
                      obtain ⟨⟨s0, s1⟩, s2, s3, s4⟩ := hSw
                      go_simp
                      try with_reducible rfl
                    case qzz154 => exact fun _ _ _ h => h
                    case szz154 => first | assumption | trivial
                    case' rzz154 => simp only [Act.put, List.setIfInBounds_toArray, List.set_cons_zero, List.set_cons_succ]
                    refine wpAnyH_ready (rs := [10]) (by kernel_rfl) (by simp) ?_
                    refine AllReadyH.cons (o := ?ozz156) ?hzz156 (fun K hK => ?kzz156) ?mzz156
                    case hzz156 => simp only [List.getElem?_toArray, List.getElem?_cons_zero, List.getElem?_cons_succ]; rfl
                    case kzz156 =>
                      go_simp
                      refine hK.out _ _ ?Szz156 (fun hHeld => ?Rzz156)
                      case Szz156 =>
                        exact ⟨⟨far2_ w2_a (box_ QK c0), far2_ w2_a (box_ QK c1)⟩, far2_ w2_b (box_ QK z0), far2_ w2_b (box_ QK z1), far2_ w2_b (box_ QK z2)⟩
                      case Rzz156 =>
                        clear hK K
                        try simp only [Act.put, List.setIfInBounds_toArray, List.set_cons_zero, List.set_cons_succ]
                        refine wpAnyH_take (i := 11) (oi := ?ozz155) (v := ?vzz155) ?hzz155 ?azz155 ?bzz155 ?czz155 ?qzz155 ?yzz155 ?szz155 ?rzz155
                        case hzz155 => simp only [List.getElem?_toArray, List.getElem?_cons_zero, List.getElem?_cons_succ]; rfl
                        case azz155 => kernel_rfl
                        case bzz155 => kernel_rfl
                        case czz155 => kernel_rfl
                        case yzz155 =>
                          refine Or.inl ⟨by rfl, ?_⟩
                          intro w hSw
                          obtain ⟨⟨s0, s1⟩, s2, s3, s4⟩ := hSw
                          go_simp
                          try with_reducible rfl
                        case qzz155 => exact fun _ _ _ h => h
                        case szz155 => first | assumption | trivial
                        case' rzz155 => simp only [Act.put, List.setIfInBounds_toArray, List.set_cons_zero, List.set_cons_succ]
                        refine wpAnyH_done (by kernel_rfl) ?_ _
                        go_wp2_with fail
                        go_meet
                        exact leafB (g := g) (base := (w2.drew.alloc (.cells #[.slice none 0 0, .slice none 0 0] 40)).heap.size) (by have := w2_g; simp only [World.size_alloc, World.size_drew]; omega) (by simp) (Nat.le_refl _) (BA.out.q q5) o5 t5 QK
                    case' mzz156 => skip
                    exact AllReadyH.nil
                case' mzz157 => skip
                exact AllReadyH.nil
            case' mzz159 => skip
            exact AllReadyH.nil
          case rest =>
            obtain ⟨h, A5, c5, B5, d5, rfl, rfl, x3, o3, t3, q3⟩ := hcut
            have X3 := Lib.hid (X2.out.step q3)
            have Z3 := Lib.hid (Z2.out.step q3)
            have B3 := Lib.hid x3
            have O3 := Lib.hid o3
            have T3 := Lib.hid t3
            have Q3 := Lib.hid (Q2.out.trans q3)
            clear x3 o3 t3 q3 c0 c1 z0 z1 z2
            obtain ⟨c0, c1⟩ := B3.out.get2.1
            obtain ⟨z0, z1, z2⟩ := Z3.out
            go_wp2
            go_region_held3 (fun w' => w'.cell? ⟨h, 0, none⟩ = some (.slice A5 T.data.length c5) ∧ w'.cell? ⟨h, 1, none⟩ = some (.slice B5 T.toks.length d5) ∧ w'.cell? ⟨(ad.add (j * 3)).block, (ad.add (j * 3)).off + 1, none⟩ = some (.string rt))
              (first
                | go_keep
                | (go_split_ands
                   (repeat' apply And.intro) <;> exact box_ ‹Q _ _› (by assumption)))
              (first
                | (go_at_call 22
                   refine (KF.out _ A5 c5 B5 d5 (T3.out.q (Q.refl _).drew)).mono ?_
                   rintro e w4 ⟨rfl, y4⟩))
            have QS := Lib.hid ((Q.refl wc).drew.trans y4)
            have X4 := Lib.hid (X3.out.step QS.out)
            have Z4 := Lib.hid (Z3.out.step QS.out)
            have B4 := Lib.hid (B3.out.q QS.out)
            have O4 := Lib.hid (O3.out.q QS.out)
            have T4 := Lib.hid (T3.out.q QS.out)
            have Q4 := Lib.hid (Q3.out.trans QS.out)
            clear y4 c0 c1 z0 z1 z2 X3 Z3 B3 O3 T3 Q3 QS
            obtain ⟨c0, c1⟩ := B4.out.get2.1
            obtain ⟨d0, d1⟩ := X4.out.bx.get2.1
            obtain ⟨z0, z1, z2⟩ := Z4.out
            have w4_g : g < w4.heap.size := X4.out.bx.lt
            have w4_a : w4.heap.size ≠ h := by have := B4.out.lt; omega
            have w4_b : w4.heap.size ≠ (ad.add (j * 3)).block := by have := block_lt_of_cell z0; omega
            go_upto_region 13 with (fail)
            have BA := Lib.hid (show Bx (w4.drew.alloc (.cells #[.slice none 0 0, .slice none 0 0] 40)) w4.heap.size [.slice none 0 0, .slice none 0 0] from Bx.new w4.drew [.slice none 0 0, .slice none 0 0] 40)
            go_cut [12, 13] (fun s8 s9 wx => Cq g T er w4 s8 s9 wx)
            case first =>
              refine wp_region_held_drew (S := fun w' => (w'.cell? ⟨h, 0, none⟩ = some (.slice A5 T.data.length c5) ∧ w'.cell? ⟨h, 1, none⟩ = some (.slice B5 T.toks.length d5)) ∧ w'.cell? (ad.add (j * 3)) = some (.int .i64 rk) ∧ w'.cell? ⟨(ad.add (j * 3)).block, (ad.add (j * 3)).off + 1, none⟩ = some (.string rt) ∧ w'.cell? ⟨(ad.add (j * 3)).block, (ad.add (j * 3)).off + 2, none⟩ = some (.slice C p q)) (by kernel_rfl) ?szz120 (fun hHeld => ?rzz120)
              case szz120 =>
                exact ⟨⟨c0, c1⟩, z0, z1, z2⟩
              case' rzz120 => skip
              have hC0 := hHeld
              refine wpAnyH_take (i := 0) (oi := ?ozz121) (v := ?vzz121) ?hzz121 ?azz121 ?bzz121 ?czz121 ?qzz121 ?yzz121 ?szz121 ?rzz121
              case hzz121 => simp only [List.getElem?_toArray, List.getElem?_cons_zero]; rfl
              case azz121 => kernel_rfl
              case bzz121 => kernel_rfl
              case czz121 => kernel_rfl
              case yzz121 =>
                refine Or.inl ⟨by rfl, ?_⟩
                intro w hSw
                obtain ⟨⟨s0, s1⟩, s2, s3, s4⟩ := hSw
                go_simp
                try with_reducible rfl
              case qzz121 => exact fun _ _ _ h => h
              case szz121 => first | assumption | trivial
              case' rzz121 => simp only [Act.put, List.setIfInBounds_toArray, List.set_cons_zero, List.set_cons_succ]
              refine wpAnyH_take (i := 1) (oi := ?ozz122) (v := ?vzz122) ?hzz122 ?azz122 ?bzz122 ?czz122 ?qzz122 ?yzz122 ?szz122 ?rzz122
              case hzz122 => simp only [List.getElem?_toArray, List.getElem?_cons_zero, List.getElem?_cons_succ]; rfl
              case azz122 => kernel_rfl
              case bzz122 => kernel_rfl
              case czz122 => kernel_rfl
              case yzz122 =>
                refine Or.inl ⟨by rfl, ?_⟩
                intro w hSw
                obtain ⟨⟨s0, s1⟩, s2, s3, s4⟩ := hSw
                go_simp
                try with_reducible rfl
              case qzz122 => exact fun _ _ _ h => h
              case szz122 => first | assumption | trivial
              case' rzz122 => simp only [Act.put, List.setIfInBounds_toArray, List.set_cons_zero, List.set_cons_succ]
              refine wpAnyH_take (i := 2) (oi := ?ozz123) (v := ?vzz123) ?hzz123 ?azz123 ?bzz123 ?czz123 ?qzz123 ?yzz123 ?szz123 ?rzz123
              case hzz123 => simp only [List.getElem?_toArray, List.getElem?_cons_zero, List.getElem?_cons_succ]; rfl
              case azz123 => kernel_rfl
              case bzz123 => kernel_rfl
              case czz123 => kernel_rfl
              case yzz123 =>
                refine Or.inl ⟨by rfl, ?_⟩
                intro w hSw
                obtain ⟨⟨s0, s1⟩, s2, s3, s4⟩ := hSw
                go_simp
                try with_reducible rfl
              case qzz123 => exact fun _ _ _ h => h
              case szz123 => first | assumption | trivial
              case' rzz123 => simp only [Act.put, List.setIfInBounds_toArray, List.set_cons_zero, List.set_cons_succ]
              refine wpAnyH_take (i := 3) (oi := ?ozz124) (v := ?vzz124) ?hzz124 ?azz124 ?bzz124 ?czz124 ?qzz124 ?yzz124 ?szz124 ?rzz124
              case hzz124 => simp only [List.getElem?_toArray, List.getElem?_cons_zero, List.getElem?_cons_succ]; rfl
              case azz124 => kernel_rfl
              case bzz124 => kernel_rfl
              case czz124 => kernel_rfl
              case yzz124 =>
                refine Or.inl ⟨by rfl, ?_⟩
                intro w hSw
                obtain ⟨⟨s0, s1⟩, s2, s3, s4⟩ := hSw
                go_simp
                try with_reducible rfl
              case qzz124 => exact fun _ _ _ h => h
              case szz124 => first | assumption | trivial
              case' rzz124 => simp only [Act.put, List.setIfInBounds_toArray, List.set_cons_zero, List.set_cons_succ]
              refine wpAnyH_take (i := 4) (oi := ?ozz125) (v := ?vzz125) ?hzz125 ?azz125 ?bzz125 ?czz125 ?qzz125 ?yzz125 ?szz125 ?rzz125
              case hzz125 => simp only [List.getElem?_toArray, List.getElem?_cons_zero, List.getElem?_cons_succ]; rfl
              case azz125 => kernel_rfl
              case bzz125 => kernel_rfl
              case czz125 => kernel_rfl
              case yzz125 =>
                refine Or.inl ⟨by rfl, ?_⟩
                intro w hSw
                obtain ⟨⟨s0, s1⟩, s2, s3, s4⟩ := hSw
                go_simp
                try with_reducible rfl
              case qzz125 => exact fun _ _ _ h => h
              case szz125 => first | assumption | trivial
              case' rzz125 => simp only [Act.put, List.setIfInBounds_toArray, List.set_cons_zero, List.set_cons_succ]
              refine wpAnyH_ready (rs := [5, 9]) (by kernel_rfl) (by simp) ?_
              refine AllReadyH.cons (o := ?ozz138) ?hzz138 (fun K hK => ?kzz138) ?mzz138
              case hzz138 => simp only [List.getElem?_toArray, List.getElem?_cons_zero, List.getElem?_cons_succ]; rfl
              case kzz138 =>
                go_simp
                refine (KD2.out _ A5 c5 B5 d5 (O4.out.q ((Q.refl w4).drew)) (T4.out.q ((Q.refl w4).drew)) (Q4.out.trans ((Q.refl w4).drew))).mono ?_
                rintro e v5 ⟨A5, c5, B5, d5, rfl, o5, t5, q5⟩
                try simp only at o5 t5
                have QK : Q w4 v5 := ((Q.refl w4).drew).trans q5
                go_wp2_with fail
                refine hK.out _ _ ?Szz138 (fun hHeld => ?Rzz138)
                case Szz138 =>
                  exact ⟨⟨box_ QK c0, box_ QK c1⟩, box_ QK z0, box_ QK z1, box_ QK z2⟩
                case Rzz138 =>
                  clear hK K
                  try simp only [Act.put, List.setIfInBounds_toArray, List.set_cons_zero, List.set_cons_succ]
                  refine wpAnyH_take (i := 6) (oi := ?ozz126) (v := ?vzz126) ?hzz126 ?azz126 ?bzz126 ?czz126 ?qzz126 ?yzz126 ?szz126 ?rzz126
                  case hzz126 => simp only [List.getElem?_toArray, List.getElem?_cons_zero, List.getElem?_cons_succ]; rfl
                  case azz126 => kernel_rfl
                  case bzz126 => kernel_rfl
                  case czz126 => kernel_rfl
                  case yzz126 =>
                    refine Or.inl ⟨by rfl, ?_⟩
                    intro w hSw
                    obtain ⟨⟨s0, s1⟩, s2, s3, s4⟩ := hSw
                    go_simp
                    try with_reducible rfl
                  case qzz126 => exact fun _ _ _ h => h
                  case szz126 => first | assumption | trivial
                  case' rzz126 => simp only [Act.put, List.setIfInBounds_toArray, List.set_cons_zero, List.set_cons_succ]
                  refine wpAnyH_take (i := 7) (oi := ?ozz127) (v := ?vzz127) ?hzz127 ?azz127 ?bzz127 ?czz127 ?qzz127 ?yzz127 ?szz127 ?rzz127
                  case hzz127 => simp only [List.getElem?_toArray, List.getElem?_cons_zero, List.getElem?_cons_succ]; rfl
                  case azz127 => kernel_rfl
                  case bzz127 => kernel_rfl
                  case czz127 => kernel_rfl
                  case yzz127 =>
                    refine Or.inl ⟨by rfl, ?_⟩
                    intro w hSw
                    obtain ⟨⟨s0, s1⟩, s2, s3, s4⟩ := hSw
                    go_simp
                    try with_reducible rfl
                  case qzz127 => exact fun _ _ _ h => h
                  case szz127 => first | assumption | trivial
                  case' rzz127 => simp only [Act.put, List.setIfInBounds_toArray, List.set_cons_zero, List.set_cons_succ]
                  refine wpAnyH_take (i := 8) (oi := ?ozz128) (v := ?vzz128) ?hzz128 ?azz128 ?bzz128 ?czz128 ?qzz128 ?yzz128 ?szz128 ?rzz128
                  case hzz128 => simp only [List.getElem?_toArray, List.getElem?_cons_zero, List.getElem?_cons_succ]; rfl
                  case azz128 => kernel_rfl
                  case bzz128 => kernel_rfl
                  case czz128 => kernel_rfl
                  case yzz128 =>
                    refine Or.inl ⟨by rfl, ?_⟩
                    intro w hSw
                    obtain ⟨⟨s0, s1⟩, s2, s3, s4⟩ := hSw
                    go_simp
                    try with_reducible rfl
                  case qzz128 => exact fun _ _ _ h => h
                  case szz128 => first | assumption | trivial
                  case' rzz128 => simp only [Act.put, List.setIfInBounds_toArray, List.set_cons_zero, List.set_cons_succ]
                  refine wpAnyH_ready (rs := [9]) (by kernel_rfl) (by simp) ?_
                  refine AllReadyH.cons (o := ?ozz131) ?hzz131 (fun K hK => ?kzz131) ?mzz131
                  case hzz131 => simp only [List.getElem?_toArray, List.getElem?_cons_zero, List.getElem?_cons_succ]; rfl
                  case kzz131 =>
                    go_simp
                    refine hK.out _ _ ?Szz131 (fun hHeld => ?Rzz131)
                    case Szz131 =>
                      exact ⟨⟨box_ (QK.alloc _) c0, box_ (QK.alloc _) c1⟩, box_ (QK.alloc _) z0, box_ (QK.alloc _) z1, box_ (QK.alloc _) z2⟩
                    case Rzz131 =>
                      clear hK K
                      try simp only [Act.put, List.setIfInBounds_toArray, List.set_cons_zero, List.set_cons_succ]
                      refine wpAnyH_ready (rs := [10]) (by kernel_rfl) (by simp) ?_
                      refine AllReadyH.cons (o := ?ozz130) ?hzz130 (fun K hK => ?kzz130) ?mzz130
                      case hzz130 => simp only [List.getElem?_toArray, List.getElem?_cons_zero, List.getElem?_cons_succ]; rfl
                      case kzz130 =>
                        go_simp
                        refine hK.out _ _ ?Szz130 (fun hHeld => ?Rzz130)
                        case Szz130 =>
                          exact ⟨⟨box_ (QK.alloc _) c0, box_ (QK.alloc _) c1⟩, box_ (QK.alloc _) z0, box_ (QK.alloc _) z1, box_ (QK.alloc _) z2⟩
                        case Rzz130 =>
                          clear hK K
                          try simp only [Act.put, List.setIfInBounds_toArray, List.set_cons_zero, List.set_cons_succ]
                          refine wpAnyH_take (i := 11) (oi := ?ozz129) (v := ?vzz129) ?hzz129 ?azz129 ?bzz129 ?czz129 ?qzz129 ?yzz129 ?szz129 ?rzz129
                          case hzz129 => simp only [List.getElem?_toArray, List.getElem?_cons_zero, List.getElem?_cons_succ]; rfl
                          case azz129 => kernel_rfl
                          case bzz129 => kernel_rfl
                          case czz129 => kernel_rfl
                          case yzz129 =>
                            refine Or.inl ⟨by rfl, ?_⟩
                            intro w hSw
                            obtain ⟨⟨s0, s1⟩, s2, s3, s4⟩ := hSw
                            go_simp
                            try with_reducible rfl
                          case qzz129 => exact fun _ _ _ h => h
                          case szz129 => first | assumption | trivial
                          case' rzz129 => simp only [Act.put, List.setIfInBounds_toArray, List.set_cons_zero, List.set_cons_succ]
                          refine wpAnyH_done (by kernel_rfl) ?_ _
                          go_wp2_with fail
                          go_meet
                          exact leafA (g := g) (base := w4.drew.heap.size) (by have := w4_g; simp only [World.size_drew]; omega) o5 t5 QK
                      case' mzz130 => skip
                      exact AllReadyH.nil
                  case' mzz131 => skip
                  exact AllReadyH.nil
              case' mzz138 => skip
              refine AllReadyH.cons (o := ?ozz139) ?hzz139 (fun K hK => ?kzz139) ?mzz139
              case hzz139 => simp only [List.getElem?_toArray, List.getElem?_cons_zero, List.getElem?_cons_succ]; rfl
              case kzz139 =>
                go_simp
                refine hK.out _ _ ?Szz139 (fun hHeld => ?Rzz139)
                case Szz139 =>
                  exact ⟨⟨box_ ((Q.refl w4).drew.alloc (.cells #[.slice none 0 0, .slice none 0 0] 40)) c0, box_ ((Q.refl w4).drew.alloc (.cells #[.slice none 0 0, .slice none 0 0] 40)) c1⟩, box_ ((Q.refl w4).drew.alloc (.cells #[.slice none 0 0, .slice none 0 0] 40)) z0, box_ ((Q.refl w4).drew.alloc (.cells #[.slice none 0 0, .slice none 0 0] 40)) z1, box_ ((Q.refl w4).drew.alloc (.cells #[.slice none 0 0, .slice none 0 0] 40)) z2⟩
                case Rzz139 =>
                  clear hK K
                  try simp only [Act.put, List.setIfInBounds_toArray, List.set_cons_zero, List.set_cons_succ]
                  refine wpAnyH_ready (rs := [5]) (by kernel_rfl) (by simp) ?_
                  refine AllReadyH.cons (o := ?ozz137) ?hzz137 (fun K hK => ?kzz137) ?mzz137
                  case hzz137 => simp only [List.getElem?_toArray, List.getElem?_cons_zero, List.getElem?_cons_succ]; rfl
                  case kzz137 =>
                    go_simp
                    refine (KD2.out _ A5 c5 B5 d5 (O4.out.q ((Q.refl w4).drew.alloc (.cells #[.slice none 0 0, .slice none 0 0] 40))) (T4.out.q ((Q.refl w4).drew.alloc (.cells #[.slice none 0 0, .slice none 0 0] 40))) (Q4.out.trans ((Q.refl w4).drew.alloc (.cells #[.slice none 0 0, .slice none 0 0] 40)))).mono ?_
                    rintro e v5 ⟨A5, c5, B5, d5, rfl, o5, t5, q5⟩
                    try simp only at o5 t5
                    have QK : Q w4 v5 := ((Q.refl w4).drew.alloc (.cells #[.slice none 0 0, .slice none 0 0] 40)).trans q5
                    obtain ⟨⟨b0, b1⟩, b2, b3⟩ := (BA.out.q q5).get2
                    go_wp2_with fail
                    refine hK.out _ _ ?Szz137 (fun hHeld => ?Rzz137)
                    case Szz137 =>
                      exact ⟨⟨box_ QK c0, box_ QK c1⟩, box_ QK z0, box_ QK z1, box_ QK z2⟩
                    case Rzz137 =>
                      clear hK K
                      try simp only [Act.put, List.setIfInBounds_toArray, List.set_cons_zero, List.set_cons_succ]
                      refine wpAnyH_take (i := 6) (oi := ?ozz132) (v := ?vzz132) ?hzz132 ?azz132 ?bzz132 ?czz132 ?qzz132 ?yzz132 ?szz132 ?rzz132
                      case hzz132 => simp only [List.getElem?_toArray, List.getElem?_cons_zero, List.getElem?_cons_succ]; rfl
                      case azz132 => kernel_rfl
                      case bzz132 => kernel_rfl
                      case czz132 => kernel_rfl
                      case yzz132 =>
                        refine Or.inl ⟨by rfl, ?_⟩
                        intro w hSw
                        obtain ⟨⟨s0, s1⟩, s2, s3, s4⟩ := hSw
                        go_simp
                        try with_reducible rfl
                      case qzz132 => exact fun _ _ _ h => h
                      case szz132 => first | assumption | trivial
                      case' rzz132 => simp only [Act.put, List.setIfInBounds_toArray, List.set_cons_zero, List.set_cons_succ]
                      refine wpAnyH_take (i := 7) (oi := ?ozz133) (v := ?vzz133) ?hzz133 ?azz133 ?bzz133 ?czz133 ?qzz133 ?yzz133 ?szz133 ?rzz133
                      case hzz133 => simp only [List.getElem?_toArray, List.getElem?_cons_zero, List.getElem?_cons_succ]; rfl
                      case azz133 => kernel_rfl
                      case bzz133 => kernel_rfl
                      case czz133 => kernel_rfl
                      case yzz133 =>
                        refine Or.inl ⟨by rfl, ?_⟩
                        intro w hSw
                        obtain ⟨⟨s0, s1⟩, s2, s3, s4⟩ := hSw
                        go_simp
                        try with_reducible rfl
                      case qzz133 => exact fun _ _ _ h => h
                      case szz133 => first | assumption | trivial
                      case' rzz133 => simp only [Act.put, List.setIfInBounds_toArray, List.set_cons_zero, List.set_cons_succ]
                      refine wpAnyH_take (i := 8) (oi := ?ozz134) (v := ?vzz134) ?hzz134 ?azz134 ?bzz134 ?czz134 ?qzz134 ?yzz134 ?szz134 ?rzz134
                      case hzz134 => simp only [List.getElem?_toArray, List.getElem?_cons_zero, List.getElem?_cons_succ]; rfl
                      case azz134 => kernel_rfl
                      case bzz134 => kernel_rfl
                      case czz134 => kernel_rfl
                      case yzz134 =>
                        refine Or.inl ⟨by rfl, ?_⟩
                        intro w hSw
                        obtain ⟨⟨s0, s1⟩, s2, s3, s4⟩ := hSw
                        go_simp
                        try with_reducible rfl
                      case qzz134 => exact fun _ _ _ h => h
                      case szz134 => first | assumption | trivial
                      case' rzz134 => simp only [Act.put, List.setIfInBounds_toArray, List.set_cons_zero, List.set_cons_succ]
                      refine wpAnyH_ready (rs := [10]) (by kernel_rfl) (by simp) ?_
                      refine AllReadyH.cons (o := ?ozz136) ?hzz136 (fun K hK => ?kzz136) ?mzz136
                      case hzz136 => simp only [List.getElem?_toArray, List.getElem?_cons_zero, List.getElem?_cons_succ]; rfl
                      case kzz136 =>
                        go_simp
                        refine hK.out _ _ ?Szz136 (fun hHeld => ?Rzz136)
                        case Szz136 =>
                          exact ⟨⟨far2_ w4_a (box_ QK c0), far2_ w4_a (box_ QK c1)⟩, far2_ w4_b (box_ QK z0), far2_ w4_b (box_ QK z1), far2_ w4_b (box_ QK z2)⟩
                        case Rzz136 =>
                          clear hK K
                          try simp only [Act.put, List.setIfInBounds_toArray, List.set_cons_zero, List.set_cons_succ]
                          refine wpAnyH_take (i := 11) (oi := ?ozz135) (v := ?vzz135) ?hzz135 ?azz135 ?bzz135 ?czz135 ?qzz135 ?yzz135 ?szz135 ?rzz135
                          case hzz135 => simp only [List.getElem?_toArray, List.getElem?_cons_zero, List.getElem?_cons_succ]; rfl
                          case azz135 => kernel_rfl
                          case bzz135 => kernel_rfl
                          case czz135 => kernel_rfl
                          case yzz135 =>
                            refine Or.inl ⟨by rfl, ?_⟩
                            intro w hSw
                            obtain ⟨⟨s0, s1⟩, s2, s3, s4⟩ := hSw
                            go_simp
                            try with_reducible rfl
                          case qzz135 => exact fun _ _ _ h => h
                          case szz135 => first | assumption | trivial
                          case' rzz135 => simp only [Act.put, List.setIfInBounds_toArray, List.set_cons_zero, List.set_cons_succ]
                          refine wpAnyH_done (by kernel_rfl) ?_ _
                          go_wp2_with fail
                          go_meet
                          exact leafB (g := g) (base := (w4.drew.alloc (.cells #[.slice none 0 0, .slice none 0 0] 40)).heap.size) (by have := w4_g; simp only [World.size_alloc, World.size_drew]; omega) (by simp) (Nat.le_refl _) (BA.out.q q5) o5 t5 QK
                      case' mzz136 => skip
                      exact AllReadyH.nil
                  case' mzz137 => skip
                  exact AllReadyH.nil
              case' mzz139 => skip
              exact AllReadyH.nil
            case rest =>
              obtain ⟨h6, A6, c6, B6, d6, rfl, rfl, x6, o6, t6, q6⟩ := hcut
              have X6 := Lib.hid (X4.out.step q6)
              have B6x := Lib.hid (B4.out.q q6)
              have C6 := Lib.hid x6
              have O6 := Lib.hid (O4.out.q q6)
              have T6 := Lib.hid (T4.out.q q6)
              have O7 := Lib.hid o6
              have T7 := Lib.hid t6
              clear x6 o6 t6 q6 c0 c1 z0 z1 z2 d0 d1 X4 Z4 B4 O4 T4 Q4
              obtain ⟨c0, c1⟩ := B6x.out.get2.1
              obtain ⟨p0, p1, p2, p3⟩ : _ ∧ _ ∧ _ ∧ _ := ⟨X6.out.bx.get2.1.1, X6.out.bx.get2.1.2, X6.out.bx.get2.2.1, X6.out.bx.get2.2.2⟩
              have X9 := Lib.hid (X6.out.set (s' := T) (Q.refl _) O6.out T6.out)
              go_wp2
              go_roundw
              case rel => exact ⟨j + 1, A5, B5, c5, d5, by omega, by omega, by go_num, by rw [HSt.out]; exact X9.out⟩
              case measure => simp [intOf]; omega
    · have hexit : ¬((j : Int) < (n : Int)) ∨ ((j : Int) < (n : Int) ∧ ¬((j : Int) < 200)) := by
        by_cases h : j < n
        · exact .inr ⟨by omega, by omega⟩
        · exact .inl (by omega)
      clear hlt
      rcases hexit with hx1 | ⟨hx1, hx2⟩
      all_goals
        go_wp2
        go_ret
        exact ⟨by first | rfl | simp, X.out.q⟩
theorem opened (W : World) (args : Array Value) (hn : args.size = 1) (h : ∀ (j : Nat) t v, Try.f7.params[j]? = some t → args[j]? = some v → RdV W t v) :
    Calls Try.prog 7 args W fun e W' => e = .returned (.bool true) ∧ Q W W' := by
  obtain ⟨v, rfl⟩ := args1 hn
  rw [Try.params7] at h
  obtain ⟨A0, n0, c0, rfl, hr⟩ := (h 0 57 v rfl rfl).slice Try.underlying57
  obtain ⟨A, n, c, rl, e, hA, bl, hb, hs⟩ := open_batches hr
  simp only [List.cons.injEq, Value.slice.injEq, and_true] at e
  obtain ⟨rfl, rfl, rfl⟩ := e
  exact walk A0 n0 c0 rl bl W hA hb hs

set_option maxRecDepth 100000 in
theorem lifted (os : Os) (started : os.Started) (H : Type) (enc : TypeId × Value → H) :
    ReturnsInHanded {} Try.checked os 7 .any (Rows.batchOnceSpec.pre6 enc Try.prog Try.f7 Rows.batchOnceRow.domain false) (Rows.batchOnceSpec.post enc Try.prog Try.f7 false true false false) :=
  framed 1 Try.func7 (by rw [Try.params7]; rfl) rfl (by kernel_rfl) (by kernel_rfl) (by kernel_rfl)
    (fun H ds h => by match ds, h with | [d0], _ => exact ⟨rfl, rfl, rfl⟩)
    opened os started H enc
    (ChangeSpec.witness6 (enc := enc) (C := Try.checked) false ⟨#[], #[.slice none 0 0], []⟩ 8 (by kernel_rfl) (by kernel_rfl) (by kernel_rfl) (by kernel_rfl))

theorem over : Rows.batchOnceRow.holds Try.pinned (OpenSpec.ofChange Rows.batchOnceSpec) :=
  OpenClaim.holds_of_wide 7 Try.f7 rfl rfl rfl rfl rfl rfl rfl ⟨rfl, rfl, rfl, rfl, rfl⟩ rfl rfl rfl rfl rfl (by kernel_rfl) Try.func7 (by kernel_rfl)
    (of_decide_eq_true (by kernel_rfl)) (by unfold Func.isWrapper; first | (rw [if_pos (by decide +kernel)]; kernel_rfl) | (rw [if_neg (by decide +kernel)]; exact ⟨rfl, rfl⟩))
    (fun os started H enc _ => lifted os started H enc)

theorem proved : Rows.BatchOnceSaid := over
end Go.Proofs.Ytlbjobbmjccekaa.batchOnce
