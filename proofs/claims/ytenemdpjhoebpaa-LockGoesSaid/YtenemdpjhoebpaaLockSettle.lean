/- Contract: lock.Settle. -/
import Derived.Test.YtenemdpjhoebpaaLockSet
namespace Go.Proofs.Ytenemdpjhoebpaa
set_option maxRecDepth 100000
open Go.RowKit Prm Lm Sm
set_option linter.unusedVariables false
set_option linter.unusedSimpArgs false

set_option maxHeartbeats 8000000 in
set_option maxRecDepth 100000 in
theorem lsettle_any (A0 B0 : Option Addr) (n0 c0 m0 d0 : Nat) (l0 : Lo) (w : World) (hA : In_ holdK w A0 n0 c0 l0.held) (hB : In_ claimK w B0 m0 d0 l0.queue) (hi : LoI l0) (hn : n0 + m0 ≤ 300000) :
    Calls Try.prog 23 #[locV A0 n0 c0 B0 m0 d0] w fun e w' => RetS10 w (Lm.settle l0) e w' := by
  have KO := Lib.hid (fun W q => lown_any A0 B0 n0 c0 m0 d0 l0 W (hA.q q) (hB.q q))
  have HN := Lib.hid hA.len
  have HM := Lib.hid hB.len
  have HI := Lib.hid hi
  rw [settle_is]
  generalize hR : fin l0 [] = R
  have HR := Lib.hid hR
  clear hA hB hR hi
  have HL0 : Hid (Bx ((w.alloc (.cells #[.slice A0 n0 c0, .slice B0 m0 d0] 25)).alloc (.cells #[.slice none 0 0, .slice none 0 0] 25)) w.heap.size [.slice A0 n0 c0, .slice B0 m0 d0] ∧ Bx ((w.alloc (.cells #[.slice A0 n0 c0, .slice B0 m0 d0] 25)).alloc (.cells #[.slice none 0 0, .slice none 0 0] 25)) (w.heap.size + 1) [.slice none 0 0, .slice none 0 0] ∧ Q w ((w.alloc (.cells #[.slice A0 n0 c0, .slice B0 m0 d0] 25)).alloc (.cells #[.slice none 0 0, .slice none 0 0] 25))) := by
    have h3 := Bx.new (w.alloc (.cells #[.slice A0 n0 c0, .slice B0 m0 d0] 25)) [.slice none 0 0, .slice none 0 0] 25
    rw [show (w.alloc (.cells #[.slice A0 n0 c0, .slice B0 m0 d0] 25)).heap.size = w.heap.size + 1 by simp] at h3
    exact Lib.hid ⟨(Bx.new w [.slice A0 n0 c0, .slice B0 m0 d0] 25).alloc _, h3, ((Q.refl w).alloc _).alloc _⟩
  go_enter Try.func23, Try.ntmps23
  go_wp2
  refine wp_scope_again 0 (fun a' w' => ∃ (A : Option Addr) (n c : Nat) (B : Option Addr) (m d : Nat) (C : Option Addr) (p q : Nat) (l : Lo) (os : List Int) (u5 u6 u7 u8 u9 u10 u11 u12 u13 u14 u15 u16 u17 u18 u19 u20 u21 u22 u23 u24 u25 u26 u27 u28 u29 u30 u31 u32 u33 u34 u35 u36 u37 u38 u39 u40 u41 u42 u43 u44 u45 u46 u47 u48 : Value), a' = { tmps := #[locV A0 n0 c0 B0 m0 d0, .pointer (some ⟨w.heap.size, 0, none⟩), .pointer (some ⟨w.heap.size + 1, 0, none⟩), .slice none 0 0, .slice C p q, u5, u6, u7, u8, u9, u10, u11, u12, u13, u14, u15, u16, u17, u18, u19, u20, u21, u22, u23, u24, u25, u26, u27, u28, u29, u30, u31, u32, u33, u34, u35, u36, u37, u38, u39, u40, u41, u42, u43, u44, u45, u46, u47, u48], defers := [] } ∧ Ls w w.heap.size (w.heap.size + 1) A n c B m d C p q l os w' ∧ fin l os = R ∧ LoI l ∧ n + m ≤ 300000 ∧ p + m ≤ 300000) (fun _ w' => cellLen w' ⟨w.heap.size, 1, none⟩) rfl ?pass ?first
  case first =>
    intro KJ
    have HJ := Lib.hid KJ
    clear KJ
    go_upto_region 1 with (fail)
    generalize (w.alloc (.cells #[.slice A0 n0 c0, .slice B0 m0 d0] 25)).alloc (.cells #[.slice none 0 0, .slice none 0 0] 25) = W0 at HL0 ⊢
    obtain ⟨⟨b0, b1⟩, f0, f1⟩ := HL0.out.1.get2
    go_wp2_with fail
    refine (KO.out _ HL0.out.2.2).mono ?_
    rintro e w1 ⟨A1, c1, B1, d1, rfl, o1, o2, q1⟩
    rw [HN.out] at o1 ⊢
    rw [HM.out] at o2 ⊢
    obtain ⟨⟨_, _⟩, f0, f1⟩ := (HL0.out.1.q q1).get2
    have HL := Lib.hid (La.first HL0.out.1 HL0.out.2.1 HL0.out.2.2 q1 o1 o2)
    clear o1 o2 q1 b0 b1
    go_upto_region 2 with (fail)
    generalize (w1.setCell ⟨w.heap.size, 0, none⟩ (.slice A1 n0 c1)).setCell ⟨w.heap.size, 1, none⟩ (.slice B1 m0 d1) = W1 at HL ⊢
    clear f0 f1 HL0
    go_wp2
    go_step3
    rename_i i1 i2 i3 i4 i5 i6
    refine i6 _ _ (HJ.out _ _ ⟨A1, n0, c1, B1, m0, d1, none, 0, 0, l0, [], _, _, _, _, _, _, _, _, _, _, _, _, _, _, _, _, _, _, _, _, _, _, _, _, _, _, _, _, _, _, _, _, _, _, _, _, _, _, _, _, _, _, _, _, rfl, ⟨HL.out, OwnK.nil_ _ _ _⟩, HR.out, HI.out, hn, by omega⟩)
  case pass =>
    clear HL0 KO
    intro a' w' hj
    refine hj.elim fun A hj1 => hj1.elim fun n hj2 => hj2.elim fun c hj3 => hj3.elim fun B hj4 => hj4.elim fun m hj5 => hj5.elim fun d hj6 => hj6.elim fun C hj7 => hj7.elim fun p hj8 => hj8.elim fun q hj9 => hj9.elim fun l hj10 => hj10.elim fun os hj11 => hj11.elim fun u5 hj12 => hj12.elim fun u6 hj13 => hj13.elim fun u7 hj14 => hj14.elim fun u8 hj15 => hj15.elim fun u9 hj16 => hj16.elim fun u10 hj17 => hj17.elim fun u11 hj18 => hj18.elim fun u12 hj19 => hj19.elim fun u13 hj20 => hj20.elim fun u14 hj21 => hj21.elim fun u15 hj22 => hj22.elim fun u16 hj23 => hj23.elim fun u17 hj24 => hj24.elim fun u18 hj25 => hj25.elim fun u19 hj26 => hj26.elim fun u20 hj27 => hj27.elim fun u21 hj28 => hj28.elim fun u22 hj29 => hj29.elim fun u23 hj30 => hj30.elim fun u24 hj31 => hj31.elim fun u25 hj32 => hj32.elim fun u26 hj33 => hj33.elim fun u27 hj34 => hj34.elim fun u28 hj35 => hj35.elim fun u29 hj36 => hj36.elim fun u30 hj37 => hj37.elim fun u31 hj38 => hj38.elim fun u32 hj39 => hj39.elim fun u33 hj40 => hj40.elim fun u34 hj41 => hj41.elim fun u35 hj42 => hj42.elim fun u36 hj43 => hj43.elim fun u37 hj44 => hj44.elim fun u38 hj45 => hj45.elim fun u39 hj46 => hj46.elim fun u40 hj47 => hj47.elim fun u41 hj48 => hj48.elim fun u42 hj49 => hj49.elim fun u43 hj50 => hj50.elim fun u44 hj51 => hj51.elim fun u45 hj52 => hj52.elim fun u46 hj53 => hj53.elim fun u47 hj54 => hj54.elim fun u48 hj55 => ?_
    clear hj hj1 hj2 hj3 hj4 hj5 hj6 hj7 hj8 hj9 hj10 hj11 hj12 hj13 hj14 hj15 hj16 hj17 hj18 hj19 hj20 hj21 hj22 hj23 hj24 hj25 hj26 hj27 hj28 hj29 hj30 hj31 hj32 hj33 hj34 hj35 hj36 hj37 hj38 hj39 hj40 hj41 hj42 hj43 hj44 hj45 hj46 hj47 hj48 hj49 hj50 hj51 hj52 hj53 hj54
    obtain ⟨rfl, hs, hf, hi, hn2, hp2⟩ := hj55
    have NB := Lib.hid (show n ≤ 400000 ∧ m ≤ 400000 ∧ m * 56 ≤ 140737488355328 ∧ (n + 1) * 48 ≤ 140737488355328 ∧ (m = 0 ∨ (p + 1) * 8 ≤ 140737488355328) by omega)
    have HL := Lib.hid hs
    have HF := Lib.hid hf
    have HI2 := Lib.hid hi
    have HBl := Lib.hid hs.la.o2.len
    clear hs hf hi
    obtain ⟨⟨b0, b1⟩, f0, f1⟩ := HL.out.la.b1.get2
    obtain ⟨⟨r0, r1⟩, g0, g1⟩ := HL.out.la.b3.get2
    have hcl := cellLen_is b1
    have HCL := Lib.hid hcl
    clear hcl
    go_wp2
    go_loopw [4, 12] (fun o i wv => ∃ j : Nat, j ≤ m ∧ o = .slice C p q ∧ i = .int .i64 j ∧ seek l 0 = seek l j ∧ Ls w w.heap.size (w.heap.size + 1) A n c B m d C p q l os wv) (fun _ i _ => m - (intOf i).toNat)
    case atStart => exact ⟨0, Nat.zero_le _, rfl, rfl, rfl, HL.out⟩
    case round =>
      obtain ⟨j, hj, rfl, rfl, hsk, hs⟩ := hrel
      have HS := Lib.hid hsk
      have HW := Lib.hid hs
      clear hsk hs b0 b1 f0 f1 r0 r1 g0 g1 HL
      obtain ⟨⟨b0, b1⟩, f0, f1⟩ := HW.out.la.b1.get2
      obtain ⟨⟨r0, r1⟩, g0, g1⟩ := HW.out.la.b3.get2
      by_cases hlt : j < m
      · have hjl : j < l.queue.length := by have := HBl.out; omega
        have hjm : (j : Int) < (m : Int) := by omega
        obtain ⟨gb, rfl⟩ : ∃ gb, B = some ⟨gb, 0, none⟩ := by
          rcases HW.out.la.o2.parts with ⟨_, e, _⟩ | ⟨g, cur, rfl, _⟩
          · omega
          · exact ⟨g, rfl⟩
        have hgb := HW.out.la.o2.block_lt
        have y0 := HW.out.la.o2.cells hjl 0 _ rfl
        have y1 := HW.out.la.o2.cells hjl 1 _ rfl
        have y2 := HW.out.la.o2.cells hjl 2 _ rfl
        have y3 := HW.out.la.o2.cells hjl 3 _ rfl
        have y4 := HW.out.la.o2.cells hjl 4 _ rfl
        have HSk := Lib.hid (seek_at hjl)
        have HFs := Lib.hid (fun hh => fin_some (l := l) (out := os) (i := j) hh hjl)
        have HGi := Lib.hid (HI2.out.give hjl)
        unfold give at HFs HGi
        generalize l.queue[j] = h at y0 y1 y2 y3 y4 HSk HFs HGi
        have y0 : wr.cell? ⟨gb, j * 5, none⟩ = some (.int .i64 h.txn) := y0
        have y1 : wr.cell? ⟨gb, j * 5 + 1, none⟩ = some (.int .i64 h.w.mode) := y1
        have y2 : wr.cell? ⟨gb, j * 5 + 2, none⟩ = some (.string h.w.lo) := y2
        have y3 : wr.cell? ⟨gb, j * 5 + 3, none⟩ = some (.string h.w.hi) := y3
        have y4 : wr.cell? ⟨gb, j * 5 + 4, none⟩ = some (.int .u64 (h.til : Int)) := y4
        have HW2 := Lib.hid (HW.out.step ((Q.refl wr).alloc (.cells #[.int .i64 h.txn, .int .i64 h.w.mode, .string h.w.lo, .string h.w.hi, .int .u64 (h.til : Int)] 55)))
        have HX := Lib.hid (show Bx (wr.alloc (.cells #[.int .i64 h.txn, .int .i64 h.w.mode, .string h.w.lo, .string h.w.hi, .int .u64 (h.til : Int)] 55)) wr.heap.size [.int .i64 h.txn, .int .i64 h.w.mode, .string h.w.lo, .string h.w.hi, .int .u64 (h.til : Int)] from Bx.new wr [.int .i64 h.txn, .int .i64 h.w.mode, .string h.w.lo, .string h.w.hi, .int .u64 (h.til : Int)] 55)
        have b0 := box_ ((Q.refl wr).alloc (.cells #[.int .i64 h.txn, .int .i64 h.w.mode, .string h.w.lo, .string h.w.hi, .int .u64 (h.til : Int)] 55)) b0
        have b1 := box_ ((Q.refl wr).alloc (.cells #[.int .i64 h.txn, .int .i64 h.w.mode, .string h.w.lo, .string h.w.hi, .int .u64 (h.til : Int)] 55)) b1
        have hlr := HW.out.la.b3.lt
        go_wp2_with fail
        generalize wr.alloc (.cells #[.int .i64 h.txn, .int .i64 h.w.mode, .string h.w.lo, .string h.w.hi, .int .u64 (h.til : Int)] 55) = w2 at HW2 HX b0 b1 ⊢
        generalize hcb : wr.heap.size = cb at HX ⊢
        have HCB := Lib.hid (show gb < cb ∧ w.heap.size + 1 < cb ∧ (∀ a, A = some a → a.block < cb) ∧ (∀ a, C = some a → a.block < cb) by
          rw [← hcb]
          exact ⟨by omega, by omega, HW.out.la.o1.under, HW.out.o3.under⟩)
        refine (lblocked_set A gb n c m d l h j _ HW2.out.la.o1.lst (HW2.out.la.o2.in_ NB.out.2.2.1) HI2.out NB.out.1 NB.out.2.1).mono ?_
        rintro e w3 ⟨rfl, q3⟩
        have HW3 := Lib.hid (HW2.out.step q3)
        have HX3 := Lib.hid (HX.out.q q3)
        clear q3 y0 y1 y2 y3 y4 b0 b1 f0 f1 r0 r1 g0 g1 HW2 HX hgb hlr hcb
        have HBD := Lib.hid (blkd_false (l := l) (txn := h.txn) (x := h.w) (N := j))
        cases hbd : blkd l h.txn h.w j with
        | true =>
          have HN3 := Lib.hid (show seek l 0 = seek l (j + 1) by rw [HS.out, HSk.out, if_neg (fun e => by rw [HBD.out.2 e] at hbd; cases hbd)])
          clear hbd
          go_wp2
          go_roundw
          case rel => exact ⟨j + 1, by omega, rfl, by go_num, HN3.out, HW3.out⟩
          case measure => simp [intOf]; omega
        | false =>
          have HG := Lib.hid (HFs.out (show first l = some j by rw [seek_zero, HS.out, HSk.out, if_pos (HBD.out.1 hbd)]))
          clear hbd
          obtain ⟨⟨b0, b1⟩, f0, f1⟩ := HW3.out.la.b1.get2
          obtain ⟨⟨x0, x1, x2, x3, x4⟩, _⟩ := HX3.out.get5
          obtain ⟨m1, rfl⟩ : ∃ m1, m = m1 + 1 := ⟨m - 1, by omega⟩
          have KE := Lib.hid (fun W hh => erase_claim (w.heap.size + 1 + 1) gb m1 d j l.queue W hh hlt)
          have hm64 : (j : Int) + 1 ≤ 9223372036854775807 := by omega
          go_wp2_with fail
          refine (KE.out _ HW3.out.la.o2).mono ?_
          rintro e w4 ⟨rfl, o4, gr4⟩
          have HX4 := Lib.hid ((HX3.out.kept gr4 (by have := HCB.out; omega)).far (p := ⟨w.heap.size, 1, none⟩) (by have := HCB.out; show w.heap.size ≠ cb; omega) (.slice (some ⟨gb, 0, none⟩) m1 d))
          have hgg := HW3.out.la.o2.block_lt.1
          obtain ⟨⟨b0, b1⟩, f0, f1⟩ := (HW3.out.la.b1.kept gr4 (by omega)).get2
          have HW4 := Lib.hid (HW3.out.pushC (Q.refl _) o4 gr4)
          clear o4 gr4 x0 x1 x2 x3 x4 hgg
          go_upto_region 8 with (fail)
          generalize w4.setCell ⟨w.heap.size, 1, none⟩ (.slice (some ⟨gb, 0, none⟩) m1 d) = w5 at HX4 HW4 ⊢
          clear b0 b1 f0 f1
          obtain ⟨⟨b0, b1⟩, f0, f1⟩ := HW4.out.la.b1.get2
          obtain ⟨⟨x0, x1, x2, x3, x4⟩, _⟩ := HX4.out.get5
          have hrl := HW4.out.la.b3.lt
          go_upto_region 9 with (
            at_builtin
            refine wpl_appKG holdK rfl _ _ 22 rfl rfl (w.heap.size + 1 + 1) A n c l.held rfl (HW4.out.la.o1.alloc _) (some ⟨w5.heap.size, 0, none⟩) 1 1 [⟨h.txn, h.w⟩] rfl (by have := lit_hold w5 ⟨h.txn, h.w⟩; simpa using this) (fun e => by cases e) NB.out.2.2.2.1 (by simp; omega) ?_
            intro A6 c6 w6 o6 gr6 _
            have HW6 := Lib.hid (HW4.out.pushH ((Q.refl w5).alloc (.cells #[.int .i64 h.txn, .int .i64 h.w.mode, .string h.w.lo, .string h.w.hi] 52)) o6 gr6)
            have hb6 := Lib.hid (grown_below (HW4.out.la.o1.alloc (.cells #[.int .i64 h.txn, .int .i64 h.w.mode, .string h.w.lo, .string h.w.hi] 52)) gr6 (by simp; omega))
            have HX6 := Lib.hid (((HX4.out.alloc (.cells #[.int .i64 h.txn, .int .i64 h.w.mode, .string h.w.lo, .string h.w.hi] 52)).grown gr6 HCB.out.2.2.1).far (p := ⟨w.heap.size, 0, none⟩) (by have := HCB.out.2.1; show w.heap.size ≠ cb; omega) (.slice A6 (n + 1) c6))
            obtain ⟨⟨b0, b1⟩, f0, f1⟩ := ((HW4.out.la.b1.alloc (.cells #[.int .i64 h.txn, .int .i64 h.w.mode, .string h.w.lo, .string h.w.hi] 52)).below hb6.out (by omega)).get2
            clear o6 gr6)
          generalize w6.setCell ⟨w.heap.size, 0, none⟩ (.slice A6 (n + 1) c6) = w7 at HW6 HX6 ⊢
          obtain ⟨⟨x0, x1, x2, x3, x4⟩, _⟩ := HX6.out.get5
          have hrl := HW6.out.la.b3.lt
          go_wp2_with (
            at_builtin
            refine wpl_appKG numK rfl _ _ 40 rfl rfl (w.heap.size + 1 + 1) C p q os rfl (HW6.out.o3.alloc _) (some ⟨w7.heap.size, 0, none⟩) 1 1 [h.txn] rfl (lst_lit1 w7 h.txn) (fun e => by cases e) (by show (p + 1) * 8 ≤ _; omega) (by simp; omega) ?_
            intro C8 q8 w8 o8 gr8 _
            have HW8 := Lib.hid (HW6.out.tell ((Q.refl w7).alloc (.cells #[.int .i64 h.txn] 3)) o8 gr8)
            clear o8 gr8)
          have hlen8 := cellLen_is (HW8.out.la.b1.get2.1.2)
          have HL8 := Lib.hid hlen8
          clear hlen8
          refine wp_goto ?_
          refine And.intro rfl (And.intro ⟨A6, n + 1, c6, some ⟨gb, 0, none⟩, m1, d, C8, p + 1, q8, ⟨l.held ++ [⟨h.txn, h.w⟩], l.queue.eraseIdx j⟩, os ++ [h.txn], _, _, _, _, _, _, _, _, _, _, _, _, _, _, _, _, _, _, _, _, _, _, _, _, _, _, _, _, _, _, _, _, _, _, _, _, _, _, _, _, _, _, _, _, rfl, HW8.out, (HG.out.symm.trans HF.out), HGi.out, by omega, by omega⟩ ?_)
          show cellLen w8 ⟨w.heap.size, 1, none⟩ < cellLen w' ⟨w.heap.size, 1, none⟩
          rw [HL8.out, HCL.out]
          omega
      · have HE := Lib.hid (show fin l os = (l, os) from fin_none (by rw [seek_zero, HS.out, seek_end (by have := HBl.out; omega)]))
        have HE2 := Lib.hid (show R = (l, os) by rw [← HF.out, HE.out])
        go_wp2
        simp only [Exit.jump]
        refine bodyPost_ret (v := .tuple #[locV A n c B m d, .slice C p q]) (by simp [results, Try.results23, go_sem, r0, r1, g0, g1]) rfl ?_
        rw [HE2.out]
        exact HW.out.fin _ _
end Go.Proofs.Ytenemdpjhoebpaa
