/- For every room and acts: behind every crash what was put and synced is recovered, in order; what is recovered is a beginning of what was put; and the log goes on from there. No condition. -/
import Derived.Test.YtncippafbohgbaaDoorW10
import Derived.Test.YtncippafbohgbaaDoorW9
import Derived.Test.YtncippafbohgbaaDoorW4
namespace Go.Proofs.YtncippafbohgbaaDoor.walLasts
set_option maxRecDepth 100000
open Go.ChangeShapes Go.WideShapes Go.ChangeAt Go.RowKit Dkm Wm Wl
set_option linter.unusedVariables false

theorem walk_neg (room : Int) (L : Option Addr) (n c : Nat) (w : World) (hT : Tab w) (h : room < 0) :
    Calls Tryd.prog 3 #[.int .i64 room, .slice L n c] w fun e w' => e = .returned (.bool true) ∧ Q w w' := by
  go_enter Tryd.func3, Tryd.ntmps3
  go_wp2_with fail
  refine (wshown_any _ hT).mono ?_
  rintro e w1 ⟨rfl, q1⟩
  go_wp2_with fail
  refine (ref_new_neg room _ h).mono ?_
  rintro e w2 ⟨rfl, q2⟩
  go_wp2
  go_ret
  exact ⟨rfl, (q1.trans q2).alloc _⟩

set_option maxRecDepth 100000 in
set_option maxHeartbeats 8000000 in
theorem walk_main (room : Int) (L : Option Addr) (n c : Nat) (ls : List WAct) (w : World) (hT : Tab w) (h0 : 0 ≤ room) (h1 : room ≤ 9223372036854775807) (hl : In_ actK w L n c ls) (ha : ∀ a ∈ ls, ActIn a) :
    Calls Tryd.prog 3 #[.int .i64 room, .slice L n c] w fun e w' => e = .returned (.bool true) ∧ Q w w' := by
  have HT := Lib.hid hT
  have HL := Lib.hid hl
  have HN0 := Lib.hid hl.len
  have hnm := hl.max
  unfold maxLen at hnm
  have HA := Lib.hid ha
  have HI := Lib.hid (Wl.new_in room)
  clear hT hl ha
  go_enter Tryd.func3, Tryd.ntmps3
  go_wp2_with fail
  refine (wshown_any _ HT.out).mono ?_
  rintro e w1 ⟨rfl, q1⟩
  go_wp2_with fail
  refine (ref_new_any room _ h0).mono ?_
  rintro e w2 ⟨rfl, q2⟩
  have Q2 := Lib.hid ((q1.trans q2).alloc (.cells #[.slice none 0 0, .int .i64 room, .int .i64 (-1), .bool false] 26))
  have B2 := Lib.hid ((Bx.new w2 [.slice none 0 0, .int .i64 room, .int .i64 (-1), .bool false] 26).get4.1)
  have B2 : Hid ((w2.alloc (.cells #[.slice none 0 0, .int .i64 room, .int .i64 (-1), .bool false] 26)).cell? ⟨w2.heap.size, 0, none⟩ = some (.slice none 0 0) ∧ (w2.alloc (.cells #[.slice none 0 0, .int .i64 room, .int .i64 (-1), .bool false] 26)).cell? ⟨w2.heap.size, 1, none⟩ = some (.int .i64 room) ∧ (w2.alloc (.cells #[.slice none 0 0, .int .i64 room, .int .i64 (-1), .bool false] 26)).cell? ⟨w2.heap.size, 2, none⟩ = some (.int .i64 (-1)) ∧ (w2.alloc (.cells #[.slice none 0 0, .int .i64 room, .int .i64 (-1), .bool false] 26)).cell? ⟨w2.heap.size, 3, none⟩ = some (.bool false)) := Lib.hid B2.out
  clear q1 q2
  go_upto_region 5 with (fail)
  generalize w2.alloc (.cells #[.slice none 0 0, .int .i64 room, .int .i64 (-1), .bool false] 26) = W2 at B2 Q2 ⊢
  obtain ⟨d0, d1, d2, d3⟩ := B2.out
  clear B2
  have R0 : Hid (Rl w W2.heap.size 0 (W2.alloc (.cells #[.slice none 0 0, .int .i64 room, .int .i64 (-1), .bool false, .int .i64 1, .slice none 0 0, .int .i64 0, .bool false] 31))) := Lib.hid ⟨none, 0, 0, none, 0, 0, ⟨⟨[], room, -1, false⟩, 1, [], 0, false⟩,
    ⟨Bx.new W2 [.slice none 0 0, .int .i64 room, .int .i64 (-1), .bool false, .int .i64 1, .slice none 0 0, .int .i64 0, .bool false] 31, dsk_nil _, Holds.none_ _ _ _ _, ⟨fun _ => ⟨rfl, rfl⟩, Nat.le_refl _, Nat.zero_le _⟩, bnd0 ⟨by omega, by omega⟩, HI.out, Nat.zero_le _, Q2.out.size, Q2.out.alloc _⟩⟩
  go_wp2
  generalize (W2.alloc (.cells #[.slice none 0 0, .int .i64 room, .int .i64 (-1), .bool false, .int .i64 1, .slice none 0 0, .int .i64 0, .bool false] 31)) = W at R0 ⊢
  generalize W2.heap.size = B at R0 ⊢
  clear d0 d1 d2 d3
  go_loopw [9] (fun i wr => ∃ k : Nat, k ≤ n ∧ k ≤ 150 ∧ i = .int .i64 (k : Nat) ∧ Rl w B k wr) (fun i _ => n - (intOf i).toNat)
  case atStart => exact ⟨0, Nat.zero_le _, by omega, rfl, R0.out⟩
  case round =>
    obtain ⟨k, hk, hk3, rfl, A, m, cc, Pa, pn, pc, lw, hr⟩ := hrel
    have HR := Lib.hid hr
    clear hr R0
    by_cases hlt : k < n ∧ k < 150
    · obtain ⟨hlt, hlt3⟩ := hlt
      have hkl : k < ls.length := by have := HN0.out; omega
      obtain ⟨ad, hA, hb, a0, a1, a2⟩ := load_act (HL.out.q HR.out.q).lst hlt hkl
      have HAk := Lib.hid (HA.out _ (List.getElem_mem hkl))
      generalize hax : ls[k] = a at a0 a1 a2 HAk
      have HX := Lib.hid hax
      clear hax
      subst hA
      have i1 : (k : Int) < (n : Int) := by omega
      have i2 : 0 ≤ (k : Int) := by omega
      have i4 : decide ((k : Int) < 150) = true := decide_eq_true (by omega)
      by_cases h4 : a.kind = 4
      · obtain ⟨kind, num, s⟩ := a
        simp only at a0 a1 a2 h4 HAk
        subst h4
        have hmm : m * 48 ≤ 140737488355328 := HR.out.dsk.few
        obtain ⟨⟨e0, e1, e2, e3, e4, e5, e6, e7⟩, f0, f1, f2, f3, f4, f5, f6, f7⟩ := HR.out.box.get8
        generalize wr = v0 at HR hb a0 a1 a2 e0 e1 e2 e3 e4 e5 e6 e7 f0 f1 f2 f3 f4 f5 f6 f7 ⊢
        go_wp2
        go_loopw [10, 11] (fun v i wr => ∃ j A2 c2, j ≤ m ∧ i = .int .i64 (j : Nat) ∧ v = .slice A2 j c2 ∧ OwnK numK wr v0.heap.size A2 j c2 (List.replicate j num) ∧ Q v0 wr) (fun _ i _ => m - (intOf i).toNat)
        case atStart => exact ⟨0, none, 0, Nat.zero_le _, rfl, rfl, OwnK.nil_ _ _ _, Q.refl _⟩
        case round =>
          obtain ⟨j, A2, c2, hj, rfl, rfl, ho, hq⟩ := hrel
          have HO := Lib.hid ho
          have HQ := Lib.hid hq
          clear ho hq
          have u0 := box_ HQ.out e0
          have b1 := box_ HQ.out a1
          by_cases hjm : j < m
          · have i3 : (j : Int) < (m : Int) := by omega
            go_wp2_with (at_builtin
                         refine wpl_appK numK rfl (.tmp 64) (.tmp 70) 35 rfl rfl v0.heap.size A2 j c2 (List.replicate j num) rfl (HO.out.alloc (.cells #[.int .i64 num] 3)) (some ⟨wr.heap.size, 0, none⟩) 1 1 [num] rfl (lst_lit1 wr num) (fun e => by cases e) (by show (j + 1) * 8 ≤ _; omega) (by have := HQ.out.size; simp; omega) ?_
                         intro A3 c3 w4 ho3 hb3)
            go_roundw
            case rel => exact ⟨j + 1, A3, c3, by omega, by go_num, rfl, by rw [List.replicate_succ']; exact ho3, (HQ.out.alloc (.cells #[.int .i64 num] 3)).below.trans hb3⟩
            case measure => simp [intOf]; omega
          · have ej : m = j := by omega
            subst ej
            have HR3 := Lib.hid (HR.out.step HQ.out)
            have HI3 := Lib.hid (Lst.ints HO.out.lst)
            have CI := Lib.hid (Wl.crash_in HR.out.inv (List.replicate m num))
            have CB := Lib.hid (HR.out.bnd.crsL (List.replicate m num))
            have RB := Lib.hid (CB.out.recM (by omega) 1)
            have KC := Lib.hid (show Calls Tryd.prog 8 #[dkv A m cc lw.d.room lw.d.fuse lw.d.off, .slice A2 m c2] wr fun e w' => RetD wr (crs lw.d (List.replicate m num)) e w' from ref_crash A m cc lw.d.room lw.d.fuse lw.d.off A2 m c2 (List.replicate m num) lw.d.fs wr HR3.out.dsk HI3.out (by unfold maxLen; omega) (fun f hf => Nat.le_trans (HR.out.bnd.sum f hf) (by unfold maxLen; omega)))
            generalize crs lw.d (List.replicate m num) = y at KC CI CB RB
            have KR := Lib.hid (fun A n c W (q : Q v0 W) hd => recover_any 1 A n c y W (HT.out.q (HR.out.q.trans q)) hd CB.out)
            rcases hy : recM y 1 with ⟨x1, recs, last, er⟩
            rw [hy] at CI KR RB
            have HLp : Hid (pn = lw.put.length) := Lib.hid HR.out.put.len.symm
            clear hy i1 i2 e0 e1 e2 e3 e4 e5 e6 e7 f0 f1 f2 f3 f4 f5 f6 f7 u0 b1 a0 a1 a2
            obtain ⟨⟨e0, e1, e2, e3, e4, e5, e6, e7⟩, f0, f1, f2, f3, f4, f5, f6, f7⟩ := HR3.out.box.get8
            have CFew := Lib.hid CB.out.few
            go_wp2_with fail
            refine KC.out.mono ?_
            rintro e w4 ⟨A4, n4, c4, rfl, ho4, q4⟩
            have HD4 := Lib.hid (ho4.dsk (by have h1 := ho4.len; have h2 := CFew.out; omega))
            have Q4 := Lib.hid (HQ.out.trans q4)
            clear ho4 q4
            go_wp2_with fail
            refine (KR.out A4 n4 c4 w4 Q4.out HD4.out).mono ?_
            rintro e w5 ⟨A5, n5, c5, L5, ln, lc, rfl, hd5, hf5, hl5, q5⟩
            have HD5 := Lib.hid hd5
            have HL5 := Lib.hid hl5
            have NL5 := Lib.hid (own_nl hl5)
            have Q5 := Lib.hid ((Q4.out.trans q5).alloc (.cells #[.slice A5 n5 c5, .int .i64 x1.room, .int .i64 x1.fuse, .bool x1.off] 26))
            have QA := Lib.hid ((Q.refl w5).alloc (.cells #[.slice A5 n5 c5, .int .i64 x1.room, .int .i64 x1.fuse, .bool x1.off] 26))
            clear hd5 hf5 hl5 q5 e0 e1 e2 e3 e4 e5 e6 e7 f0 f1 f2 f3 f4 f5 f6 f7
            have X5 := Lib.hid (Bx.new w5 [.slice A5 n5 c5, .int .i64 x1.room, .int .i64 x1.fuse, .bool x1.off] 26)
            have X5 : Hid (Bx (w5.alloc (.cells #[.slice A5 n5 c5, .int .i64 x1.room, .int .i64 x1.fuse, .bool x1.off] 26)) w5.heap.size [.slice A5 n5 c5, .int .i64 x1.room, .int .i64 x1.fuse, .bool x1.off]) := Lib.hid X5.out
            go_upto_region 17 with (fail)
            generalize w5.alloc (.cells #[.slice A5 n5 c5, .int .i64 x1.room, .int .i64 x1.fuse, .bool x1.off] 26) = W5 at Q5 QA X5 ⊢
            rcases CI.out with c5e | ⟨c0, cp, cs, cr, ci⟩
            · try simp only at c5e
              subst c5e
              clear CI
              go_wp2
              go_ret
              exact ⟨rfl, HR.out.q.trans Q5.out⟩
            · try simp only at c0 cp cs cr ci
              subst c0
              have HR5 := Lib.hid (HR.out.step Q5.out)
              have HLn : Hid (recs.length = ln) := Lib.hid HL5.out.len
              have KB := Lib.hid (decide_eq_true cp ▸ begins_any L5 Pa ln lc pn pc recs lw.put W5 (HL5.out.strs.q QA.out) HR5.out.put HR5.out.nl.2.1 HR5.out.nl.1 HR5.out.nl.2.2 (Nat.le_trans NL5.out.2.1 NL5.out.2.2))
              have s1 : decide ((ln : Int) < (lw.safe : Int)) = false := decide_eq_false (by have := HLn.out; omega)
              have s2 : decide (ln < lw.safe) = false := decide_eq_false (by have := HLn.out; omega)
              have s3 : (last != last) = false := by simp
              have CR := Lib.hid cr
              have CN := Lib.hid ci
              have CP := Lib.hid cp
              clear CI cp cs cr ci
              obtain ⟨⟨e0, e1, e2, e3, e4, e5, e6, e7⟩, f0, f1, f2, f3, f4, f5, f6, f7⟩ := HR5.out.box.get8
              go_wp2_with fail
              refine KB.out.mono ?_
              rintro e w6 ⟨rfl, q6⟩
              have HR6 := Lib.hid (HR5.out.step q6)
              have QB := Lib.hid (QA.out.trans q6)
              have X6 := Lib.hid (X5.out.q q6)
              clear e0 e1 e2 e3 e4 e5 e6 e7 f0 f1 f2 f3 f4 f5 f6 f7 q6
              obtain ⟨⟨e0, e1, e2, e3, e4, e5, e6, e7⟩, f0, f1, f2, f3, f4, f5, f6, f7⟩ := HR6.out.box.get8
              obtain ⟨⟨x0, x1', x2, x3⟩, _⟩ := X6.out.get4
              have KR2 := Lib.hid (recover_any 1 A5 n5 c5 x1 w6 (HT.out.q HR6.out.q) (HD5.out.q QB.out) RB.out)
              rw [CR.out] at KR2
              go_wp2_with fail
              refine KR2.out.mono ?_
              rintro e w7 ⟨A7, n7, c7, L7, ln7, lc7, rfl, hd7, hf7, hl7, q7⟩
              have HD7 := Lib.hid hd7
              have HL7 := Lib.hid hl7
              have QC := Lib.hid (q7.alloc (.cells #[.slice A7 n7 c7, .int .i64 x1.room, .int .i64 x1.fuse, .bool x1.off] 26))
              have QA7 := Lib.hid ((Q.refl w7).alloc (.cells #[.slice A7 n7 c7, .int .i64 x1.room, .int .i64 x1.fuse, .bool x1.off] 26))
              have X7 := Lib.hid (Bx.new w7 [.slice A7 n7 c7, .int .i64 x1.room, .int .i64 x1.fuse, .bool x1.off] 26)
              have X7 : Hid (Bx (w7.alloc (.cells #[.slice A7 n7 c7, .int .i64 x1.room, .int .i64 x1.fuse, .bool x1.off] 26)) w7.heap.size [.slice A7 n7 c7, .int .i64 x1.room, .int .i64 x1.fuse, .bool x1.off]) := Lib.hid X7.out
              clear hd7 hf7 hl7 q7 e0 e1 e2 e3 e4 e5 e6 e7 f0 f1 f2 f3 f4 f5 f6 f7 x0 x1' x2 x3
              go_upto_region 23 with (fail)
              generalize w7.alloc (.cells #[.slice A7 n7 c7, .int .i64 x1.room, .int .i64 x1.fuse, .bool x1.off] 26) = W7 at QC QA7 X7 ⊢
              have HR7 := Lib.hid (HR6.out.step QC.out)
              have KS := Lib.hid (decide_eq_true (rfl : recs = recs) ▸ same_strs L5 L7 ln lc ln7 lc7 recs recs W7 (HL5.out.strs.q (QB.out.trans QC.out)) (HL7.out.strs.q QA7.out) (Nat.le_trans NL5.out.2.1 NL5.out.2.2))
              go_wp2_with fail
              refine KS.out.mono ?_
              rintro e w8 ⟨rfl, q8⟩
              have HR8 := Lib.hid (HR7.out.step q8)
              have Y8 := Lib.hid (X7.out.q q8)
              have Z8 := Lib.hid (X6.out.q (QC.out.trans q8))
              have QD := Lib.hid (QB.out.trans (QC.out.trans q8))
              have QE := Lib.hid (QA7.out.trans q8)
              clear q8
              obtain ⟨⟨x0, x1', x2, x3⟩, _⟩ := Y8.out.get4
              obtain ⟨⟨z0, z1, z2, z3⟩, _⟩ := Z8.out.get4
              have KM := Lib.hid (sameD_self x1 ▸ ref_same_any A5 A7 n5 c5 n7 c7 x1 x1 w8 (HD5.out.q QD.out).files (HD7.out.q QE.out).files HD5.out.max HD7.out.max)
              go_wp2_with fail
              refine KM.out.mono ?_
              rintro e w9 ⟨rfl, q9⟩
              have HR9 := Lib.hid (HR8.out.step q9)
              have Y9 := Lib.hid (Y8.out.q q9)
              have DS := Lib.hid (HR9.out.set (k2 := k + 1) (lw2 := ⟨x1, last, recs, lw.safe, false⟩) ((HD7.out.q QE.out).q q9) ((HL5.out.strs.q QD.out).q q9) NL5.out RB.out CN.out (by have h1 := CP.out.length_le; have h2 := HR.out.few; show recs.length ≤ _; omega))
              clear q9 x0 x1' x2 x3 z0 z1 z2 z3
              obtain ⟨⟨e0, e1, e2, e3, e4, e5, e6, e7⟩, f0, f1, f2, f3, f4, f5, f6, f7⟩ := HR9.out.box.get8
              obtain ⟨⟨x0, x1', x2, x3⟩, _⟩ := Y9.out.get4
              go_upto_region 8 with (fail)
              generalize ((((((((w9.setCell ⟨B, 0, none⟩ (.slice A7 n7 c7)).setCell ⟨B, 1, none⟩ (.int .i64 x1.room)).setCell ⟨B, 2, none⟩ (.int .i64 x1.fuse)).setCell ⟨B, 3, none⟩ (.bool x1.off)).setCell ⟨B, 4, none⟩ (.int .i64 last)).setCell ⟨B, 5, none⟩ (.slice L5 ln lc)).setCell ⟨B, 6, none⟩ (.int .i64 (lw.safe : Int))).setCell ⟨B, 7, none⟩ (.bool false)) = WA at DS ⊢
              go_wp2
              go_roundw
              case rel => exact ⟨k + 1, by omega, by omega, by go_num, DS.out⟩
              case measure => simp [intOf]; omega

      · have e4 : (a.kind == 4) = false := by simpa using h4
        have e4' : (a.kind != 4) = true := by simpa using h4
        have HF : Hid (pn = lw.put.length) := Lib.hid HR.out.put.len.symm
        have KD := Lib.hid (fun W (q : Q wr W) => wdoes_any a A m cc Pa pn pc lw W (HT.out.q (HR.out.q.trans q)) (HR.out.dsk.q q) (HR.out.bnd.wider (by omega)) (HR.out.put.q q) HR.out.nl (by have := HAk.out.2.2; unfold maxLen; omega) (by have h1 := HF.out; have h2 := HR.out.few; omega))
        have HB2 := Lib.hid (acts_bnd HR.out.bnd (by omega) a HAk.out.2.1)
        have HI2 := Lib.hid (acts_in HR.out.inv a)
        have HF2 := Lib.hid (show (lw.acts a).put.length ≤ k + 1 by have h1 := acts_len lw a; have h2 := HR.out.few; omega)
        generalize lw.acts a = r at KD HB2 HI2 HF2
        obtain ⟨kind, num, s⟩ := a
        simp only at a0 a1 a2 e4 e4'
        clear h4
        obtain ⟨⟨e0, e1, e2, e3, e4, e5, e6, e7⟩, f0, f1, f2, f3, f4, f5, f6, f7⟩ := HR.out.box.get8
        go_upto_region 10 with (fail)
        have QW := Lib.hid (Q.refl wr)
        refine wp_region_heldL 6 (Q wr) (by kernel_rfl) ?szz0 (fun hHeld => ?rzz0)
        case szz0 =>
          exact (Q.refl wr).drew
        case' rzz0 => skip
        refine wpAnyL_take (i := 0) (oi := ?ozz1) (v := ?vzz1) ?hzz1 ?azz1 ?bzz1 ?czz1 ?kzz1 ?qzz1 ?yzz1 ?szz1 ?rzz1
        case hzz1 => simp only [List.getElem?_toArray, List.getElem?_cons_zero]; rfl
        case azz1 => kernel_rfl
        case bzz1 => kernel_rfl
        case czz1 => kernel_rfl
        case kzz1 => kernel_rfl
        case yzz1 =>
          refine Or.inl ⟨by rfl, ?_⟩
          intro w hSw
          have x0 := box_ hSw e0; have x1 := box_ hSw e1; have x2 := box_ hSw e2; have x3 := box_ hSw e3; have x4 := box_ hSw e4; have x5 := box_ hSw e5; have x6 := box_ hSw e6; have x7 := box_ hSw e7; clear hSw
          go_simp
          try with_reducible rfl
        case qzz1 => exact fun _ _ _ h => h
        case szz1 => first | assumption | trivial
        case' rzz1 => simp only [Act.put, List.setIfInBounds_toArray, List.set_cons_zero, List.set_cons_succ]
        refine wpAnyL_take (i := 1) (oi := ?ozz2) (v := ?vzz2) ?hzz2 ?azz2 ?bzz2 ?czz2 ?kzz2 ?qzz2 ?yzz2 ?szz2 ?rzz2
        case hzz2 => simp only [List.getElem?_toArray, List.getElem?_cons_zero, List.getElem?_cons_succ]; rfl
        case azz2 => kernel_rfl
        case bzz2 => kernel_rfl
        case czz2 => kernel_rfl
        case kzz2 => kernel_rfl
        case yzz2 =>
          refine Or.inl ⟨by rfl, ?_⟩
          intro w hSw
          skip
          go_simp
          try with_reducible rfl
        case qzz2 => exact fun _ _ _ h => h
        case szz2 => first | assumption | trivial
        case' rzz2 => simp only [Act.put, List.setIfInBounds_toArray, List.set_cons_zero, List.set_cons_succ]
        refine wpAnyL_take (i := 2) (oi := ?ozz3) (v := ?vzz3) ?hzz3 ?azz3 ?bzz3 ?czz3 ?kzz3 ?qzz3 ?yzz3 ?szz3 ?rzz3
        case hzz3 => simp only [List.getElem?_toArray, List.getElem?_cons_zero, List.getElem?_cons_succ]; rfl
        case azz3 => kernel_rfl
        case bzz3 => kernel_rfl
        case czz3 => kernel_rfl
        case kzz3 => kernel_rfl
        case yzz3 =>
          refine Or.inl ⟨by rfl, ?_⟩
          intro w hSw
          skip
          go_simp
          try with_reducible rfl
        case qzz3 => exact fun _ _ _ h => h
        case szz3 => first | assumption | trivial
        case' rzz3 => simp only [Act.put, List.setIfInBounds_toArray, List.set_cons_zero, List.set_cons_succ]
        refine wpAnyL_take (i := 3) (oi := ?ozz4) (v := ?vzz4) ?hzz4 ?azz4 ?bzz4 ?czz4 ?kzz4 ?qzz4 ?yzz4 ?szz4 ?rzz4
        case hzz4 => simp only [List.getElem?_toArray, List.getElem?_cons_zero, List.getElem?_cons_succ]; rfl
        case azz4 => kernel_rfl
        case bzz4 => kernel_rfl
        case czz4 => kernel_rfl
        case kzz4 => kernel_rfl
        case yzz4 =>
          refine Or.inl ⟨by rfl, ?_⟩
          intro w hSw
          skip
          go_simp
          try with_reducible rfl
        case qzz4 => exact fun _ _ _ h => h
        case szz4 => first | assumption | trivial
        case' rzz4 => simp only [Act.put, List.setIfInBounds_toArray, List.set_cons_zero, List.set_cons_succ]
        refine wpAnyL_take (i := 4) (oi := ?ozz5) (v := ?vzz5) ?hzz5 ?azz5 ?bzz5 ?czz5 ?kzz5 ?qzz5 ?yzz5 ?szz5 ?rzz5
        case hzz5 => simp only [List.getElem?_toArray, List.getElem?_cons_zero, List.getElem?_cons_succ]; rfl
        case azz5 => kernel_rfl
        case bzz5 => kernel_rfl
        case czz5 => kernel_rfl
        case kzz5 => kernel_rfl
        case yzz5 =>
          refine Or.inl ⟨by rfl, ?_⟩
          intro w hSw
          have y0 := box_ hSw a0; have y1 := box_ hSw a1; have y2 := box_ hSw a2; clear hSw
          go_simp
          try with_reducible rfl
        case qzz5 => exact fun _ _ _ h => h
        case szz5 => first | assumption | trivial
        case' rzz5 => simp only [Act.put, List.setIfInBounds_toArray, List.set_cons_zero, List.set_cons_succ]
        refine wpAnyL_ready (rs := [5]) (by kernel_rfl) (by simp) ?_
        refine AllReadyL.cons (o := ?ozz7) ?hzz7 (fun K hK => ?kzz7) ?mzz7
        case hzz7 => simp only [List.getElem?_toArray, List.getElem?_cons_zero, List.getElem?_cons_succ]; rfl
        case kzz7 =>
          go_simp
          refine (KD.out _ hHeld).mono ?_
          rintro e w5 ⟨A5, n5, c5, P5, pn5, pc5, rfl, hd5, hp5, hn5, q5⟩
          have Z5 := Lib.hid (And.intro hd5 (And.intro hp5 (And.intro hn5 q5)))
          have HX := Lib.hid hHeld
          go_wp2_with fail
          refine hK.out _ _ ?Szz7 (fun hHeld => ?Rzz7)
          case Szz7 =>
            exact hHeld.trans q5
          case Rzz7 =>
            clear hK K
            try simp only [Act.put, List.setIfInBounds_toArray, List.set_cons_zero, List.set_cons_succ]
            refine wpAnyL_ready (rs := [6]) (by kernel_rfl) (by simp) ?_
            refine AllReadyL.consK (o := ?ozz6) ?hzz6 ?lzz6 (fun K hK => ?kzz6) ?mzz6
            case hzz6 => simp only [List.getElem?_toArray, List.getElem?_cons_zero, List.getElem?_cons_succ]; rfl
            case lzz6 => kernel_rfl
            case kzz6 =>
              obtain ⟨⟨p0, p1, p2, p3, p4, p5, p6, p7⟩, g0, g1, g2, g3, g4, g5, g6, g7⟩ := ((HR.out.step HX.out).step Z5.out.2.2.2).box.get8
              go_simp
              refine hK.out _ _ ?Rzz6
              case Rzz6 =>
                clear hK K
                try simp only [Act.put, List.setIfInBounds_toArray, List.set_cons_zero, List.set_cons_succ]
                refine wpAnyH_done (by kernel_rfl) ?_ _
                have HN := Lib.hid (((HR.out.step HX.out).step Z5.out.2.2.2).set (k2 := k + 1) Z5.out.1 Z5.out.2.1 Z5.out.2.2.1 HB2.out HI2.out HF2.out)
                clear p0 p1 p2 p3 p4 p5 p6 p7 g0 g1 g2 g3 g4 g5 g6 g7
                generalize ((((((((w5.setCell ⟨B, 0, none⟩ (.slice A5 n5 c5)).setCell ⟨B, 1, none⟩ (.int .i64 r.d.room)).setCell ⟨B, 2, none⟩ (.int .i64 r.d.fuse)).setCell ⟨B, 3, none⟩ (.bool r.d.off)).setCell ⟨B, 4, none⟩ (.int .i64 r.seg)).setCell ⟨B, 5, none⟩ (.slice P5 pn5 pc5)).setCell ⟨B, 6, none⟩ (.int .i64 (r.safe : Int))).setCell ⟨B, 7, none⟩ (.bool r.dead)) = W6 at HN ⊢
                go_wp2
                go_roundw
                case rel => exact ⟨k + 1, by omega, by omega, by go_num, HN.out⟩
                case measure => simp [intOf]; omega
            case' mzz6 => skip
            exact AllReadyL.nil
        case' mzz7 => skip
        exact AllReadyL.nil
    · obtain ⟨⟨e0, e1, e2, e3, e4, e5, e6, e7⟩, f0, f1, f2, f3, f4, f5, f6, f7⟩ := HR.out.box.get8
      by_cases hkn : k < n
      case' pos =>
        have hk300 : ¬ k < 150 := fun h => hlt ⟨hkn, h⟩
        clear hlt
      case' neg => clear hlt
      all_goals
        go_wp2
        go_ret
        exact ⟨rfl, HR.out.q⟩

theorem opened (W : World) (args : Array Value) (hn : args.size = 2) (h : ∀ (j : Nat) t v, Tryd.f3.params[j]? = some t → args[j]? = some v → RdV W t v ∧ (false = true → RdU W t v.cells.toList)) (hL : laidMetH Tryd.prog Rows.walLastsRow.laid W) :
    Calls Tryd.prog 3 args W fun e W' => e = .returned (.bool true) ∧ Q W W' := by
  obtain ⟨a, b, rfl⟩ := args2 hn
  rw [Tryd.params3] at h
  obtain ⟨room, rfl, hk⟩ := (h 0 3 a rfl rfl).1.int Tryd.underlying3
  obtain ⟨A, n, c0, rfl, h0⟩ := (h 1 22 b rfl rfl).1.slice Tryd.underlying22
  obtain ⟨A2, n2, c2, ls, e, hs, hn16, has⟩ := open_wacts h0
  simp only [List.cons.injEq, Value.slice.injEq, and_true] at e
  obtain ⟨rfl, rfl, rfl⟩ := e
  have hT := tab_laid (by kernel_rfl) hL
  by_cases hr : room < 0
  · exact walk_neg room A n c0 W hT hr
  · exact walk_main room A n c0 ls W hT (by omega) (wf_i64 hk).2 hs has

theorem start_met (os : Os) : laidMetH Tryd.prog Rows.walLastsRow.laid ((World.doorLaid Tryd.prog 24 os).forCall (fun _ _ => 0) ⟨#[], #[.int .i64 0, .slice none 0 0], []⟩).memory :=
  laidMetH_of_parts3 (fuel := 8) (laidMet_of_run' 8 (by kernel_rfl) (by kernel_rfl)) (by kernel_rfl) (by kernel_rfl)
theorem reads (os : Os) {H : Type} (enc : TypeId × Value → H) : ∃ places, DataW.whole enc Tryd.prog ((World.doorLaid Tryd.prog 24 os).forCall (fun _ _ => 0) ⟨#[], #[.int .i64 0, .slice none 0 0], []⟩).memory Tryd.f3.params.toList Rows.walLastsSpec.vars false (#[.int .i64 0, .slice none 0 0] : Array Value).toList 8 = some ([.lit (.int .i64 0), .nil], [], places) :=
  ⟨[], by kernel_rfl⟩

set_option maxRecDepth 100000 in
theorem lifted (os : Os) (started : os.Started) (H : Type) (enc : TypeId × Value → H) (F : Stop.Interp) :
    ReturnsInHanded {} Tryd.checked os 3 .any ((OpenSpec.ofChange Rows.walLastsSpec).preRow enc Tryd.prog Tryd.f3 Rows.walLastsRow.domain false Rows.walLastsRow.laid) (((OpenSpec.ofChange Rows.walLastsSpec).at F).post enc Tryd.prog Tryd.f3 false true false false) := by
  obtain ⟨places, hx⟩ := reads os enc
  refine returnsInHanded_of_row (C := Tryd.checked) (s := OpenSpec.ofChange Rows.walLastsSpec) ownKnob_ started (by kernel_rfl) Tryd.func3
    (witness_row_atRef (enc := enc) (C := Tryd.checked) false (World.doorLaid Tryd.prog 24 os) #[.int .i64 0, .slice none 0 0] rfl (by kernel_rfl) (by kernel_rfl) (by kernel_rfl)
      (OpenSpec.preRow_of_cond 8 hx (by kernel_rfl) (fun k hk => by cases hk) (by kernel_rfl) (start_met os))) ?_
  intro W base args ds gs before hval hW _ hcond hsz hL _ _
  exact framedC (s := Rows.walLastsSpec) false Rows.walLastsRow.laid 2 (by rw [Tryd.params3]; rfl) rfl (by kernel_rfl) (by kernel_rfl)
    (fun H ds h => by match ds, h with | [d0, d1], _ => exact ⟨rfl, rfl, rfl⟩)
    opened H enc W base args ds gs before hval hW (fun h => by cases h) hsz hL

theorem over : Rows.WalLastsSaid :=
  OpenClaim.holds_of_cond 3 Tryd.f3 rfl rfl rfl rfl rfl rfl rfl ⟨rfl, rfl, rfl, rfl, rfl⟩ rfl rfl rfl rfl rfl (by kernel_rfl) Tryd.func3 (by kernel_rfl)
    (of_decide_eq_true (by kernel_rfl)) (by unfold Func.isWrapper; first | (rw [if_pos (by decide +kernel)]; kernel_rfl) | (rw [if_neg (by decide +kernel)]; exact ⟨rfl, rfl⟩))
    (fun os started H enc _ F => by rw [OpenClaim.pre_eq_preRow]; exact lifted os started H enc F)

/-- No parameter wants a stand-in; the program's own looks are as the card says. -/
theorem plain (f : FuncId) (fn : Func) (hf : Tryd.pinned.checked.prog.funcNamed "stanchion/stanchionlaw04.WalLasts" = some f) (hfn : Tryd.pinned.checked.prog.funcs[f]? = some fn) :
    false = Tryd.pinned.checked.prog.looks [] ∧ ∀ (j : Nat) t, fn.params[j]? = some t → Tryd.pinned.checked.prog.wantsStandIn t = false := by
  obtain rfl : f = 3 := Option.some.inj ((show Tryd.prog.funcNamed "stanchion/stanchionlaw04.WalLasts" = some 3 by kernel_rfl).symm.trans hf) |>.symm
  obtain rfl : fn = Tryd.f3 := (Option.some.inj (Tryd.func3.symm.trans hfn)).symm
  refine ⟨by kernel_rfl, fun j t ht => ?_⟩
  have h0 : (Tryd.f3.params.toList.all fun t => !(Tryd.prog.wantsStandIn t)) = true := by kernel_rfl
  have h1 := List.all_eq_true.1 h0 t (by rw [← Array.getElem?_toList] at ht; exact List.mem_of_getElem? ht)
  exact (by simpa using h1 : Tryd.prog.wantsStandIn t = false)

theorem proved : Rows.WalLastsCardSaid :=
  Claim7.holds_tied_plain_at .later [] _ _ _ _ over (fun _ h => by cases h) (by kernel_rfl) (fun _ h => by cases h) walLasts_row_tie rfl ⟨rfl, rfl⟩ (by kernel_rfl) rfl plain (by kernel_rfl)
end Go.Proofs.YtncippafbohgbaaDoor.walLasts
