/- For every texts and every place: of a beginning of a record's bytes nothing is scanned; behind whole ones these alone are. -/
import Derived.Test.YtjpigehibanhgaaDoorA5
import Derived.Test.YtjpigehibanhgaaDoorMWalIn
namespace Go.Proofs.YtjpigehibanhgaaDoor.walCut
set_option maxRecDepth 100000
open Go.ChangeShapes Go.WideShapes Go.ChangeAt Go.RowKit
set_option linter.unusedVariables false

theorem flat_le : ∀ (rs : List (List UInt8)), (∀ r ∈ rs, r.length ≤ 2048) → (flat rs).length ≤ rs.length * 2100
  | [], _ => by simp [flat_nil]
  | r :: rs, h => by
    rw [flat_cons, List.length_append, List.length_cons]
    have h1 := flat_le rs (fun x hx => h x (List.mem_cons_of_mem _ hx))
    have h2 := h r (by simp)
    have h3 := sld_length r (by omega)
    omega

set_option maxHeartbeats 8000000 in
theorem walk (L : Option Addr) (n c : Nat) (rs : List (List UInt8)) (rec : ByteArray) (cut : Int) (w : World) (hT : Tab w) (hl : Strs w L n rs) (hn : n * 16 ≤ 140737488351232) (hr : rec.size ≤ 140737488351232) :
    Calls Tryd.prog 6 #[.slice L n c, .string rec, .int .i64 cut] w fun e w' => e = .returned (.bool true) ∧ Q w w' := by
  have HT := Lib.hid hT
  have HL := Lib.hid hl
  have HN := Lib.hid hl.len
  have KF := Lib.hid (fun w => refSeal_any rec w (by omega))
  have hfs := sld_length rec.data.toList (by rw [size_list]; omega)
  rw [size_list] at hfs
  change Hid (∀ w, Calls _ _ _ w fun e w' => e = .returned (.string (bs (sld rec.data.toList))) ∧ Q w w') at KF
  have hfb : (bs (sld rec.data.toList)).size = (sld rec.data.toList).length := bs_size _
  have HFB := Lib.hid hfb
  have hfm : (bs (sld rec.data.toList)).size ≤ 140737488351300 := by omega
  clear hT hl hfs hfb
  go_enter Tryd.func6, Tryd.ntmps6
  go_wp2_with fail
  refine (wshown_any _ HT.out).mono ?_
  rintro e w1 ⟨rfl, q1⟩
  have Q1 := Lib.hid q1
  clear q1
  go_wp2
  go_loopw [8, 9] (fun s i wr => ∃ k : Nat, k ≤ n ∧ i = .int .i64 (k : Nat) ∧ s = .string (bs (flat (rs.take k))) ∧ (∀ r ∈ rs.take k, r.length ≤ 2048) ∧ Q w1 wr) (fun _ i _ => n - (intOf i).toNat)
  case atStart => exact ⟨0, Nat.zero_le _, rfl, rfl, by simp, Q.refl _⟩
  case round =>
    obtain ⟨k, hk, rfl, rfl, hle, hq⟩ := hrel
    have HQ := Lib.hid (Q1.out.trans hq)
    have HQ1 := Lib.hid hq
    have hfl := flat_le (rs.take k) hle
    have htl : (rs.take k).length ≤ k := by rw [List.length_take]; omega
    have hsz : (bs (flat (rs.take k))).size ≤ 2305843009213693952 := by rw [bs_size]; omega
    have HLE := Lib.hid hle
    clear hle hq hfl htl
    by_cases hlt : k < n
    · have hkl : k < rs.length := by have := HN.out; omega
      obtain ⟨ad, hA, hb, hc⟩ := (HL.out.q HQ.out).load hkl
      have hk2 : (k : Int) < (n : Int) := by omega
      have hbs := bs_size rs[k]
      by_cases hbig : 2048 < (bs rs[k]).size
      · generalize bs rs[k] = s at hc hbig hbs
        subst hA
        clear hbs
        go_wp2
        go_ret
        exact ⟨rfl, HQ.out⟩
      · have hrk : rs[k].length ≤ 2048 := by omega
        have KS := Lib.hid (fun w => refSeal_any (bs rs[k]) w (by omega))
        change Hid (∀ w, Calls _ _ _ w fun e w' => e = .returned (.string (bs (sld (bs rs[k]).data.toList))) ∧ Q w w') at KS
        rw [list_bs] at KS
        have hsl := sld_length rs[k] (by omega)
        have hss : (bs (sld rs[k])).size ≤ 4096 := by rw [bs_size]; omega
        have hap : bs (flat (rs.take k)) ++ bs (sld rs[k]) = bs (flat (rs.take (k + 1))) := by
          rw [List.take_add_one, List.getElem?_eq_getElem hkl, flat_app]
          simp only [Option.toList_some, flat_cons, flat_nil, List.append_nil]
          exact app_lists _ _
        have HAP := Lib.hid hap
        have hnx : ∀ r ∈ rs.take (k + 1), r.length ≤ 2048 := by
          intro r hr'
          rw [List.take_add_one, List.getElem?_eq_getElem hkl] at hr'
          rcases List.mem_append.1 hr' with h | h
          · exact HLE.out r h
          · simp at h; subst h; exact hrk
        have HNX := Lib.hid hnx
        generalize bs (sld rs[k]) = t at KS hss HAP
        generalize bs rs[k] = s at hc hbig KS
        subst hA
        clear hap hnx hbs hsl hrk
        go_wp2_with fail
        refine (KS.out _).mono ?_
        rintro e w2 ⟨rfl, q2⟩
        go_wp2
        go_roundw
        case rel => exact ⟨k + 1, by omega, by first | rfl | simp, by rw [← HAP.out], HNX.out, HQ1.out.trans q2⟩
        case measure => simp [intOf]; omega
    · have e : n = k := by omega
      have hall : rs.take k = rs := List.take_of_length_le (by have := HN.out; omega)
      rw [hall] at hsz HLE ⊢
      have hnk : ¬ (k : Int) < (n : Int) := by omega
      clear hall e
      by_cases hc0 : cut < 0
      · go_wp2_with fail
        refine (KF.out _).mono ?_
        rintro e w2 ⟨rfl, q2⟩
        go_wp2
        go_ret
        exact ⟨rfl, HQ.out.trans q2⟩
      by_cases hc1 : ((bs (sld rec.data.toList)).size : Int) ≤ cut
      · go_wp2_with fail
        refine (KF.out _).mono ?_
        rintro e w2 ⟨rfl, q2⟩
        go_wp2
        go_ret
        exact ⟨rfl, HQ.out.trans q2⟩
      obtain ⟨m, rfl⟩ := Int.eq_ofNat_of_zero_le (by omega : 0 ≤ cut)
      have hm : m < (bs (sld rec.data.toList)).size := by omega
      have hq := scn_part rs HLE.out (q := (sld rec.data.toList).take m) ⟨rec.data.toList, by rw [size_list]; unfold Dm.maxU; omega, m, by rw [← HFB.out]; exact hm, rfl⟩
      have hX : (bs (flat rs) ++ (bs (sld rec.data.toList)).extract 0 m).data.toList = flat rs ++ (sld rec.data.toList).take m := by
        rw [extract_list]
        show ((bs (flat rs)) ++ (⟨_⟩ : ByteArray)).data.toList = _
        unfold bs
        rw [app_lists]
        simp
      have hXs : (bs (flat rs) ++ (bs (sld rec.data.toList)).extract 0 m).size ≤ 4611686018427387904 := by rw [ByteArray.size_append, ByteArray.size_extract]; omega
      have hq1 : (scn (flat rs ++ (sld rec.data.toList).take m)).1 = rs := by rw [hq]
      have hus : used (flat rs ++ (sld rec.data.toList).take m) = (bs (flat rs)).size := by rw [used_flat, hq1, bs_size]
      have KC := Lib.hid (fun w => scan_any (bs (flat rs) ++ (bs (sld rec.data.toList)).extract 0 m) w (by unfold maxLen; omega) (by rw [hX, hq1]; have := HN.out; omega))
      rw [hX, hq1, hus] at KC
      have hes : ((bs (sld rec.data.toList)).extract 0 m).size ≤ 140737488351300 := by rw [ByteArray.size_extract]; omega
      have hmm : (m : Int) ≤ ((bs (sld rec.data.toList)).size : Int) := by omega
      have S1 := Lib.hid (HL.out.q HQ.out)
      clear hq hq1 hX hXs hus
      generalize bs (flat rs) = F at KC hsz ⊢
      go_wp2_with fail
      refine (KF.out _).mono ?_
      rintro e w2 ⟨rfl, q2⟩
      have Q2 := Lib.hid q2
      clear q2
      go_wp2_with fail
      refine (KC.out _).mono ?_
      rintro e w3 ⟨M, mn, mc, rfl, hm3, q3⟩
      have hmn : rs.length = mn := hm3.len
      have S2 := Lib.hid hm3.strs
      have S3 := Lib.hid (S1.out.q (Q2.out.trans q3))
      have Q3 := Lib.hid q3
      have hmx : n ≤ maxLen := by unfold maxLen; omega
      clear hm3 q3 hmn
      have KE := Lib.hid (same_strs L M n c mn mc rs rs _ S3.out S2.out hmx)
      rw [show decide (rs = rs) = true from decide_eq_true rfl] at KE
      go_wp2_with fail
      refine KE.out.mono ?_
      rintro e w4 ⟨rfl, q4⟩
      go_wp2
      all_goals go_ret
      all_goals exact ⟨by first | rfl | simp, (HQ.out.trans (Q2.out.trans Q3.out)).trans q4⟩

theorem opened (W : World) (args : Array Value) (hn : args.size = 3) (h : ∀ (j : Nat) t v, Tryd.f6.params[j]? = some t → args[j]? = some v → RdV W t v ∧ (false = true → RdU W t v.cells.toList)) (hL : laidMetH Tryd.prog Rows.walCutRow.laid W) :
    Calls Tryd.prog 6 args W fun e W' => e = .returned (.bool true) ∧ Q W W' := by
  obtain ⟨a, b, c, rfl⟩ := args3 hn
  rw [Tryd.params6] at h
  obtain ⟨A, n, c0, rfl, h0⟩ := (h 0 23 a rfl rfl).1.slice Tryd.underlying23
  obtain ⟨A2, n2, c2, rs, e, hs, hn16, hnc, hrs⟩ := open_strs h0
  simp only [List.cons.injEq, Value.slice.injEq, and_true] at e
  obtain ⟨rfl, rfl, rfl⟩ := e
  obtain ⟨r, rfl, hr⟩ := (h 1 9 b rfl rfl).1.string Tryd.underlying9
  obtain ⟨k, rfl, hk⟩ := (h 2 3 c rfl rfl).1.int Tryd.underlying3
  exact walk A n c0 rs r k W (tab_laid (by kernel_rfl) hL) hs hn16 hr

theorem start_met (os : Os) : laidMetH Tryd.prog Rows.walCutRow.laid ((World.doorLaid Tryd.prog 24 os).forCall (fun _ _ => 0) ⟨#[], #[.slice none 0 0, .string ⟨#[]⟩, .int .i64 0], []⟩).memory :=
  laidMetH_of_parts3 (fuel := 8) (laidMet_of_run' 8 (by kernel_rfl) (by kernel_rfl)) (by kernel_rfl) (by kernel_rfl)
theorem reads (os : Os) {H : Type} (enc : TypeId × Value → H) : ∃ places, DataW.whole enc Tryd.prog ((World.doorLaid Tryd.prog 24 os).forCall (fun _ _ => 0) ⟨#[], #[.slice none 0 0, .string ⟨#[]⟩, .int .i64 0], []⟩).memory Tryd.f6.params.toList Rows.walCutSpec.vars false (#[.slice none 0 0, .string ⟨#[]⟩, .int .i64 0] : Array Value).toList 8 = some ([.nil, .lit (.string []), .lit (.int .i64 0)], [], places) :=
  ⟨[], by kernel_rfl⟩

set_option maxRecDepth 100000 in
theorem lifted (os : Os) (started : os.Started) (H : Type) (enc : TypeId × Value → H) (F : Stop.Interp) :
    ReturnsInHanded {} Tryd.checked os 6 .any ((OpenSpec.ofChange Rows.walCutSpec).preRow enc Tryd.prog Tryd.f6 Rows.walCutRow.domain false Rows.walCutRow.laid) (((OpenSpec.ofChange Rows.walCutSpec).at F).post enc Tryd.prog Tryd.f6 false true false false) := by
  obtain ⟨places, hx⟩ := reads os enc
  refine returnsInHanded_of_row (C := Tryd.checked) (s := OpenSpec.ofChange Rows.walCutSpec) ownKnob_ started (by kernel_rfl) Tryd.func6
    (witness_row_atRef (enc := enc) (C := Tryd.checked) false (World.doorLaid Tryd.prog 24 os) #[.slice none 0 0, .string ⟨#[]⟩, .int .i64 0] rfl (by kernel_rfl) (by kernel_rfl) (by kernel_rfl)
      (OpenSpec.preRow_of_cond 8 hx (by kernel_rfl) (fun k hk => by cases hk) (by kernel_rfl) (start_met os))) ?_
  intro W base args ds gs before hval hW _ hcond hsz hL _ _
  exact framedC (s := Rows.walCutSpec) false Rows.walCutRow.laid 3 (by rw [Tryd.params6]; rfl) rfl (by kernel_rfl) (by kernel_rfl)
    (fun H ds h => by match ds, h with | [d0, d1, d2], _ => exact ⟨rfl, rfl, rfl⟩)
    opened H enc W base args ds gs before hval hW (fun h => by cases h) hsz hL

theorem over : Rows.WalCutSaid :=
  OpenClaim.holds_of_cond 6 Tryd.f6 rfl rfl rfl rfl rfl rfl rfl ⟨rfl, rfl, rfl, rfl, rfl⟩ rfl rfl rfl rfl rfl (by kernel_rfl) Tryd.func6 (by kernel_rfl)
    (of_decide_eq_true (by kernel_rfl)) (by unfold Func.isWrapper; first | (rw [if_pos (by decide +kernel)]; kernel_rfl) | (rw [if_neg (by decide +kernel)]; exact ⟨rfl, rfl⟩))
    (fun os started H enc _ F => by rw [OpenClaim.pre_eq_preRow]; exact lifted os started H enc F)

/-- No parameter wants a stand-in; the program's own looks are as the card says. -/
theorem plain (f : FuncId) (fn : Func) (hf : Tryd.pinned.checked.prog.funcNamed "stanchion/stanchionlaw04.WalCut" = some f) (hfn : Tryd.pinned.checked.prog.funcs[f]? = some fn) :
    false = Tryd.pinned.checked.prog.looks [] ∧ ∀ (j : Nat) t, fn.params[j]? = some t → Tryd.pinned.checked.prog.wantsStandIn t = false := by
  obtain rfl : f = 6 := Option.some.inj ((show Tryd.prog.funcNamed "stanchion/stanchionlaw04.WalCut" = some 6 by kernel_rfl).symm.trans hf) |>.symm
  obtain rfl : fn = Tryd.f6 := (Option.some.inj (Tryd.func6.symm.trans hfn)).symm
  refine ⟨by kernel_rfl, fun j t ht => ?_⟩
  have h0 : (Tryd.f6.params.toList.all fun t => !(Tryd.prog.wantsStandIn t)) = true := by kernel_rfl
  have h1 := List.all_eq_true.1 h0 t (by rw [← Array.getElem?_toList] at ht; exact List.mem_of_getElem? ht)
  exact (by simpa using h1 : Tryd.prog.wantsStandIn t = false)

theorem proved : Rows.WalCutCardSaid :=
  Claim7.holds_tied_plain_at .later [] _ _ _ _ over (fun _ h => by cases h) (by kernel_rfl) (fun _ h => by cases h) walCut_row_tie rfl ⟨rfl, rfl⟩ (by kernel_rfl) rfl plain (by kernel_rfl)
end Go.Proofs.YtjpigehibanhgaaDoor.walCut
