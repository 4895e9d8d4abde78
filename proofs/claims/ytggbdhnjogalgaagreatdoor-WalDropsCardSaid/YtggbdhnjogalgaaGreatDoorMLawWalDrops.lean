/- For every disk, numbers and name: a drop of segments leaves all others, and all other files. No condition. -/
import Derived.Test.YtggbdhnjogalgaaGreatDoorR9
import Derived.Test.YtggbdhnjogalgaaGreatDoorR3
import Derived.Laws.StructEq
namespace Go.Proofs.YtggbdhnjogalgaaGreatDoor.walDrops
set_option maxRecDepth 100000
open Go.ChangeShapes Go.WideShapes Go.ChangeAt Go.RowKit Dkm Wm
set_option linter.unusedVariables false
set_option linter.unusedSimpArgs false

theorem drops_apart {o : ByteArray} : ∀ (ks : List Int) (d : Dk), (∀ k ∈ ks, namB k ≠ o) → hit o (drops ks d).1.fs = hit o d.fs
  | [], d, _ => rfl
  | k :: ks, d, h => by
    unfold Wm.drops
    have h0 : hit o (del d (namB k)).1.fs = hit o d.fs := del_apart d (fun e => h k (by simp) e.symm)
    split
    · rw [drops_apart ks _ (fun x hx => h x (by simp [hx]))]; exact h0
    · exact h0
@[go_sem high] theorem run_eql_file (w : World) (a b c : ByteArray) :
    (binOp .eql 42 (.agg #[.string a, .string b, .string c]) (.agg #[.string a, .string b, .string c])).run Tryz.prog w = .ok (.bool true) w := by
  rw [run_eql_struct, show (10000 : Nat) = 9999 + 1 from rfl, run_equalIn_agg _ _ _ _ _ (by kernel_rfl) (by kernel_rfl)]
  simp only [Program.fieldsOf, Tryz.underlying42]
  have f1 : Tryz.prog.underlying 9 = some .string := by kernel_rfl
  simp [Op.eqFields, go_sem, run_equalIn_string (h := f1)]

/-- what a call of this law finds: the table, strconv's errors. -/
def Tn (w : World) : Prop := Tab w ∧ Errs w
theorem Tn.q {w w' : World} (h : Tn w) (q : Q w w') : Tn w' := ⟨h.1.q q, h.2.q q⟩
abbrev args (A : Option Addr) (n c : Nat) (d : Dk) (fr til : Int) (name : ByteArray) : Array Value := #[.agg #[.slice A n c, .int .i64 d.room, .int .i64 d.fuse, .bool d.off, .int .i64 fr, .int .i64 til, .string name]]

set_option maxHeartbeats 4000000 in
theorem walk_out (A : Option Addr) (n c : Nat) (d : Dk) (fr til : Int) (name : ByteArray) (w : World) (hT : Tn w) (h : 2000 < til ∨ (til ≤ 2000 ∧ fr < 1)) :
    Calls Tryz.prog 4 #[.agg #[.slice A n c, .int .i64 d.room, .int .i64 d.fuse, .bool d.off, .int .i64 fr, .int .i64 til, .string name]] w fun e w' => e = .returned (.bool true) ∧ Q w w' := by
  have HT := Lib.hid hT
  clear hT
  have q0 := Lib.hid (((Q.refl w).alloc (.cells #[.slice A n c, .int .i64 d.room, .int .i64 d.fuse, .bool d.off, .int .i64 fr, .int .i64 til, .string name] 40)).alloc (.cells #[.slice A n c, .int .i64 d.room, .int .i64 d.fuse, .bool d.off] 24))
  rcases h with h | ⟨h1, h2⟩
  all_goals
    go_enter Tryz.func4, Tryz.ntmps4
    go_wp2_with fail
    refine (wshown_any _ (HT.out.1.q q0.out)).mono ?_
    rintro e w1 ⟨rfl, q1⟩
    have q2 := Lib.hid (q0.out.trans q1)
    clear q1
    go_wp2
    go_ret
    exact ⟨rfl, q2.out⟩

set_option maxRecDepth 100000 in
set_option maxHeartbeats 8000000 in
theorem walk_main (A : Option Addr) (n c : Nat) (d : Dk) (fr til : Int) (name : ByteArray) (w : World) (hT : Tn w) (hd : Dsk w A n c d.fs) (hB : Bnd 2305843009213693952 d) (hn : ∀ f ∈ d.fs, f.nm.size ≤ 140737488355328) (h1 : til ≤ 2000) (h2 : 1 ≤ fr) :
    Calls Tryz.prog 4 #[.agg #[.slice A n c, .int .i64 d.room, .int .i64 d.fuse, .bool d.off, .int .i64 fr, .int .i64 til, .string name]] w fun e w' => e = .returned (.bool true) ∧ Q w w' := by
  have HT := Lib.hid hT
  have HD := Lib.hid hd
  have q0 := Lib.hid (((Q.refl w).alloc (.cells #[.slice A n c, .int .i64 d.room, .int .i64 d.fuse, .bool d.off, .int .i64 fr, .int .i64 til, .string name] 40)).alloc (.cells #[.slice A n c, .int .i64 d.room, .int .i64 d.fuse, .bool d.off] 24))
  have B0 := Lib.hid (Bx.new (w.alloc (.cells #[.slice A n c, .int .i64 d.room, .int .i64 d.fuse, .bool d.off, .int .i64 fr, .int .i64 til, .string name] 40)) [.slice A n c, .int .i64 d.room, .int .i64 d.fuse, .bool d.off] 24)
  have B0 : Hid (Bx ((w.alloc (.cells #[.slice A n c, .int .i64 d.room, .int .i64 d.fuse, .bool d.off, .int .i64 fr, .int .i64 til, .string name] 40)).alloc (.cells #[.slice A n c, .int .i64 d.room, .int .i64 d.fuse, .bool d.off] 24)) (w.heap.size + 1) [.slice A n c, .int .i64 d.room, .int .i64 d.fuse, .bool d.off]) := Lib.hid (by simpa using B0.out)
  have KD := Lib.hid (fun W (q : Q w W) => wdrop_of fr til A n c d (prsN d.fs) W (HT.out.1.q q) (HD.out.q q) hB (Lib.hid fun A n c W2 q2 h => present_any A n c d W2 ((HT.out.1.q q).q q2) ((HT.out.2.q q).q q2) h hn))
  have KN := Lib.hid (fun seg W (q : Q w W) => name_any seg W (HT.out.1.q q))
  have HE := Lib.hid (show (∀ s, fr ≤ s → s < til → namB s ≠ name) → hit name (drops (fil fr til (prsN d.fs)) d).1.fs = hit name d.fs from fun h => drops_apart _ _ (fun k hk => by
    unfold fil at hk
    have := (List.mem_filter.1 hk).2
    simp only [decide_eq_true_eq] at this
    exact h k this.1 this.2))
  have F1 := Lib.hid (fun W (q : Q w W) => ref_find name A n c d.room d.fuse d.off d.fs W (HD.out.q q).files HD.out.max)
  clear hT hd hB hn
  generalize hr : drops (fil fr til (prsN d.fs)) d = r at KD HE
  clear hr
  obtain ⟨r, er⟩ := r
  simp only at KD HE
  have F2 := Lib.hid (fun (A : Option Addr) (n c : Nat) W (h : Dsk W A n c r.fs) => ref_find name A n c r.room r.fuse r.off r.fs W h.files h.max)
  generalize hit name d.fs = x1 at F1 HE
  generalize hit name r.fs = x2 at F2 HE
  obtain ⟨⟨n1, s1, t1⟩, b1⟩ := x1
  obtain ⟨⟨n2, s2, t2⟩, b2⟩ := x2
  have k1 : ¬ 2000 < til := by omega
  have k2 : ¬ fr < 1 := by omega
  go_enter Tryz.func4, Tryz.ntmps4
  go_wp2_with fail
  generalize (w.alloc (.cells #[.slice A n c, .int .i64 d.room, .int .i64 d.fuse, .bool d.off, .int .i64 fr, .int .i64 til, .string name] 40)).alloc (.cells #[.slice A n c, .int .i64 d.room, .int .i64 d.fuse, .bool d.off] 24) = W0 at q0 B0 ⊢
  refine (wshown_any _ (HT.out.1.q q0.out)).mono ?_
  rintro e w1 ⟨rfl, q1⟩
  have Q1 := Lib.hid (q0.out.trans q1)
  have B1 := Lib.hid (B0.out.q q1)
  clear q0 q1 B0
  obtain ⟨⟨d0, d1, d2, d3⟩, _⟩ := B1.out.get4
  go_wp2_with fail
  refine (KD.out _ Q1.out).mono ?_
  rintro e w2 ⟨A2, n2', c2, rfl, hd2, hf2, q2⟩
  by_cases he : er = 0
  · subst he
    have HD2 := Lib.hid (hd2.q ((Q.refl w2).alloc (.cells #[.slice A2 n2' c2, .int .i64 r.room, .int .i64 r.fuse, .bool r.off] 24)))
    have Q2 := Lib.hid ((Q1.out.trans q2).alloc (.cells #[.slice A2 n2' c2, .int .i64 r.room, .int .i64 r.fuse, .bool r.off] 24))
    have B2 := Lib.hid (B1.out.q (q2.alloc (.cells #[.slice A2 n2' c2, .int .i64 r.room, .int .i64 r.fuse, .bool r.off] 24)))
    have C2 := Lib.hid (Bx.new w2 [.slice A2 n2' c2, .int .i64 r.room, .int .i64 r.fuse, .bool r.off] 24)
    have C2 : Hid (Bx (w2.alloc (.cells #[.slice A2 n2' c2, .int .i64 r.room, .int .i64 r.fuse, .bool r.off] 24)) w2.heap.size [.slice A2 n2' c2, .int .i64 r.room, .int .i64 r.fuse, .bool r.off]) := Lib.hid C2.out
    clear hd2 hf2 q2 d0 d1 d2 d3 B1 Q1
    go_upto_region 9 with (fail)
    generalize w2.alloc (.cells #[.slice A2 n2' c2, .int .i64 r.room, .int .i64 r.fuse, .bool r.off] 24) = W2 at HD2 Q2 B2 C2 ⊢
    generalize w2.heap.size = B at C2 ⊢
    obtain ⟨⟨d0, d1, d2, d3⟩, _⟩ := B2.out.get4
    go_wp2_with fail
    refine (F1.out _ Q2.out).mono ?_
    rintro e w3 ⟨rfl, q3⟩
    have Q3 := Lib.hid ((Q2.out.trans q3).alloc (.cells #[.string n1, .string s1, .string t1] 42))
    have HD3 := Lib.hid (HD2.out.q (q3.alloc (.cells #[.string n1, .string s1, .string t1] 42)))
    have C3 := Lib.hid (C2.out.q (q3.alloc (.cells #[.string n1, .string s1, .string t1] 42)))
    have E3 := Lib.hid (Bx.new w3 [.string n1, .string s1, .string t1] 42)
    have E3 : Hid (Bx (w3.alloc (.cells #[.string n1, .string s1, .string t1] 42)) w3.heap.size [.string n1, .string s1, .string t1]) := Lib.hid E3.out
    clear q3 d0 d1 d2 d3 B2 Q2 HD2 C2
    go_upto_region 12 with (fail)
    generalize w3.alloc (.cells #[.string n1, .string s1, .string t1] 42) = W3 at HD3 Q3 C3 E3 ⊢
    generalize w3.heap.size = G at E3 ⊢
    obtain ⟨⟨d0, d1, d2, d3⟩, _⟩ := C3.out.get4
    go_wp2_with fail
    refine (F2.out A2 n2' c2 _ HD3.out).mono ?_
    rintro e w4 ⟨rfl, q4⟩
    have Q4 := Lib.hid ((Q3.out.trans q4).alloc (.cells #[.string n2, .string s2, .string t2] 42))
    have E4 := Lib.hid (E3.out.q (q4.alloc (.cells #[.string n2, .string s2, .string t2] 42)))
    have H4 := Lib.hid (Bx.new w4 [.string n2, .string s2, .string t2] 42)
    have H4 : Hid (Bx (w4.alloc (.cells #[.string n2, .string s2, .string t2] 42)) w4.heap.size [.string n2, .string s2, .string t2]) := Lib.hid H4.out
    clear q4 d0 d1 d2 d3 Q3 HD3 C3 E3
    go_upto_region 13 with (fail)
    generalize w4.alloc (.cells #[.string n2, .string s2, .string t2] 42) = W4 at Q4 E4 H4 ⊢
    generalize w4.heap.size = J at H4 ⊢
    go_wp2
    go_loopw [14] (fun i wr => ∃ s : Int, i = .int .i64 s ∧ fr ≤ s ∧ (s ≤ til ∨ s = fr) ∧ (∀ x, fr ≤ x → x < s → namB x ≠ name) ∧ Q W4 wr) (fun i _ => (til - intOf i).toNat)
    case atStart => exact ⟨fr, rfl, Int.le_refl _, .inr rfl, fun x hx hy => by omega, Q.refl _⟩
    case round =>
      obtain ⟨s, rfl, hs1, hs2, hall, hq⟩ := hrel
      have HA := Lib.hid hall
      have HQ := Lib.hid hq
      clear hall hq
      by_cases hlt : s < til
      · by_cases hx : namB s = name
        · have es := same_str (namB s) name
          rw [decide_eq_true hx] at es
          have HX := Lib.hid hx
          have KS := Lib.hid (KN.out s)
          clear hx
          generalize namB s = nb at es HX KS
          go_wp2_with fail
          refine (KS.out _ (Q4.out.trans HQ.out)).mono ?_
          rintro e w5 ⟨rfl, q5⟩
          go_wp2
          go_ret
          exact ⟨rfl, (Q4.out.trans HQ.out).trans q5⟩
        · have es := same_str (namB s) name
          rw [decide_eq_false hx] at es
          have HX := Lib.hid (show ∀ x, fr ≤ x → x < s + 1 → namB x ≠ name from fun x ha hb => by
            by_cases hxs : x = s
            · rw [hxs]; exact hx
            · exact HA.out x ha (by omega))
          have KS := Lib.hid (KN.out s)
          clear hx
          generalize namB s = nb at es KS
          go_wp2_with fail
          refine (KS.out _ (Q4.out.trans HQ.out)).mono ?_
          rintro e w5 ⟨rfl, q5⟩
          have HQ5 := Lib.hid (HQ.out.trans q5)
          go_wp2
          go_roundw
          case rel => exact ⟨s + 1, by first | rfl | go_num, by omega, by omega, HX.out, HQ5.out⟩
          case measure => simp [intOf]; omega
      · have hE := HE.out (fun x ha hb => HA.out x ha (by omega))
        injection hE with e1 e2
        injection e1 with e1 e3 e4
        subst e1 e2 e3 e4
        obtain ⟨⟨x0, x1, x2⟩, _⟩ := (E4.out.q HQ.out).get3
        obtain ⟨⟨y0, y1, y2⟩, _⟩ := (H4.out.q HQ.out).get3
        have hbb : (b2 == b2) = true := by cases b2 <;> rfl
        go_wp2
        all_goals go_ret
        all_goals exact ⟨by first | rfl | (simp; done), Q4.out.trans HQ.out⟩
  · have e1 : (er == 0) = false := by simpa using he
    have e2 : (er != 0) = true := by simpa using he
    have Q2 := Lib.hid ((Q1.out.trans q2).alloc (.cells #[.slice A2 n2' c2, .int .i64 r.room, .int .i64 r.fuse, .bool r.off] 24))
    clear he hd2 hf2 q2
    go_wp2
    go_ret
    exact ⟨rfl, Q2.out⟩

theorem opened (W : World) (args : Array Value) (hn : args.size = 1) (h : ∀ (j : Nat) t v, Tryz.f4.params[j]? = some t → args[j]? = some v → RdV W t v ∧ (false = true → RdU W t v.cells.toList)) (hL : laidMetH Tryz.prog Rows.walDropsRow.laid W) :
    Calls Tryz.prog 4 args W fun e W' => e = .returned (.bool true) ∧ Q W W' := by
  obtain ⟨v, rfl⟩ := args1 hn
  rw [Tryz.params4] at h
  obtain ⟨cs, rfl, hr⟩ := (h 0 40 v rfl rfl).1.struct Tryz.underlying40
  obtain ⟨hl, _⟩ := hr.struct Tryz.underlying40
  rw [show Tryz.prog.cellsOf 40 = 7 by kernel_rfl] at hl
  match cs, hl with
  | [x0, x1, x2, x3, x4, x5, x6], _ =>
    obtain ⟨A, n, c, d, e0, hd⟩ := open_disk (hr.field Tryz.underlying40 0 (ty := 24) 0 4 rfl (by kernel_rfl))
    obtain ⟨fr, e1, _⟩ := (hr.field Tryz.underlying40 1 (ty := 3) 4 1 rfl (by kernel_rfl)).int Tryz.underlying3
    obtain ⟨til, e2, _⟩ := (hr.field Tryz.underlying40 2 (ty := 3) 5 1 rfl (by kernel_rfl)).int Tryz.underlying3
    obtain ⟨name, e3, _⟩ := (hr.field Tryz.underlying40 3 (ty := 9) 6 1 rfl (by kernel_rfl)).string Tryz.underlying9
    simp at e0 e1 e2 e3
    obtain ⟨rfl, rfl, rfl, rfl⟩ := e0
    subst e1 e2 e3
    have hT : Tn W := ⟨tab_laid (by kernel_rfl) hL, errs_laid (by kernel_rfl) hL⟩
    by_cases h1 : 2000 < til
    · exact walk_out A n c d fr til name W hT (.inl h1)
    · by_cases h2 : fr < 1
      · exact walk_out A n c d fr til name W hT (.inr ⟨by omega, h2⟩)
      · exact walk_main A n c d fr til name W hT hd.dsk ⟨fun f hf => by obtain ⟨_, b1, b2⟩ := hd.fil f hf; omega, hd.dsk.len ▸ hd.dsk.few, hd.room, hd.fuse⟩ (fun f hf => by obtain ⟨b0, _⟩ := hd.fil f hf; omega) (by omega) (by omega)

theorem start_met (os : Os) : laidMetH Tryz.prog Rows.walDropsRow.laid ((World.doorLaid Tryz.prog 600 os).forCall (fun _ _ => 0) ⟨#[], #[.agg #[.slice none 0 0, .int .i64 0, .int .i64 0, .bool false, .int .i64 0, .int .i64 0, .string ByteArray.empty]], []⟩).memory :=
  laidMetH_of_parts3 (fuel := 8) (laidMet_of_run' 8 (by kernel_rfl) (by kernel_rfl)) (by kernel_rfl) (by kernel_rfl)
theorem reads (os : Os) {H : Type} (enc : TypeId × Value → H) : ∃ places, DataW.whole enc Tryz.prog ((World.doorLaid Tryz.prog 600 os).forCall (fun _ _ => 0) ⟨#[], #[.agg #[.slice none 0 0, .int .i64 0, .int .i64 0, .bool false, .int .i64 0, .int .i64 0, .string ByteArray.empty]], []⟩).memory Tryz.f4.params.toList Rows.walDropsSpec.vars false (#[.agg #[.slice none 0 0, .int .i64 0, .int .i64 0, .bool false, .int .i64 0, .int .i64 0, .string ByteArray.empty]] : Array Value).toList 8 = some ([.agg [.agg [.nil, .lit (.int .i64 0), .lit (.int .i64 0), .lit (.bool false)], .lit (.int .i64 0), .lit (.int .i64 0), .lit (.string [])]], [], places) :=
  ⟨[], by kernel_rfl⟩

set_option maxRecDepth 100000 in
theorem lifted (os : Os) (started : os.Started) (H : Type) (enc : TypeId × Value → H) (F : Stop.Interp) :
    ReturnsInHanded {} Tryz.checked os 4 .any ((OpenSpec.ofChange Rows.walDropsSpec).preRow enc Tryz.prog Tryz.f4 Rows.walDropsRow.domain false Rows.walDropsRow.laid) (((OpenSpec.ofChange Rows.walDropsSpec).at F).post enc Tryz.prog Tryz.f4 false true false false) := by
  obtain ⟨places, hx⟩ := reads os enc
  refine returnsInHanded_of_row (C := Tryz.checked) (s := OpenSpec.ofChange Rows.walDropsSpec) ownKnob_ started (by kernel_rfl) Tryz.func4
    (witness_row_atRef (enc := enc) (C := Tryz.checked) false (World.doorLaid Tryz.prog 600 os) #[.agg #[.slice none 0 0, .int .i64 0, .int .i64 0, .bool false, .int .i64 0, .int .i64 0, .string ByteArray.empty]] rfl (by kernel_rfl) (by kernel_rfl) (by kernel_rfl)
      (OpenSpec.preRow_of_cond 8 hx (by kernel_rfl) (fun k hk => by cases hk) (by kernel_rfl) (start_met os))) ?_
  intro W base args ds gs before hval hW _ hcond hsz hL _ _
  exact framedC (s := Rows.walDropsSpec) false Rows.walDropsRow.laid 1 (by rw [Tryz.params4]; rfl) rfl (by kernel_rfl) (by kernel_rfl)
    (fun H ds h => by match ds, h with | [d0], _ => exact ⟨rfl, rfl, rfl⟩)
    opened H enc W base args ds gs before hval hW (fun h => by cases h) hsz hL

theorem over : Rows.WalDropsSaid :=
  OpenClaim.holds_of_cond 4 Tryz.f4 rfl rfl rfl rfl rfl rfl rfl ⟨rfl, rfl, rfl, rfl, rfl⟩ rfl rfl rfl rfl rfl (by kernel_rfl) Tryz.func4 (by kernel_rfl)
    (of_decide_eq_true (by kernel_rfl)) (by unfold Func.isWrapper; first | (rw [if_pos (by decide +kernel)]; kernel_rfl) | (rw [if_neg (by decide +kernel)]; exact ⟨rfl, rfl⟩))
    (fun os started H enc _ F => by rw [OpenClaim.pre_eq_preRow]; exact lifted os started H enc F)

/-- No parameter wants a stand-in; the program's own looks are as the card says. -/
theorem plain (f : FuncId) (fn : Func) (hf : Tryz.pinned.checked.prog.funcNamed "stanchion/stanchionlaw04.WalDrops" = some f) (hfn : Tryz.pinned.checked.prog.funcs[f]? = some fn) :
    true = Tryz.pinned.checked.prog.looks [] ∧ ∀ (j : Nat) t, fn.params[j]? = some t → Tryz.pinned.checked.prog.wantsStandIn t = false := by
  obtain rfl : f = 4 := Option.some.inj ((show Tryz.prog.funcNamed "stanchion/stanchionlaw04.WalDrops" = some 4 by kernel_rfl).symm.trans hf) |>.symm
  obtain rfl : fn = Tryz.f4 := (Option.some.inj (Tryz.func4.symm.trans hfn)).symm
  refine ⟨by kernel_rfl, fun j t ht => ?_⟩
  have h0 : (Tryz.f4.params.toList.all fun t => !(Tryz.prog.wantsStandIn t)) = true := by kernel_rfl
  have h1 := List.all_eq_true.1 h0 t (by rw [← Array.getElem?_toList] at ht; exact List.mem_of_getElem? ht)
  exact (by simpa using h1 : Tryz.prog.wantsStandIn t = false)

theorem proved : Rows.WalDropsCardSaid :=
  Claim7.holds_tied_plain_at .later [] _ _ _ _ over (fun _ h => by cases h) (by kernel_rfl) (fun _ h => by cases h) walDrops_row_tie rfl ⟨rfl, rfl⟩ (by kernel_rfl) rfl plain (by kernel_rfl)
end Go.Proofs.YtggbdhnjogalgaaGreatDoor.walDrops
