/- Contracts: the document's Put. -/
import Derived.Test.YtbclamfpoigneaaAlRefSwap
import Derived.Test.YtbclamfpoigneaaHeldL
import Derived.Deep.DeepCutAuto
namespace Go.Proofs.Ytbclamfpoigneaa
set_option maxRecDepth 100000
open Go.RowKit
set_option linter.unusedVariables false
set_option linter.unusedSimpArgs false
namespace Am

theorem rise_step {l : List Al} {m : Nat} (h : less (g l (m + 1)) (g l (m / 2)) = true) : rise (m + 1) l (m + 1) = rise m (swp l (m + 1) (m / 2)) (m / 2) := by
  have hp : par (m + 1) = m / 2 := by unfold par; rw [Nat.add_sub_cancel]
  conv => lhs; unfold rise
  rw [hp, if_pos ⟨by omega, h⟩]
theorem rise_end {l : List Al} {m : Nat} (n : Nat) (h : less (g l (m + 1)) (g l (m / 2)) = false) : rise n l (m + 1) = l := by
  have hp : par (m + 1) = m / 2 := by unfold par; rw [Nat.add_sub_cancel]
  cases n with
  | zero => rfl
  | succ n => unfold rise; rw [hp, if_neg (by rw [h]; simp)]
theorem rise_zero (n : Nat) (l : List Al) : rise n l 0 = l := by
  cases n with
  | zero => rfl
  | succ n => unfold rise; rw [if_neg (by omega)]
theorem rise_fuel : ∀ (n : Nat) (l : List Al) (i : Nat), i ≤ n → rise n l i = rise i l i := by
  intro n
  induction n using Nat.strongRecOn with
  | ind n ih =>
    intro l i hi
    cases i with
    | zero => rw [rise_zero, rise_zero]
    | succ m =>
      cases hb : less (g l (m + 1)) (g l (m / 2)) with
      | false => rw [rise_end _ hb, rise_end _ hb]
      | true =>
        obtain ⟨n, rfl⟩ : ∃ n', n = n' + 1 := ⟨n - 1, by omega⟩
        have hp : par (m + 1) = m / 2 := by unfold par; rw [Nat.add_sub_cancel]
        rw [rise_step hb]
        conv => lhs; unfold rise
        rw [hp, if_pos ⟨by omega, hb⟩, ih n (by omega) _ _ (by omega)]
        exact (ih m (by omega) _ _ (by omega)).symm
set_option maxHeartbeats 4000000 in
theorem rput_any (A : Option Addr) (n c : Nat) (h : List Al) (a : Al) (w : World) (hA : In_ alK w A n c h) (hn : n ≤ 900000) :
    Calls Try.prog 11 #[.slice A n c, alV a] w fun e w' => RetL alK w (n + 1) (put h a) e w' := by
  have HA := Lib.hid hA
  have HL := Lib.hid hA.len
  have hnil := hA.nil
  have hb : (0 + n) * alK.bs ≤ 140737488355328 := by show (0 + n) * 16 ≤ _; omega
  have hb2 : (n + 1) * alK.bs ≤ 140737488355328 := by show (n + 1) * 16 ≤ _; omega
  have hpu : put h a = rise n (h ++ [a]) n := by unfold put; rw [HL.out]
  have HP := Lib.hid hpu
  have q0 := (Q.refl w).alloc (.cells #[.int .u64 (a.at_ : Int), .int .i64 a.id] 25)
  have B0 := Lib.hid (And.intro (Bx.new w [.int .u64 (a.at_ : Int), .int .i64 a.id] 25) q0)
  clear hA hpu q0
  unfold RetL alV
  go_enter Try.func11, Try.ntmps11
  go_upto_region 1 with (fail)
  change Hid (Bx (w.alloc (.cells #[.int .u64 (a.at_ : Int), .int .i64 a.id] 25)) _ _ ∧ _) at B0
  generalize (w.alloc (.cells #[.int .u64 (a.at_ : Int), .int .i64 a.id] 25)) = W0 at B0 ⊢
  have hw0 : w.heap.size < W0.heap.size := B0.out.1.lt
  go_upto_region 2 with (at_builtin
                         refine wpl_appK alK rfl (.tmp 7) (.tmp 8) 22 rfl rfl W0.heap.size (some ⟨W0.heap.size, 0, none⟩) 0 0 [] rfl (OwnK.lit0 alK W0 W0.heap.size (Nat.le_refl _)) A n c h rfl (HA.out.lst.q (B0.out.2.alloc _)) hnil hb (by simp) ?_
                         intro A2 c2 w2 o2 b2
                         have q2 : Q W0 w2 := ((Q.refl W0).alloc (.cells #[] 25)).below.trans b2
                         have O2 := Lib.hid (And.intro o2 q2)
                         clear o2 b2 q2)
  have hq2 := O2.out.2.size
  obtain ⟨⟨x0, x1⟩, _⟩ := (B0.out.1.q O2.out.2).get2
  have o2l : OwnK alK w2 W0.heap.size A2 n c2 h := by have := O2.out.1; simpa using this
  have O2b := Lib.hid o2l
  clear o2l
  go_upto_region 3 with (at_builtin
                         refine wpl_appK alK rfl (.tmp 10) (.tmp 12) 22 rfl rfl W0.heap.size A2 n c2 h rfl (O2b.out.alloc _) (some ⟨w2.heap.size, 0, none⟩) 1 1 [a] rfl ((OwnK.lit1 alK w2 w2.heap.size (Nat.le_refl _) a).lst) (fun e => by cases e) hb2 (by simp; omega) ?_
                         intro A3 c3 w3 o3 b3
                         have q3 : Q W0 w3 := Below.trans (O2.out.2.alloc (.cells #[.int .u64 (a.at_ : Int), .int .i64 a.id] 25)) b3
                         have O3 := Lib.hid (And.intro o3 (B0.out.2.trans q3))
                         clear o3 b3 q3)
  have hNn : n + 1 ≤ 900001 := by omega
  generalize hN : n + 1 = N at *
  have HNN := Lib.hid hN
  go_wp2
  go_loopw [5, 6] (fun ov iv wr => ∃ (i : Nat) (l : List Al) (A4 : Option Addr) (c4 : Nat), ov = .slice A4 N c4 ∧ iv = .int .i64 (i : Nat) ∧ i < N ∧ OwnK alK wr w.heap.size A4 N c4 l ∧ put h a = rise i l i ∧ Q w wr) (fun _ i _ => (intOf i).toNat)
  case atStart => exact ⟨n, h ++ [a], A3, c3, rfl, by have := HNN.out; go_num, by have := HNN.out; omega, O3.out.1.lower (by omega), HP.out, O3.out.2⟩
  clear hN
  case round =>
    obtain ⟨i, l, A4, c4, rfl, rfl, hin, ho, hr, hq⟩ := hrel
    have HO := Lib.hid ho
    have HQ := Lib.hid hq
    have HR := Lib.hid hr
    clear ho hq hr
    by_cases hi0 : i = 0
    · subst hi0
      have HF := Lib.hid (HR.out.trans (rise_zero 0 l))
      go_upto_region 4 with (fail)
      refine wp_region_held_drew (S := Q wr) (by kernel_rfl) ?szz22 (fun hHeld => ?rzz22)
      case szz22 =>
        exact (Q.refl wr).drew
      case' rzz22 => skip
      refine wpAnyH_take (i := 0) (oi := ?ozz23) (v := ?vzz23) ?hzz23 ?azz23 ?bzz23 ?czz23 ?qzz23 ?yzz23 ?szz23 ?rzz23
      case hzz23 => simp only [List.getElem?_toArray, List.getElem?_cons_zero]; rfl
      case azz23 => kernel_rfl
      case bzz23 => kernel_rfl
      case czz23 => kernel_rfl
      case yzz23 =>
        refine Or.inl ⟨by rfl, ?_⟩
        intro w hSw
        skip
        go_simp
        try with_reducible rfl
      case qzz23 => exact fun _ _ _ h => h
      case szz23 => first | assumption | trivial
      case' rzz23 => simp only [Act.put, List.setIfInBounds_toArray, List.set_cons_zero, List.set_cons_succ]
      refine wpAnyH_take (i := 1) (oi := ?ozz24) (v := ?vzz24) ?hzz24 ?azz24 ?bzz24 ?czz24 ?qzz24 ?yzz24 ?szz24 ?rzz24
      case hzz24 => simp only [List.getElem?_toArray, List.getElem?_cons_zero, List.getElem?_cons_succ]; rfl
      case azz24 => kernel_rfl
      case bzz24 => kernel_rfl
      case czz24 => kernel_rfl
      case yzz24 =>
        refine Or.inl ⟨by rfl, ?_⟩
        intro w hSw
        skip
        go_simp
        try with_reducible rfl
      case qzz24 => exact fun _ _ _ h => h
      case szz24 => first | assumption | trivial
      case' rzz24 => simp only [Act.put, List.setIfInBounds_toArray, List.set_cons_zero, List.set_cons_succ]
      refine wpAnyH_take (i := 2) (oi := ?ozz25) (v := ?vzz25) ?hzz25 ?azz25 ?bzz25 ?czz25 ?qzz25 ?yzz25 ?szz25 ?rzz25
      case hzz25 => simp only [List.getElem?_toArray, List.getElem?_cons_zero, List.getElem?_cons_succ]; rfl
      case azz25 => kernel_rfl
      case bzz25 => kernel_rfl
      case czz25 => kernel_rfl
      case yzz25 =>
        refine Or.inl ⟨by rfl, ?_⟩
        intro w hSw
        skip
        go_simp
        try with_reducible rfl
      case qzz25 => exact fun _ _ _ h => h
      case szz25 => first | assumption | trivial
      case' rzz25 => simp only [Act.put, List.setIfInBounds_toArray, List.set_cons_zero, List.set_cons_succ]
      refine wpAnyH_take (i := 3) (oi := ?ozz26) (v := undef) ?hzz26 ?azz26 ?bzz26 ?czz26 ?qzz26 ?yzz26 ?szz26 ?rzz26
      case hzz26 => simp only [List.getElem?_toArray, List.getElem?_cons_zero, List.getElem?_cons_succ]; rfl
      case azz26 => kernel_rfl
      case bzz26 => kernel_rfl
      case czz26 => kernel_rfl
      case yzz26 => exact Or.inr ⟨by rfl, rfl⟩
      case qzz26 => exact fun _ _ _ h => h
      case szz26 => first | assumption | trivial
      case' rzz26 => simp only [Act.put, List.setIfInBounds_toArray, List.set_cons_zero, List.set_cons_succ]
      refine wpAnyH_take (i := 4) (oi := ?ozz27) (v := undef) ?hzz27 ?azz27 ?bzz27 ?czz27 ?qzz27 ?yzz27 ?szz27 ?rzz27
      case hzz27 => simp only [List.getElem?_toArray, List.getElem?_cons_zero, List.getElem?_cons_succ]; rfl
      case azz27 => kernel_rfl
      case bzz27 => kernel_rfl
      case czz27 => kernel_rfl
      case yzz27 => exact Or.inr ⟨by rfl, rfl⟩
      case qzz27 => exact fun _ _ _ h => h
      case szz27 => first | assumption | trivial
      case' rzz27 => simp only [Act.put, List.setIfInBounds_toArray, List.set_cons_zero, List.set_cons_succ]
      refine wpAnyH_take (i := 5) (oi := ?ozz28) (v := undef) ?hzz28 ?azz28 ?bzz28 ?czz28 ?qzz28 ?yzz28 ?szz28 ?rzz28
      case hzz28 => simp only [List.getElem?_toArray, List.getElem?_cons_zero, List.getElem?_cons_succ]; rfl
      case azz28 => kernel_rfl
      case bzz28 => kernel_rfl
      case czz28 => kernel_rfl
      case yzz28 => exact Or.inr ⟨by rfl, rfl⟩
      case qzz28 => exact fun _ _ _ h => h
      case szz28 => first | assumption | trivial
      case' rzz28 => simp only [Act.put, List.setIfInBounds_toArray, List.set_cons_zero, List.set_cons_succ]
      refine wpAnyH_take (i := 6) (oi := ?ozz29) (v := undef) ?hzz29 ?azz29 ?bzz29 ?czz29 ?qzz29 ?yzz29 ?szz29 ?rzz29
      case hzz29 => simp only [List.getElem?_toArray, List.getElem?_cons_zero, List.getElem?_cons_succ]; rfl
      case azz29 => kernel_rfl
      case bzz29 => kernel_rfl
      case czz29 => kernel_rfl
      case yzz29 => exact Or.inr ⟨by rfl, rfl⟩
      case qzz29 => exact fun _ _ _ h => h
      case szz29 => first | assumption | trivial
      case' rzz29 => simp only [Act.put, List.setIfInBounds_toArray, List.set_cons_zero, List.set_cons_succ]
      refine wpAnyH_take (i := 7) (oi := ?ozz30) (v := undef) ?hzz30 ?azz30 ?bzz30 ?czz30 ?qzz30 ?yzz30 ?szz30 ?rzz30
      case hzz30 => simp only [List.getElem?_toArray, List.getElem?_cons_zero, List.getElem?_cons_succ]; rfl
      case azz30 => kernel_rfl
      case bzz30 => kernel_rfl
      case czz30 => kernel_rfl
      case yzz30 => exact Or.inr ⟨by rfl, rfl⟩
      case qzz30 => exact fun _ _ _ h => h
      case szz30 => first | assumption | trivial
      case' rzz30 => simp only [Act.put, List.setIfInBounds_toArray, List.set_cons_zero, List.set_cons_succ]
      refine wpAnyH_take (i := 8) (oi := ?ozz31) (v := undef) ?hzz31 ?azz31 ?bzz31 ?czz31 ?qzz31 ?yzz31 ?szz31 ?rzz31
      case hzz31 => simp only [List.getElem?_toArray, List.getElem?_cons_zero, List.getElem?_cons_succ]; rfl
      case azz31 => kernel_rfl
      case bzz31 => kernel_rfl
      case czz31 => kernel_rfl
      case yzz31 => exact Or.inr ⟨by rfl, rfl⟩
      case qzz31 => exact fun _ _ _ h => h
      case szz31 => first | assumption | trivial
      case' rzz31 => simp only [Act.put, List.setIfInBounds_toArray, List.set_cons_zero, List.set_cons_succ]
      refine wpAnyH_take (i := 9) (oi := ?ozz32) (v := undef) ?hzz32 ?azz32 ?bzz32 ?czz32 ?qzz32 ?yzz32 ?szz32 ?rzz32
      case hzz32 => simp only [List.getElem?_toArray, List.getElem?_cons_zero, List.getElem?_cons_succ]; rfl
      case azz32 => kernel_rfl
      case bzz32 => kernel_rfl
      case czz32 => kernel_rfl
      case yzz32 => exact Or.inr ⟨by rfl, rfl⟩
      case qzz32 => exact fun _ _ _ h => h
      case szz32 => first | assumption | trivial
      case' rzz32 => simp only [Act.put, List.setIfInBounds_toArray, List.set_cons_zero, List.set_cons_succ]
      refine wpAnyH_take (i := 10) (oi := ?ozz33) (v := undef) ?hzz33 ?azz33 ?bzz33 ?czz33 ?qzz33 ?yzz33 ?szz33 ?rzz33
      case hzz33 => simp only [List.getElem?_toArray, List.getElem?_cons_zero, List.getElem?_cons_succ]; rfl
      case azz33 => kernel_rfl
      case bzz33 => kernel_rfl
      case czz33 => kernel_rfl
      case yzz33 => exact Or.inr ⟨by rfl, rfl⟩
      case qzz33 => exact fun _ _ _ h => h
      case szz33 => first | assumption | trivial
      case' rzz33 => simp only [Act.put, List.setIfInBounds_toArray, List.set_cons_zero, List.set_cons_succ]
      refine wpAnyH_take (i := 11) (oi := ?ozz34) (v := undef) ?hzz34 ?azz34 ?bzz34 ?czz34 ?qzz34 ?yzz34 ?szz34 ?rzz34
      case hzz34 => simp only [List.getElem?_toArray, List.getElem?_cons_zero, List.getElem?_cons_succ]; rfl
      case azz34 => kernel_rfl
      case bzz34 => kernel_rfl
      case czz34 => kernel_rfl
      case yzz34 => exact Or.inr ⟨by rfl, rfl⟩
      case qzz34 => exact fun _ _ _ h => h
      case szz34 => first | assumption | trivial
      case' rzz34 => simp only [Act.put, List.setIfInBounds_toArray, List.set_cons_zero, List.set_cons_succ]
      refine wpAnyH_take (i := 12) (oi := ?ozz35) (v := undef) ?hzz35 ?azz35 ?bzz35 ?czz35 ?qzz35 ?yzz35 ?szz35 ?rzz35
      case hzz35 => simp only [List.getElem?_toArray, List.getElem?_cons_zero, List.getElem?_cons_succ]; rfl
      case azz35 => kernel_rfl
      case bzz35 => kernel_rfl
      case czz35 => kernel_rfl
      case yzz35 => exact Or.inr ⟨by rfl, rfl⟩
      case qzz35 => exact fun _ _ _ h => h
      case szz35 => first | assumption | trivial
      case' rzz35 => simp only [Act.put, List.setIfInBounds_toArray, List.set_cons_zero, List.set_cons_succ]
      refine wpAnyH_take (i := 13) (oi := ?ozz36) (v := undef) ?hzz36 ?azz36 ?bzz36 ?czz36 ?qzz36 ?yzz36 ?szz36 ?rzz36
      case hzz36 => simp only [List.getElem?_toArray, List.getElem?_cons_zero, List.getElem?_cons_succ]; rfl
      case azz36 => kernel_rfl
      case bzz36 => kernel_rfl
      case czz36 => kernel_rfl
      case yzz36 => exact Or.inr ⟨by rfl, rfl⟩
      case qzz36 => exact fun _ _ _ h => h
      case szz36 => first | assumption | trivial
      case' rzz36 => simp only [Act.put, List.setIfInBounds_toArray, List.set_cons_zero, List.set_cons_succ]
      refine wpAnyH_take (i := 14) (oi := ?ozz37) (v := ?vzz37) ?hzz37 ?azz37 ?bzz37 ?czz37 ?qzz37 ?yzz37 ?szz37 ?rzz37
      case hzz37 => simp only [List.getElem?_toArray, List.getElem?_cons_zero, List.getElem?_cons_succ]; rfl
      case azz37 => kernel_rfl
      case bzz37 => kernel_rfl
      case czz37 => kernel_rfl
      case yzz37 =>
        refine Or.inl ⟨by rfl, ?_⟩
        intro w hSw
        skip
        go_simp
        try with_reducible rfl
      case qzz37 => exact fun _ _ _ h => h
      case szz37 => first | assumption | trivial
      case' rzz37 => simp only [Act.put, List.setIfInBounds_toArray, List.set_cons_zero, List.set_cons_succ]
      refine wpAnyH_done (by kernel_rfl) ?_ _
      go_wp2
      go_ret
      refine ⟨A4, c4, by rw [HNN.out]; rfl, ?_, HQ.out.trans hHeld⟩
      rw [HF.out, HNN.out]
      exact HO.out.q hHeld
    · obtain ⟨m, hm⟩ : ∃ m, i = m + 1 := ⟨i - 1, by omega⟩
      obtain ⟨d, hd⟩ : ∃ d, m / 2 = d := ⟨_, rfl⟩
      have hln := HO.out.len
      have hm1 : i < l.length := by omega
      have hm2 : d < l.length := by omega
      have hdn : d < N := by omega
      obtain ⟨ad, rfl, hab, y0, y1⟩ := load_al HO.out.lst hin hm1
      obtain ⟨ad2, he2, hab2, z0, z1⟩ := load_al HO.out.lst (k := d) hdn hm2
      injection he2 with he2
      subst he2
      have K1 := Lib.hid (fun W => rless_any (l[i]) (l[d]) W)
      have hg1 := g_lt hm1
      have hg2 := g_lt hm2
      have hq0 : IntKind.i64.wrap ((i : Int) - 1) = (m : Int) := by rw [IntKind.wrap_i64]; omega
      have hq1 : Int.tdiv (m : Int) 2 = (d : Int) := by subst hd; rfl
      have hq2 : IntKind.i64.wrap (d : Int) = (d : Int) := by rw [IntKind.wrap_i64]; omega
      have hi3 : 0 < i := by omega
      have hi1 : (0 : Int) < (i : Int) := by omega
      have hi2 : (i : Int) < (N : Int) := by omega
      have hd2 : (d : Int) < (N : Int) := by omega
      have hid : d < i := by omega
      have HMD := Lib.hid (And.intro hm hd)
      clear hm hd
      cases hb : less (l[i]) (l[d]) with
      | false =>
        rw [hb] at K1
        have hst : rise i l i = l := by rw [HMD.out.1]; exact rise_end (m + 1) (by rw [HMD.out.2, ← HMD.out.1, hg1, hg2]; exact hb)
        have HF := Lib.hid (HR.out.trans hst)
        clear hst
        generalize l[i] = x at y0 y1 K1
        generalize l[d] = y at z0 z1 K1
        clear hg1 hg2 hb hm1 hm2 hln hab hab2
        go_upto_region 4 with (fail)
        refine wp_region_held_drew (S := Q wr) (by kernel_rfl) ?szz38 (fun hHeld => ?rzz38)
        case szz38 =>
          exact (Q.refl wr).drew
        case' rzz38 => skip
        refine wpAnyH_take (i := 0) (oi := ?ozz39) (v := ?vzz39) ?hzz39 ?azz39 ?bzz39 ?czz39 ?qzz39 ?yzz39 ?szz39 ?rzz39
        case hzz39 => simp only [List.getElem?_toArray, List.getElem?_cons_zero]; rfl
        case azz39 => kernel_rfl
        case bzz39 => kernel_rfl
        case czz39 => kernel_rfl
        case yzz39 =>
          refine Or.inl ⟨by rfl, ?_⟩
          intro w hSw
          skip
          go_simp
          try with_reducible rfl
        case qzz39 => exact fun _ _ _ h => h
        case szz39 => first | assumption | trivial
        case' rzz39 => simp only [Act.put, List.setIfInBounds_toArray, List.set_cons_zero, List.set_cons_succ]
        refine wpAnyH_take (i := 1) (oi := ?ozz40) (v := ?vzz40) ?hzz40 ?azz40 ?bzz40 ?czz40 ?qzz40 ?yzz40 ?szz40 ?rzz40
        case hzz40 => simp only [List.getElem?_toArray, List.getElem?_cons_zero, List.getElem?_cons_succ]; rfl
        case azz40 => kernel_rfl
        case bzz40 => kernel_rfl
        case czz40 => kernel_rfl
        case yzz40 =>
          refine Or.inl ⟨by rfl, ?_⟩
          intro w hSw
          skip
          go_simp
          try with_reducible rfl
        case qzz40 => exact fun _ _ _ h => h
        case szz40 => first | assumption | trivial
        case' rzz40 => simp only [Act.put, List.setIfInBounds_toArray, List.set_cons_zero, List.set_cons_succ]
        refine wpAnyH_take (i := 2) (oi := ?ozz41) (v := ?vzz41) ?hzz41 ?azz41 ?bzz41 ?czz41 ?qzz41 ?yzz41 ?szz41 ?rzz41
        case hzz41 => simp only [List.getElem?_toArray, List.getElem?_cons_zero, List.getElem?_cons_succ]; rfl
        case azz41 => kernel_rfl
        case bzz41 => kernel_rfl
        case czz41 => kernel_rfl
        case yzz41 =>
          refine Or.inl ⟨by rfl, ?_⟩
          intro w hSw
          skip
          go_simp
          try with_reducible rfl
        case qzz41 => exact fun _ _ _ h => h
        case szz41 => first | assumption | trivial
        case' rzz41 => simp only [Act.put, List.setIfInBounds_toArray, List.set_cons_zero, List.set_cons_succ]
        refine wpAnyH_take (i := 3) (oi := ?ozz42) (v := ?vzz42) ?hzz42 ?azz42 ?bzz42 ?czz42 ?qzz42 ?yzz42 ?szz42 ?rzz42
        case hzz42 => simp only [List.getElem?_toArray, List.getElem?_cons_zero, List.getElem?_cons_succ]; rfl
        case azz42 => kernel_rfl
        case bzz42 => kernel_rfl
        case czz42 => kernel_rfl
        case yzz42 =>
          refine Or.inl ⟨by rfl, ?_⟩
          intro w hSw
          skip
          go_simp
          try with_reducible rfl
        case qzz42 => exact fun _ _ _ h => h
        case szz42 => first | assumption | trivial
        case' rzz42 => simp only [Act.put, List.setIfInBounds_toArray, List.set_cons_zero, List.set_cons_succ]
        refine wpAnyH_take (i := 4) (oi := ?ozz43) (v := ?vzz43) ?hzz43 ?azz43 ?bzz43 ?czz43 ?qzz43 ?yzz43 ?szz43 ?rzz43
        case hzz43 => simp only [List.getElem?_toArray, List.getElem?_cons_zero, List.getElem?_cons_succ]; rfl
        case azz43 => kernel_rfl
        case bzz43 => kernel_rfl
        case czz43 => kernel_rfl
        case yzz43 =>
          refine Or.inl ⟨by rfl, ?_⟩
          intro w hSw
          skip
          go_simp
          try with_reducible rfl
        case qzz43 => exact fun _ _ _ h => h
        case szz43 => first | assumption | trivial
        case' rzz43 => simp only [Act.put, List.setIfInBounds_toArray, List.set_cons_zero, List.set_cons_succ]
        refine wpAnyH_take (i := 5) (oi := ?ozz44) (v := ?vzz44) ?hzz44 ?azz44 ?bzz44 ?czz44 ?qzz44 ?yzz44 ?szz44 ?rzz44
        case hzz44 => simp only [List.getElem?_toArray, List.getElem?_cons_zero, List.getElem?_cons_succ]; rfl
        case azz44 => kernel_rfl
        case bzz44 => kernel_rfl
        case czz44 => kernel_rfl
        case yzz44 =>
          refine Or.inl ⟨by rfl, ?_⟩
          intro w hSw
          skip
          go_simp
          try with_reducible rfl
        case qzz44 => exact fun _ _ _ h => h
        case szz44 => first | assumption | trivial
        case' rzz44 => simp only [Act.put, List.setIfInBounds_toArray, List.set_cons_zero, List.set_cons_succ]
        refine wpAnyH_take (i := 6) (oi := ?ozz45) (v := ?vzz45) ?hzz45 ?azz45 ?bzz45 ?czz45 ?qzz45 ?yzz45 ?szz45 ?rzz45
        case hzz45 => simp only [List.getElem?_toArray, List.getElem?_cons_zero, List.getElem?_cons_succ]; rfl
        case azz45 => kernel_rfl
        case bzz45 => kernel_rfl
        case czz45 => kernel_rfl
        case yzz45 =>
          refine Or.inl ⟨by rfl, ?_⟩
          intro w hSw
          have a0 := box_ hSw y0; have a1 := box_ hSw y1; clear hSw
          go_simp
          try with_reducible rfl
        case qzz45 => exact fun _ _ _ h => h
        case szz45 => first | assumption | trivial
        case' rzz45 => simp only [Act.put, List.setIfInBounds_toArray, List.set_cons_zero, List.set_cons_succ]
        refine wpAnyH_take (i := 7) (oi := ?ozz46) (v := ?vzz46) ?hzz46 ?azz46 ?bzz46 ?czz46 ?qzz46 ?yzz46 ?szz46 ?rzz46
        case hzz46 => simp only [List.getElem?_toArray, List.getElem?_cons_zero, List.getElem?_cons_succ]; rfl
        case azz46 => kernel_rfl
        case bzz46 => kernel_rfl
        case czz46 => kernel_rfl
        case yzz46 =>
          refine Or.inl ⟨by rfl, ?_⟩
          intro w hSw
          skip
          go_simp
          try with_reducible rfl
        case qzz46 => exact fun _ _ _ h => h
        case szz46 => first | assumption | trivial
        case' rzz46 => simp only [Act.put, List.setIfInBounds_toArray, List.set_cons_zero, List.set_cons_succ]
        refine wpAnyH_take (i := 8) (oi := ?ozz47) (v := ?vzz47) ?hzz47 ?azz47 ?bzz47 ?czz47 ?qzz47 ?yzz47 ?szz47 ?rzz47
        case hzz47 => simp only [List.getElem?_toArray, List.getElem?_cons_zero, List.getElem?_cons_succ]; rfl
        case azz47 => kernel_rfl
        case bzz47 => kernel_rfl
        case czz47 => kernel_rfl
        case yzz47 =>
          refine Or.inl ⟨by rfl, ?_⟩
          intro w hSw
          skip
          go_simp
          try with_reducible rfl
        case qzz47 => exact fun _ _ _ h => h
        case szz47 => first | assumption | trivial
        case' rzz47 => simp only [Act.put, List.setIfInBounds_toArray, List.set_cons_zero, List.set_cons_succ]
        refine wpAnyH_take (i := 9) (oi := ?ozz48) (v := ?vzz48) ?hzz48 ?azz48 ?bzz48 ?czz48 ?qzz48 ?yzz48 ?szz48 ?rzz48
        case hzz48 => simp only [List.getElem?_toArray, List.getElem?_cons_zero, List.getElem?_cons_succ]; rfl
        case azz48 => kernel_rfl
        case bzz48 => kernel_rfl
        case czz48 => kernel_rfl
        case yzz48 =>
          refine Or.inl ⟨by rfl, ?_⟩
          intro w hSw
          skip
          go_simp
          try with_reducible rfl
        case qzz48 => exact fun _ _ _ h => h
        case szz48 => first | assumption | trivial
        case' rzz48 => simp only [Act.put, List.setIfInBounds_toArray, List.set_cons_zero, List.set_cons_succ]
        refine wpAnyH_take (i := 10) (oi := ?ozz49) (v := ?vzz49) ?hzz49 ?azz49 ?bzz49 ?czz49 ?qzz49 ?yzz49 ?szz49 ?rzz49
        case hzz49 => simp only [List.getElem?_toArray, List.getElem?_cons_zero, List.getElem?_cons_succ]; rfl
        case azz49 => kernel_rfl
        case bzz49 => kernel_rfl
        case czz49 => kernel_rfl
        case yzz49 =>
          refine Or.inl ⟨by rfl, ?_⟩
          intro w hSw
          skip
          go_simp
          try with_reducible rfl
        case qzz49 => exact fun _ _ _ h => h
        case szz49 => first | assumption | trivial
        case' rzz49 => simp only [Act.put, List.setIfInBounds_toArray, List.set_cons_zero, List.set_cons_succ]
        refine wpAnyH_take (i := 11) (oi := ?ozz50) (v := ?vzz50) ?hzz50 ?azz50 ?bzz50 ?czz50 ?qzz50 ?yzz50 ?szz50 ?rzz50
        case hzz50 => simp only [List.getElem?_toArray, List.getElem?_cons_zero, List.getElem?_cons_succ]; rfl
        case azz50 => kernel_rfl
        case bzz50 => kernel_rfl
        case czz50 => kernel_rfl
        case yzz50 =>
          refine Or.inl ⟨by rfl, ?_⟩
          intro w hSw
          skip
          go_simp
          try with_reducible rfl
        case qzz50 => exact fun _ _ _ h => h
        case szz50 => first | assumption | trivial
        case' rzz50 => simp only [Act.put, List.setIfInBounds_toArray, List.set_cons_zero, List.set_cons_succ]
        refine wpAnyH_take (i := 12) (oi := ?ozz51) (v := ?vzz51) ?hzz51 ?azz51 ?bzz51 ?czz51 ?qzz51 ?yzz51 ?szz51 ?rzz51
        case hzz51 => simp only [List.getElem?_toArray, List.getElem?_cons_zero, List.getElem?_cons_succ]; rfl
        case azz51 => kernel_rfl
        case bzz51 => kernel_rfl
        case czz51 => kernel_rfl
        case yzz51 =>
          refine Or.inl ⟨by rfl, ?_⟩
          intro w hSw
          have a2 := box_ hSw z0; have a3 := box_ hSw z1; clear hSw
          go_simp
          try with_reducible rfl
        case qzz51 => exact fun _ _ _ h => h
        case szz51 => first | assumption | trivial
        case' rzz51 => simp only [Act.put, List.setIfInBounds_toArray, List.set_cons_zero, List.set_cons_succ]
        refine wpAnyH_ready (rs := [13]) (by kernel_rfl) (by simp) ?_
        refine AllReadyH.cons (o := ?ozz53) ?hzz53 (fun K hK => ?kzz53) ?mzz53
        case hzz53 => simp only [List.getElem?_toArray, List.getElem?_cons_zero, List.getElem?_cons_succ]; rfl
        case kzz53 =>
          go_simp
          refine (K1.out _).mono ?_
          rintro e v2 ⟨rfl, q2⟩
          go_wp2_with fail
          refine hK.out _ _ ?Szz53 (fun hHeld => ?Rzz53)
          case Szz53 =>
            exact hHeld.trans q2
          case Rzz53 =>
            clear hK K
            try simp only [Act.put, List.setIfInBounds_toArray, List.set_cons_zero, List.set_cons_succ]
            refine wpAnyH_take (i := 14) (oi := ?ozz52) (v := ?vzz52) ?hzz52 ?azz52 ?bzz52 ?czz52 ?qzz52 ?yzz52 ?szz52 ?rzz52
            case hzz52 => simp only [List.getElem?_toArray, List.getElem?_cons_zero, List.getElem?_cons_succ]; rfl
            case azz52 => kernel_rfl
            case bzz52 => kernel_rfl
            case czz52 => kernel_rfl
            case yzz52 =>
              refine Or.inl ⟨by rfl, ?_⟩
              intro w hSw
              skip
              go_simp
              try with_reducible rfl
            case qzz52 => exact fun _ _ _ h => h
            case szz52 => first | assumption | trivial
            case' rzz52 => simp only [Act.put, List.setIfInBounds_toArray, List.set_cons_zero, List.set_cons_succ]
            refine wpAnyH_done (by kernel_rfl) ?_ _
            go_wp2
            go_ret
            refine ⟨_, c4, by rw [HNN.out]; rfl, ?_, HQ.out.trans hHeld⟩
            rw [HF.out, HNN.out]
            exact HO.out.q hHeld
        case' mzz53 => skip
        exact AllReadyH.nil
      | true =>
        rw [hb] at K1
        have hst : rise i l i = rise d (swp l i d) d := by
          rw [HMD.out.1, rise_step (by rw [HMD.out.2, ← HMD.out.1, hg1, hg2]; exact hb), HMD.out.2]
          exact rise_fuel m _ _ (by have := HMD.out.2; omega)
        have HF := Lib.hid (HR.out.trans hst)
        generalize l[i] = x at y0 y1 K1
        generalize l[d] = y at z0 z1 K1
        clear hg1 hg2 hb hm1 hm2 hln hab hab2 hst
        go_upto_region 4 with (fail)
        refine wp_region_held_drew (S := Q wr) (by kernel_rfl) ?szz54 (fun hHeld => ?rzz54)
        case szz54 =>
          exact (Q.refl wr).drew
        case' rzz54 => skip
        refine wpAnyH_take (i := 0) (oi := ?ozz55) (v := ?vzz55) ?hzz55 ?azz55 ?bzz55 ?czz55 ?qzz55 ?yzz55 ?szz55 ?rzz55
        case hzz55 => simp only [List.getElem?_toArray, List.getElem?_cons_zero]; rfl
        case azz55 => kernel_rfl
        case bzz55 => kernel_rfl
        case czz55 => kernel_rfl
        case yzz55 =>
          refine Or.inl ⟨by rfl, ?_⟩
          intro w hSw
          skip
          go_simp
          try with_reducible rfl
        case qzz55 => exact fun _ _ _ h => h
        case szz55 => first | assumption | trivial
        case' rzz55 => simp only [Act.put, List.setIfInBounds_toArray, List.set_cons_zero, List.set_cons_succ]
        refine wpAnyH_take (i := 1) (oi := ?ozz56) (v := ?vzz56) ?hzz56 ?azz56 ?bzz56 ?czz56 ?qzz56 ?yzz56 ?szz56 ?rzz56
        case hzz56 => simp only [List.getElem?_toArray, List.getElem?_cons_zero, List.getElem?_cons_succ]; rfl
        case azz56 => kernel_rfl
        case bzz56 => kernel_rfl
        case czz56 => kernel_rfl
        case yzz56 =>
          refine Or.inl ⟨by rfl, ?_⟩
          intro w hSw
          skip
          go_simp
          try with_reducible rfl
        case qzz56 => exact fun _ _ _ h => h
        case szz56 => first | assumption | trivial
        case' rzz56 => simp only [Act.put, List.setIfInBounds_toArray, List.set_cons_zero, List.set_cons_succ]
        refine wpAnyH_take (i := 2) (oi := ?ozz57) (v := ?vzz57) ?hzz57 ?azz57 ?bzz57 ?czz57 ?qzz57 ?yzz57 ?szz57 ?rzz57
        case hzz57 => simp only [List.getElem?_toArray, List.getElem?_cons_zero, List.getElem?_cons_succ]; rfl
        case azz57 => kernel_rfl
        case bzz57 => kernel_rfl
        case czz57 => kernel_rfl
        case yzz57 =>
          refine Or.inl ⟨by rfl, ?_⟩
          intro w hSw
          skip
          go_simp
          try with_reducible rfl
        case qzz57 => exact fun _ _ _ h => h
        case szz57 => first | assumption | trivial
        case' rzz57 => simp only [Act.put, List.setIfInBounds_toArray, List.set_cons_zero, List.set_cons_succ]
        refine wpAnyH_take (i := 3) (oi := ?ozz58) (v := ?vzz58) ?hzz58 ?azz58 ?bzz58 ?czz58 ?qzz58 ?yzz58 ?szz58 ?rzz58
        case hzz58 => simp only [List.getElem?_toArray, List.getElem?_cons_zero, List.getElem?_cons_succ]; rfl
        case azz58 => kernel_rfl
        case bzz58 => kernel_rfl
        case czz58 => kernel_rfl
        case yzz58 =>
          refine Or.inl ⟨by rfl, ?_⟩
          intro w hSw
          skip
          go_simp
          try with_reducible rfl
        case qzz58 => exact fun _ _ _ h => h
        case szz58 => first | assumption | trivial
        case' rzz58 => simp only [Act.put, List.setIfInBounds_toArray, List.set_cons_zero, List.set_cons_succ]
        refine wpAnyH_take (i := 4) (oi := ?ozz59) (v := ?vzz59) ?hzz59 ?azz59 ?bzz59 ?czz59 ?qzz59 ?yzz59 ?szz59 ?rzz59
        case hzz59 => simp only [List.getElem?_toArray, List.getElem?_cons_zero, List.getElem?_cons_succ]; rfl
        case azz59 => kernel_rfl
        case bzz59 => kernel_rfl
        case czz59 => kernel_rfl
        case yzz59 =>
          refine Or.inl ⟨by rfl, ?_⟩
          intro w hSw
          skip
          go_simp
          try with_reducible rfl
        case qzz59 => exact fun _ _ _ h => h
        case szz59 => first | assumption | trivial
        case' rzz59 => simp only [Act.put, List.setIfInBounds_toArray, List.set_cons_zero, List.set_cons_succ]
        refine wpAnyH_take (i := 5) (oi := ?ozz60) (v := ?vzz60) ?hzz60 ?azz60 ?bzz60 ?czz60 ?qzz60 ?yzz60 ?szz60 ?rzz60
        case hzz60 => simp only [List.getElem?_toArray, List.getElem?_cons_zero, List.getElem?_cons_succ]; rfl
        case azz60 => kernel_rfl
        case bzz60 => kernel_rfl
        case czz60 => kernel_rfl
        case yzz60 =>
          refine Or.inl ⟨by rfl, ?_⟩
          intro w hSw
          skip
          go_simp
          try with_reducible rfl
        case qzz60 => exact fun _ _ _ h => h
        case szz60 => first | assumption | trivial
        case' rzz60 => simp only [Act.put, List.setIfInBounds_toArray, List.set_cons_zero, List.set_cons_succ]
        refine wpAnyH_take (i := 6) (oi := ?ozz61) (v := ?vzz61) ?hzz61 ?azz61 ?bzz61 ?czz61 ?qzz61 ?yzz61 ?szz61 ?rzz61
        case hzz61 => simp only [List.getElem?_toArray, List.getElem?_cons_zero, List.getElem?_cons_succ]; rfl
        case azz61 => kernel_rfl
        case bzz61 => kernel_rfl
        case czz61 => kernel_rfl
        case yzz61 =>
          refine Or.inl ⟨by rfl, ?_⟩
          intro w hSw
          have a0 := box_ hSw y0; have a1 := box_ hSw y1; clear hSw
          go_simp
          try with_reducible rfl
        case qzz61 => exact fun _ _ _ h => h
        case szz61 => first | assumption | trivial
        case' rzz61 => simp only [Act.put, List.setIfInBounds_toArray, List.set_cons_zero, List.set_cons_succ]
        refine wpAnyH_take (i := 7) (oi := ?ozz62) (v := ?vzz62) ?hzz62 ?azz62 ?bzz62 ?czz62 ?qzz62 ?yzz62 ?szz62 ?rzz62
        case hzz62 => simp only [List.getElem?_toArray, List.getElem?_cons_zero, List.getElem?_cons_succ]; rfl
        case azz62 => kernel_rfl
        case bzz62 => kernel_rfl
        case czz62 => kernel_rfl
        case yzz62 =>
          refine Or.inl ⟨by rfl, ?_⟩
          intro w hSw
          skip
          go_simp
          try with_reducible rfl
        case qzz62 => exact fun _ _ _ h => h
        case szz62 => first | assumption | trivial
        case' rzz62 => simp only [Act.put, List.setIfInBounds_toArray, List.set_cons_zero, List.set_cons_succ]
        refine wpAnyH_take (i := 8) (oi := ?ozz63) (v := ?vzz63) ?hzz63 ?azz63 ?bzz63 ?czz63 ?qzz63 ?yzz63 ?szz63 ?rzz63
        case hzz63 => simp only [List.getElem?_toArray, List.getElem?_cons_zero, List.getElem?_cons_succ]; rfl
        case azz63 => kernel_rfl
        case bzz63 => kernel_rfl
        case czz63 => kernel_rfl
        case yzz63 =>
          refine Or.inl ⟨by rfl, ?_⟩
          intro w hSw
          skip
          go_simp
          try with_reducible rfl
        case qzz63 => exact fun _ _ _ h => h
        case szz63 => first | assumption | trivial
        case' rzz63 => simp only [Act.put, List.setIfInBounds_toArray, List.set_cons_zero, List.set_cons_succ]
        refine wpAnyH_take (i := 9) (oi := ?ozz64) (v := ?vzz64) ?hzz64 ?azz64 ?bzz64 ?czz64 ?qzz64 ?yzz64 ?szz64 ?rzz64
        case hzz64 => simp only [List.getElem?_toArray, List.getElem?_cons_zero, List.getElem?_cons_succ]; rfl
        case azz64 => kernel_rfl
        case bzz64 => kernel_rfl
        case czz64 => kernel_rfl
        case yzz64 =>
          refine Or.inl ⟨by rfl, ?_⟩
          intro w hSw
          skip
          go_simp
          try with_reducible rfl
        case qzz64 => exact fun _ _ _ h => h
        case szz64 => first | assumption | trivial
        case' rzz64 => simp only [Act.put, List.setIfInBounds_toArray, List.set_cons_zero, List.set_cons_succ]
        refine wpAnyH_take (i := 10) (oi := ?ozz65) (v := ?vzz65) ?hzz65 ?azz65 ?bzz65 ?czz65 ?qzz65 ?yzz65 ?szz65 ?rzz65
        case hzz65 => simp only [List.getElem?_toArray, List.getElem?_cons_zero, List.getElem?_cons_succ]; rfl
        case azz65 => kernel_rfl
        case bzz65 => kernel_rfl
        case czz65 => kernel_rfl
        case yzz65 =>
          refine Or.inl ⟨by rfl, ?_⟩
          intro w hSw
          skip
          go_simp
          try with_reducible rfl
        case qzz65 => exact fun _ _ _ h => h
        case szz65 => first | assumption | trivial
        case' rzz65 => simp only [Act.put, List.setIfInBounds_toArray, List.set_cons_zero, List.set_cons_succ]
        refine wpAnyH_take (i := 11) (oi := ?ozz66) (v := ?vzz66) ?hzz66 ?azz66 ?bzz66 ?czz66 ?qzz66 ?yzz66 ?szz66 ?rzz66
        case hzz66 => simp only [List.getElem?_toArray, List.getElem?_cons_zero, List.getElem?_cons_succ]; rfl
        case azz66 => kernel_rfl
        case bzz66 => kernel_rfl
        case czz66 => kernel_rfl
        case yzz66 =>
          refine Or.inl ⟨by rfl, ?_⟩
          intro w hSw
          skip
          go_simp
          try with_reducible rfl
        case qzz66 => exact fun _ _ _ h => h
        case szz66 => first | assumption | trivial
        case' rzz66 => simp only [Act.put, List.setIfInBounds_toArray, List.set_cons_zero, List.set_cons_succ]
        refine wpAnyH_take (i := 12) (oi := ?ozz67) (v := ?vzz67) ?hzz67 ?azz67 ?bzz67 ?czz67 ?qzz67 ?yzz67 ?szz67 ?rzz67
        case hzz67 => simp only [List.getElem?_toArray, List.getElem?_cons_zero, List.getElem?_cons_succ]; rfl
        case azz67 => kernel_rfl
        case bzz67 => kernel_rfl
        case czz67 => kernel_rfl
        case yzz67 =>
          refine Or.inl ⟨by rfl, ?_⟩
          intro w hSw
          have a2 := box_ hSw z0; have a3 := box_ hSw z1; clear hSw
          go_simp
          try with_reducible rfl
        case qzz67 => exact fun _ _ _ h => h
        case szz67 => first | assumption | trivial
        case' rzz67 => simp only [Act.put, List.setIfInBounds_toArray, List.set_cons_zero, List.set_cons_succ]
        refine wpAnyH_ready (rs := [13]) (by kernel_rfl) (by simp) ?_
        refine AllReadyH.cons (o := ?ozz69) ?hzz69 (fun K hK => ?kzz69) ?mzz69
        case hzz69 => simp only [List.getElem?_toArray, List.getElem?_cons_zero, List.getElem?_cons_succ]; rfl
        case kzz69 =>
          go_simp
          refine (K1.out _).mono ?_
          rintro e v2 ⟨rfl, q2⟩
          go_wp2_with fail
          refine hK.out _ _ ?Szz69 (fun hHeld => ?Rzz69)
          case Szz69 =>
            exact hHeld.trans q2
          case Rzz69 =>
            clear hK K
            try simp only [Act.put, List.setIfInBounds_toArray, List.set_cons_zero, List.set_cons_succ]
            refine wpAnyH_take (i := 14) (oi := ?ozz68) (v := ?vzz68) ?hzz68 ?azz68 ?bzz68 ?czz68 ?qzz68 ?yzz68 ?szz68 ?rzz68
            case hzz68 => simp only [List.getElem?_toArray, List.getElem?_cons_zero, List.getElem?_cons_succ]; rfl
            case azz68 => kernel_rfl
            case bzz68 => kernel_rfl
            case czz68 => kernel_rfl
            case yzz68 =>
              refine Or.inl ⟨by rfl, ?_⟩
              intro w hSw
              skip
              go_simp
              try with_reducible rfl
            case qzz68 => exact fun _ _ _ h => h
            case szz68 => first | assumption | trivial
            case' rzz68 => simp only [Act.put, List.setIfInBounds_toArray, List.set_cons_zero, List.set_cons_succ]
            refine wpAnyH_done (by kernel_rfl) ?_ _
            have HQ3 := Lib.hid (HQ.out.trans hHeld)
            have HO3 := Lib.hid (HO.out.q hHeld)
            clear K1 y0 y1 z0 z1
            go_wp2_with fail
            refine (rswap_any (some ad) N c4 l i d _ (HO3.out.in_ hb2) hin hdn (by omega)).mono ?_
            rintro e v3 ⟨A5, c5, rfl, o5, q5⟩
            have HQ4 := Lib.hid (HQ3.out.trans q5)
            have HO4 := Lib.hid (o5.lower (b2 := w.heap.size) HQ3.out.size)
            clear o5 q5
            go_wp2
            go_roundw
            case rel => exact ⟨d, swp l i d, A5, c5, rfl, by go_num, hdn, HO4.out, HF.out, HQ4.out⟩
            case measure => simp [intOf]; omega
        case' mzz69 => skip
        exact AllReadyH.nil
end Am
end Go.Proofs.Ytbclamfpoigneaa
