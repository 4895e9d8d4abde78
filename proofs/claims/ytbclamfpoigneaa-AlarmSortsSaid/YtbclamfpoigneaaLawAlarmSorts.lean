/- For every row of alarms: what was put comes out, each once, the earliest first. No condition. -/
import Derived.Test.YtbclamfpoigneaaAlShown
import Derived.Test.YtbclamfpoigneaaFrame
import Derived.Test.YtbclamfpoigneaaHeldL
import Derived.Deep.DeepCutAuto
import Derived.BigQuiet
namespace Go.Proofs.Ytbclamfpoigneaa.alarmSorts
set_option maxRecDepth 100000
open Go.ChangeShapes Go.WideShapes Go.ChangeAt Go.RowKit Am
set_option linter.unusedVariables false
set_option linter.unusedSimpArgs false

theorem cnt_take {l : List Al} {k : Nat} (x : Al) (hk : k < l.length) : (l.take (k + 1)).count x = (l.take k).count x + (if l[k] = x then 1 else 0) := by
  rw [List.take_add_one, List.getElem?_eq_getElem hk, List.count_append]
  congr 1
  show List.count x [l[k]] = _
  rw [List.count_singleton]
  by_cases h : l[k] = x
  · simp [h]
  · simp [h]
theorem cnt_le (x : Al) (l : List Al) (k : Nat) : (l.take k).count x ≤ k := Nat.le_trans List.count_le_length (by rw [List.length_take]; exact Nat.min_le_left _ _)
theorem al_ne (a b : Al) (h : ¬ a = b) : (decide (a.at_ = b.at_) && decide (a.id = b.id)) = false ∧ (decide ((a.at_ : Int) = (b.at_ : Int)) && decide (a.id = b.id)) = false := by
  have h1 := al_eq a b
  rw [decide_eq_false h] at h1
  refine ⟨h1.symm, ?_⟩
  rw [show decide ((a.at_ : Int) = (b.at_ : Int)) = decide (a.at_ = b.at_) from decide_eq_decide.2 Int.ofNat_inj]
  exact h1.symm
/-- what the pops leave, and what came out. -/
theorem pops_at {h : List Al} (j : Nat) : (popsN (j + 1) h).1 = (popsN j h).1 ++ [g (popsN j h).2 0] ∧ (popsN (j + 1) h).2 = popR (popsN j h).2 := ⟨rfl, rfl⟩
theorem pops_last {h : List Al} (H : Heap h) (j : Nat) (hj : j + 1 < h.length) (hl : j < (popsN (j + 1) h).1.length) : less (g (popsN (j + 1) h).2 0) ((popsN (j + 1) h).1[j]) = false := by
  have e : (popsN (j + 1) h).1[j] = g (popsN j h).2 0 := by
    have h0 : (popsN (j + 1) h).1 = (popsN j h).1 ++ [g (popsN j h).2 0] := rfl
    have h1 := (popsN_len j h).1
    simp only [h0]
    rw [List.getElem_append_right (by omega)]
    simp [h1]
  rw [e, less_f]
  exact popsN_rises H j hj
set_option maxHeartbeats 8000000 in
theorem walk (A : Option Addr) (n c : Nat) (l : List Al) (w : World) (hd : In_ alK w A n c l) (hb : n * 16 ≤ 140737488351232) (hp : ∀ a ∈ l, AlIn a) :
    Calls Try.prog 5 #[.slice A n c] w fun e w' => e = .returned (.bool true) ∧ Q w w' := by
  have K0 := Lib.hid (fun W => alshown_any W)
  have HD := Lib.hid hd
  have HL := Lib.hid hd.len
  clear hp hd
  by_cases hbig : 200 < n
  · have hbi : (200 : Int) < (n : Int) := by omega
    go_enter Try.func5, Try.ntmps5
    go_wp2_with fail
    refine (K0.out _).mono ?_
    rintro e w1 ⟨rfl, q1⟩
    go_wp2
    go_ret
    exact ⟨rfl, q1⟩
  have hbi : ¬ (200 : Int) < (n : Int) := by omega
  have hnb : n ≤ 200 := by omega
  clear hbig
  have K1 := Lib.hid (fun (B : Option Addr) (m d : Nat) (h : List Al) (x : Al) W hA (hm : m ≤ 1000) => aput_any B m d h x W hA (by omega))
  have K2 := Lib.hid (fun (B : Option Addr) (m d : Nat) (h : List Al) W hA (hm : m ≤ 1000) => apops_any B m d h W hA (by omega))
  have K3 := Lib.hid (fun x y W => aless_any x y W)
  unfold RetI alV at K1
  unfold RetPs alV at K2
  unfold alV at K3
  go_enter Try.func5, Try.ntmps5
  go_wp2_with fail
  refine (K0.out _).mono ?_
  rintro e w1 ⟨rfl, q1⟩
  have Q1 := Lib.hid q1
  clear q1
  go_wp2
  go_loopw [4, 5] (fun hv iv wr => ∃ (k : Nat) (A4 : Option Addr) (c4 : Nat) (h : List Al), k ≤ n ∧ iv = .int .i64 (k : Nat) ∧ hv = .slice A4 k c4 ∧ h = puts [] (l.take k) ∧ In_ alK wr A4 k c4 h ∧ Q w1 wr) (fun _ i _ => n - (intOf i).toNat)
  case atStart => exact ⟨0, none, 0, [], Nat.zero_le _, rfl, rfl, rfl, In_.none_ _ _, Q.refl _⟩
  case round =>
    obtain ⟨k, A4, c4, h, hk, rfl, rfl, hh, hi, hq⟩ := hrel
    have HI := Lib.hid hi
    have HQ := Lib.hid hq
    have HH := Lib.hid hh
    clear hi hq hh
    by_cases hlt : k < n
    · have hkn : (k : Int) < (n : Int) := by omega
      have hkl : k < l.length := by rw [HL.out]; exact hlt
      obtain ⟨ad, rfl, hab, y0, y1⟩ := load_al (HD.out.lst.q (Q1.out.trans HQ.out)) hlt hkl
      have hst : put h l[k] = puts [] (l.take (k + 1)) := by
        rw [HH.out, List.take_add_one, List.getElem?_eq_getElem hkl]
        exact (puts_snoc _ _ _).symm
      have HST := Lib.hid hst
      have hpl := put_len h l[k]
      rw [HI.out.len] at hpl
      clear hst
      generalize l[k] = x at y0 y1 HST hpl
      have K4 := Lib.hid (fun W hA => K1.out A4 k c4 h x W hA (by omega))
      generalize put h x = p at K4 HST hpl
      generalize hpm : p.length = pm at *
      have HPM := Lib.hid (And.intro hpm hpl)
      clear hpm hpl hkl hab
      go_wp2_with fail
      refine (K4.out _ HI.out).mono ?_
      rintro e w2 ⟨A5, c5, rfl, i5, q5⟩
      have X := Lib.hid (And.intro i5 (HQ.out.trans q5))
      clear i5 q5
      go_wp2
      go_roundw
      case rel => exact ⟨k + 1, A5, c5, p, by omega, by go_num, by rw [HPM.out.2], HST.out, by rw [← HPM.out.2]; exact X.out.1, X.out.2⟩
      case measure => simp [intOf]; omega
    have hkn : ¬ (k : Int) < (n : Int) := by omega
    obtain rfl : k = n := by omega
    have hhl : h = puts [] l := by rw [HH.out, List.take_of_length_le (by rw [HL.out]; exact Nat.le_refl _)]
    have hheap : Heap h := by rw [hhl]; exact puts_heap l [] heap_nil
    have hperm : h.Perm l := by rw [hhl]; exact puts_perm l []
    have HP := Lib.hid (And.intro hheap (And.intro hperm HI.out.len))
    clear hk hlt hhl hheap hperm HH
    have X := Lib.hid (Q1.out.trans HQ.out)
    generalize hv4 : wr = v4 at X HI ⊢
    clear hv4 HQ
    go_wp2
    go_loopw [4, 6] (fun hv ov wr => ∃ (j : Nat) (A4 B : Option Addr) (c4 d : Nat) (p o : List Al), j ≤ k ∧ hv = .slice A4 (k - j) c4 ∧ ov = .slice B j d ∧ p = (popsN j h).2 ∧ o = (popsN j h).1 ∧ In_ alK wr A4 (k - j) c4 p ∧ OwnK alK wr v4.heap.size B j d o ∧ Apt A4 B ∧ Q v4 wr) (fun hv _ _ => match hv with | .slice _ m _ => m | _ => 0)
    case atStart => exact ⟨0, A4, none, c4, 0, h, [], Nat.zero_le _, rfl, rfl, rfl, rfl, HI.out, OwnK.nil_ _ _ _, (fun _ _ _ e => by cases e), Q.refl _⟩
    case round =>
      obtain ⟨j, A6, B, c6, d, p, o, hj, rfl, rfl, hpe, hoe, hi, ho, hap, hq⟩ := hrel
      have HI2 := Lib.hid hi
      have HO := Lib.hid ho
      have HQ2 := Lib.hid hq
      have HPE := Lib.hid (And.intro hpe hoe)
      have HOB := Lib.hid (own_ge ho)
      clear hi ho hq hpe hoe hap
      by_cases hlt : j < k
      · have hjk : (j : Int) < (k : Int) := by omega
        obtain ⟨m, hm⟩ : ∃ m, k - j = m + 1 := ⟨k - j - 1, by omega⟩
        have hpl : p.length = m + 1 := by rw [HI2.out.len, hm]
        have hp0 : 0 < p.length := by omega
        have hprl := popR_len p
        rw [hpl, Nat.add_sub_cancel] at hprl
        have hnx := pops_at (h := h) j
        rw [← HPE.out.1, ← HPE.out.2] at hnx
        have HNX := Lib.hid hnx
        have K4 := Lib.hid (fun W hA => K2.out A6 (k - j) c6 p W hA (by omega))
        rw [decide_eq_true hp0] at K4
        have HP0 := Lib.hid hp0
        have hls : ∀ (i : Nat) (hi : i + 1 = j) (hl : i < o.length), less (g p 0) o[i] = false := by
          intro i hi hl
          subst hi
          have h1 := pops_last HP.out.1 i (by rw [HP.out.2.2]; omega) (by rw [← HPE.out.2]; exact hl)
          have h2 := HPE.out.2
          have h3 := HPE.out.1
          subst h2 h3
          exact h1
        have HLS := Lib.hid hls
        clear hnx hls hp0 hpl
        generalize hf : g p 0 = f at *
        generalize popR p = pr at *
        generalize hprm : pr.length = prm at *
        have HPM := Lib.hid (And.intro hprm (And.intro hprl hm))
        have hbo : (j + 1) * alK.bs ≤ 140737488355328 := by show (j + 1) * 16 ≤ _; omega
        clear hprm hprl hm hf
        go_wp2_with fail
        refine (K4.out _ HI2.out).mono ?_
        rintro e w7 ⟨A7, c7, rfl, i7, f7, q7⟩
        have qa := (Q.refl w7).alloc (.cells #[.int .u64 (f.at_ : Int), .int .i64 f.id] 25)
        have AP7 := Lib.hid (f7 HP0.out)
        have W78 := Lib.hid (Q.size qa)
        have Y := Lib.hid (And.intro ((HQ2.out.trans q7).trans qa) (And.intro (i7.q qa) (And.intro ((HO.out.q q7).q qa) (Bx.new w7 [.int .u64 (f.at_ : Int), .int .i64 f.id] 25))))
        clear q7 qa i7 f7 K4
        go_upto_region 12 with (fail)
        change Hid (Q v4 (w7.alloc (.cells #[.int .u64 (f.at_ : Int), .int .i64 f.id] 25)) ∧ In_ alK (w7.alloc (.cells #[.int .u64 (f.at_ : Int), .int .i64 f.id] 25)) _ _ _ _ ∧ OwnK alK (w7.alloc (.cells #[.int .u64 (f.at_ : Int), .int .i64 f.id] 25)) _ _ _ _ _ ∧ Bx (w7.alloc (.cells #[.int .u64 (f.at_ : Int), .int .i64 f.id] 25)) _ _) at Y
        change Hid (_ ≤ (w7.alloc (.cells #[.int .u64 (f.at_ : Int), .int .i64 f.id] 25)).heap.size) at W78
        generalize hb8 : w7.heap.size = b8 at Y W78 AP7 ⊢
        clear hb8
        generalize (w7.alloc (.cells #[.int .u64 (f.at_ : Int), .int .i64 f.id] 25)) = w8 at Y W78 ⊢
        go_cut [58] (fun s58 wx => s58 = .bool false ∧ Q w8 wx)
        case first =>
          obtain ⟨⟨x0, x1⟩, _⟩ := Y.out.2.2.2.get2
          by_cases h0 : j = 0
          · subst h0
            clear hjk HLS
            refine wp_region_held_drew (S := Q w8) (by kernel_rfl) ?szz96 (fun hHeld => ?rzz96)
            case szz96 =>
              exact (Q.refl w8).drew
            case' rzz96 => skip
            refine wpAnyH_take (i := 0) (oi := ?ozz97) (v := ?vzz97) ?hzz97 ?azz97 ?bzz97 ?czz97 ?qzz97 ?yzz97 ?szz97 ?rzz97
            case hzz97 => simp only [List.getElem?_toArray, List.getElem?_cons_zero]; rfl
            case azz97 => kernel_rfl
            case bzz97 => kernel_rfl
            case czz97 => kernel_rfl
            case yzz97 =>
              refine Or.inl ⟨by rfl, ?_⟩
              intro w hSw
              skip
              go_simp
              try with_reducible rfl
            case qzz97 => exact fun _ _ _ h => h
            case szz97 => first | assumption | trivial
            case' rzz97 => simp only [Act.put, List.setIfInBounds_toArray, List.set_cons_zero, List.set_cons_succ]
            refine wpAnyH_take (i := 1) (oi := ?ozz98) (v := ?vzz98) ?hzz98 ?azz98 ?bzz98 ?czz98 ?qzz98 ?yzz98 ?szz98 ?rzz98
            case hzz98 => simp only [List.getElem?_toArray, List.getElem?_cons_zero, List.getElem?_cons_succ]; rfl
            case azz98 => kernel_rfl
            case bzz98 => kernel_rfl
            case czz98 => kernel_rfl
            case yzz98 =>
              refine Or.inl ⟨by rfl, ?_⟩
              intro w hSw
              skip
              go_simp
              try with_reducible rfl
            case qzz98 => exact fun _ _ _ h => h
            case szz98 => first | assumption | trivial
            case' rzz98 => simp only [Act.put, List.setIfInBounds_toArray, List.set_cons_zero, List.set_cons_succ]
            refine wpAnyH_take (i := 2) (oi := ?ozz99) (v := ?vzz99) ?hzz99 ?azz99 ?bzz99 ?czz99 ?qzz99 ?yzz99 ?szz99 ?rzz99
            case hzz99 => simp only [List.getElem?_toArray, List.getElem?_cons_zero, List.getElem?_cons_succ]; rfl
            case azz99 => kernel_rfl
            case bzz99 => kernel_rfl
            case czz99 => kernel_rfl
            case yzz99 =>
              refine Or.inl ⟨by rfl, ?_⟩
              intro w hSw
              skip
              go_simp
              try with_reducible rfl
            case qzz99 => exact fun _ _ _ h => h
            case szz99 => first | assumption | trivial
            case' rzz99 => simp only [Act.put, List.setIfInBounds_toArray, List.set_cons_zero, List.set_cons_succ]
            refine wpAnyH_take (i := 3) (oi := ?ozz100) (v := ?vzz100) ?hzz100 ?azz100 ?bzz100 ?czz100 ?qzz100 ?yzz100 ?szz100 ?rzz100
            case hzz100 => simp only [List.getElem?_toArray, List.getElem?_cons_zero, List.getElem?_cons_succ]; rfl
            case azz100 => kernel_rfl
            case bzz100 => kernel_rfl
            case czz100 => kernel_rfl
            case yzz100 =>
              refine Or.inl ⟨by rfl, ?_⟩
              intro w hSw
              skip
              go_simp
              try with_reducible rfl
            case qzz100 => exact fun _ _ _ h => h
            case szz100 => first | assumption | trivial
            case' rzz100 => simp only [Act.put, List.setIfInBounds_toArray, List.set_cons_zero, List.set_cons_succ]
            refine wpAnyH_take (i := 4) (oi := ?ozz101) (v := ?vzz101) ?hzz101 ?azz101 ?bzz101 ?czz101 ?qzz101 ?yzz101 ?szz101 ?rzz101
            case hzz101 => simp only [List.getElem?_toArray, List.getElem?_cons_zero, List.getElem?_cons_succ]; rfl
            case azz101 => kernel_rfl
            case bzz101 => kernel_rfl
            case czz101 => kernel_rfl
            case yzz101 =>
              refine Or.inl ⟨by rfl, ?_⟩
              intro w hSw
              skip
              go_simp
              try with_reducible rfl
            case qzz101 => exact fun _ _ _ h => h
            case szz101 => first | assumption | trivial
            case' rzz101 => simp only [Act.put, List.setIfInBounds_toArray, List.set_cons_zero, List.set_cons_succ]
            refine wpAnyH_take (i := 5) (oi := ?ozz102) (v := ?vzz102) ?hzz102 ?azz102 ?bzz102 ?czz102 ?qzz102 ?yzz102 ?szz102 ?rzz102
            case hzz102 => simp only [List.getElem?_toArray, List.getElem?_cons_zero, List.getElem?_cons_succ]; rfl
            case azz102 => kernel_rfl
            case bzz102 => kernel_rfl
            case czz102 => kernel_rfl
            case yzz102 =>
              refine Or.inl ⟨by rfl, ?_⟩
              intro w hSw
              skip
              go_simp
              try with_reducible rfl
            case qzz102 => exact fun _ _ _ h => h
            case szz102 => first | assumption | trivial
            case' rzz102 => simp only [Act.put, List.setIfInBounds_toArray, List.set_cons_zero, List.set_cons_succ]
            refine wpAnyH_take (i := 6) (oi := ?ozz103) (v := ?vzz103) ?hzz103 ?azz103 ?bzz103 ?czz103 ?qzz103 ?yzz103 ?szz103 ?rzz103
            case hzz103 => simp only [List.getElem?_toArray, List.getElem?_cons_zero, List.getElem?_cons_succ]; rfl
            case azz103 => kernel_rfl
            case bzz103 => kernel_rfl
            case czz103 => kernel_rfl
            case yzz103 =>
              refine Or.inl ⟨by rfl, ?_⟩
              intro w hSw
              skip
              go_simp
              try with_reducible rfl
            case qzz103 => exact fun _ _ _ h => h
            case szz103 => first | assumption | trivial
            case' rzz103 => simp only [Act.put, List.setIfInBounds_toArray, List.set_cons_zero, List.set_cons_succ]
            refine wpAnyH_take (i := 7) (oi := ?ozz104) (v := undef) ?hzz104 ?azz104 ?bzz104 ?czz104 ?qzz104 ?yzz104 ?szz104 ?rzz104
            case hzz104 => simp only [List.getElem?_toArray, List.getElem?_cons_zero, List.getElem?_cons_succ]; rfl
            case azz104 => kernel_rfl
            case bzz104 => kernel_rfl
            case czz104 => kernel_rfl
            case yzz104 => exact Or.inr ⟨by rfl, rfl⟩
            case qzz104 => exact fun _ _ _ h => h
            case szz104 => first | assumption | trivial
            case' rzz104 => simp only [Act.put, List.setIfInBounds_toArray, List.set_cons_zero, List.set_cons_succ]
            refine wpAnyH_take (i := 8) (oi := ?ozz105) (v := undef) ?hzz105 ?azz105 ?bzz105 ?czz105 ?qzz105 ?yzz105 ?szz105 ?rzz105
            case hzz105 => simp only [List.getElem?_toArray, List.getElem?_cons_zero, List.getElem?_cons_succ]; rfl
            case azz105 => kernel_rfl
            case bzz105 => kernel_rfl
            case czz105 => kernel_rfl
            case yzz105 => exact Or.inr ⟨by rfl, rfl⟩
            case qzz105 => exact fun _ _ _ h => h
            case szz105 => first | assumption | trivial
            case' rzz105 => simp only [Act.put, List.setIfInBounds_toArray, List.set_cons_zero, List.set_cons_succ]
            refine wpAnyH_take (i := 9) (oi := ?ozz106) (v := undef) ?hzz106 ?azz106 ?bzz106 ?czz106 ?qzz106 ?yzz106 ?szz106 ?rzz106
            case hzz106 => simp only [List.getElem?_toArray, List.getElem?_cons_zero, List.getElem?_cons_succ]; rfl
            case azz106 => kernel_rfl
            case bzz106 => kernel_rfl
            case czz106 => kernel_rfl
            case yzz106 => exact Or.inr ⟨by rfl, rfl⟩
            case qzz106 => exact fun _ _ _ h => h
            case szz106 => first | assumption | trivial
            case' rzz106 => simp only [Act.put, List.setIfInBounds_toArray, List.set_cons_zero, List.set_cons_succ]
            refine wpAnyH_take (i := 10) (oi := ?ozz107) (v := undef) ?hzz107 ?azz107 ?bzz107 ?czz107 ?qzz107 ?yzz107 ?szz107 ?rzz107
            case hzz107 => simp only [List.getElem?_toArray, List.getElem?_cons_zero, List.getElem?_cons_succ]; rfl
            case azz107 => kernel_rfl
            case bzz107 => kernel_rfl
            case czz107 => kernel_rfl
            case yzz107 => exact Or.inr ⟨by rfl, rfl⟩
            case qzz107 => exact fun _ _ _ h => h
            case szz107 => first | assumption | trivial
            case' rzz107 => simp only [Act.put, List.setIfInBounds_toArray, List.set_cons_zero, List.set_cons_succ]
            refine wpAnyH_take (i := 11) (oi := ?ozz108) (v := undef) ?hzz108 ?azz108 ?bzz108 ?czz108 ?qzz108 ?yzz108 ?szz108 ?rzz108
            case hzz108 => simp only [List.getElem?_toArray, List.getElem?_cons_zero, List.getElem?_cons_succ]; rfl
            case azz108 => kernel_rfl
            case bzz108 => kernel_rfl
            case czz108 => kernel_rfl
            case yzz108 => exact Or.inr ⟨by rfl, rfl⟩
            case qzz108 => exact fun _ _ _ h => h
            case szz108 => first | assumption | trivial
            case' rzz108 => simp only [Act.put, List.setIfInBounds_toArray, List.set_cons_zero, List.set_cons_succ]
            refine wpAnyH_take (i := 12) (oi := ?ozz109) (v := undef) ?hzz109 ?azz109 ?bzz109 ?czz109 ?qzz109 ?yzz109 ?szz109 ?rzz109
            case hzz109 => simp only [List.getElem?_toArray, List.getElem?_cons_zero, List.getElem?_cons_succ]; rfl
            case azz109 => kernel_rfl
            case bzz109 => kernel_rfl
            case czz109 => kernel_rfl
            case yzz109 => exact Or.inr ⟨by rfl, rfl⟩
            case qzz109 => exact fun _ _ _ h => h
            case szz109 => first | assumption | trivial
            case' rzz109 => simp only [Act.put, List.setIfInBounds_toArray, List.set_cons_zero, List.set_cons_succ]
            refine wpAnyH_take (i := 13) (oi := ?ozz110) (v := undef) ?hzz110 ?azz110 ?bzz110 ?czz110 ?qzz110 ?yzz110 ?szz110 ?rzz110
            case hzz110 => simp only [List.getElem?_toArray, List.getElem?_cons_zero, List.getElem?_cons_succ]; rfl
            case azz110 => kernel_rfl
            case bzz110 => kernel_rfl
            case czz110 => kernel_rfl
            case yzz110 => exact Or.inr ⟨by rfl, rfl⟩
            case qzz110 => exact fun _ _ _ h => h
            case szz110 => first | assumption | trivial
            case' rzz110 => simp only [Act.put, List.setIfInBounds_toArray, List.set_cons_zero, List.set_cons_succ]
            refine wpAnyH_take (i := 14) (oi := ?ozz111) (v := undef) ?hzz111 ?azz111 ?bzz111 ?czz111 ?qzz111 ?yzz111 ?szz111 ?rzz111
            case hzz111 => simp only [List.getElem?_toArray, List.getElem?_cons_zero, List.getElem?_cons_succ]; rfl
            case azz111 => kernel_rfl
            case bzz111 => kernel_rfl
            case czz111 => kernel_rfl
            case yzz111 => exact Or.inr ⟨by rfl, rfl⟩
            case qzz111 => exact fun _ _ _ h => h
            case szz111 => first | assumption | trivial
            case' rzz111 => simp only [Act.put, List.setIfInBounds_toArray, List.set_cons_zero, List.set_cons_succ]
            refine wpAnyH_take (i := 15) (oi := ?ozz112) (v := ?vzz112) ?hzz112 ?azz112 ?bzz112 ?czz112 ?qzz112 ?yzz112 ?szz112 ?rzz112
            case hzz112 => simp only [List.getElem?_toArray, List.getElem?_cons_zero, List.getElem?_cons_succ]; rfl
            case azz112 => kernel_rfl
            case bzz112 => kernel_rfl
            case czz112 => kernel_rfl
            case yzz112 =>
              refine Or.inl ⟨by rfl, ?_⟩
              intro w hSw
              skip
              go_simp
              try with_reducible rfl
            case qzz112 => exact fun _ _ _ h => h
            case szz112 => first | assumption | trivial
            case' rzz112 => simp only [Act.put, List.setIfInBounds_toArray, List.set_cons_zero, List.set_cons_succ]
            refine wpAnyH_take (i := 16) (oi := ?ozz113) (v := ?vzz113) ?hzz113 ?azz113 ?bzz113 ?czz113 ?qzz113 ?yzz113 ?szz113 ?rzz113
            case hzz113 => simp only [List.getElem?_toArray, List.getElem?_cons_zero, List.getElem?_cons_succ]; rfl
            case azz113 => kernel_rfl
            case bzz113 => kernel_rfl
            case czz113 => kernel_rfl
            case yzz113 =>
              refine Or.inl ⟨by rfl, ?_⟩
              intro w hSw
              skip
              go_simp
              try with_reducible rfl
            case qzz113 => exact fun _ _ _ h => h
            case szz113 => first | assumption | trivial
            case' rzz113 => simp only [Act.put, List.setIfInBounds_toArray, List.set_cons_zero, List.set_cons_succ]
            refine wpAnyH_done (by kernel_rfl) ?_ _
            go_wp2_with fail
            go_meet
            exact ⟨rfl, hHeld⟩
          · obtain ⟨i, hi⟩ : ∃ i, i + 1 = j := ⟨j - 1, by omega⟩
            have hil : i < o.length := by rw [HO.out.len]; omega
            obtain ⟨adb, rfl, hab, z0, z1⟩ := load_al Y.out.2.2.1.lst (show i < j by omega) hil
            have hle := HLS.out i hi hil
            have K5 := Lib.hid (fun W => K3.out f (o[i]) W)
            rw [hle] at K5
            generalize o[i] = y at z0 z1 K5
            have hj0 : (0 : Int) < (j : Int) := by omega
            have hj1 : 0 < j := by omega
            have hw1 : IntKind.i64.wrap ((j : Int) - 1) = (i : Int) := by rw [IntKind.wrap_i64]; omega
            have hij : (i : Int) < (j : Int) := by omega
            have hij2 : i < j := by omega
            have HII := Lib.hid hi
            clear hle hil hab hi h0 HLS
            refine wp_region_held_drew (S := Q w8) (by kernel_rfl) ?szz114 (fun hHeld => ?rzz114)
            case szz114 =>
              exact (Q.refl w8).drew
            case' rzz114 => skip
            refine wpAnyH_take (i := 0) (oi := ?ozz115) (v := ?vzz115) ?hzz115 ?azz115 ?bzz115 ?czz115 ?qzz115 ?yzz115 ?szz115 ?rzz115
            case hzz115 => simp only [List.getElem?_toArray, List.getElem?_cons_zero]; rfl
            case azz115 => kernel_rfl
            case bzz115 => kernel_rfl
            case czz115 => kernel_rfl
            case yzz115 =>
              refine Or.inl ⟨by rfl, ?_⟩
              intro w hSw
              skip
              go_simp
              try with_reducible rfl
            case qzz115 => exact fun _ _ _ h => h
            case szz115 => first | assumption | trivial
            case' rzz115 => simp only [Act.put, List.setIfInBounds_toArray, List.set_cons_zero, List.set_cons_succ]
            refine wpAnyH_take (i := 1) (oi := ?ozz116) (v := ?vzz116) ?hzz116 ?azz116 ?bzz116 ?czz116 ?qzz116 ?yzz116 ?szz116 ?rzz116
            case hzz116 => simp only [List.getElem?_toArray, List.getElem?_cons_zero, List.getElem?_cons_succ]; rfl
            case azz116 => kernel_rfl
            case bzz116 => kernel_rfl
            case czz116 => kernel_rfl
            case yzz116 =>
              refine Or.inl ⟨by rfl, ?_⟩
              intro w hSw
              skip
              go_simp
              try with_reducible rfl
            case qzz116 => exact fun _ _ _ h => h
            case szz116 => first | assumption | trivial
            case' rzz116 => simp only [Act.put, List.setIfInBounds_toArray, List.set_cons_zero, List.set_cons_succ]
            refine wpAnyH_take (i := 2) (oi := ?ozz117) (v := ?vzz117) ?hzz117 ?azz117 ?bzz117 ?czz117 ?qzz117 ?yzz117 ?szz117 ?rzz117
            case hzz117 => simp only [List.getElem?_toArray, List.getElem?_cons_zero, List.getElem?_cons_succ]; rfl
            case azz117 => kernel_rfl
            case bzz117 => kernel_rfl
            case czz117 => kernel_rfl
            case yzz117 =>
              refine Or.inl ⟨by rfl, ?_⟩
              intro w hSw
              skip
              go_simp
              try with_reducible rfl
            case qzz117 => exact fun _ _ _ h => h
            case szz117 => first | assumption | trivial
            case' rzz117 => simp only [Act.put, List.setIfInBounds_toArray, List.set_cons_zero, List.set_cons_succ]
            refine wpAnyH_take (i := 3) (oi := ?ozz118) (v := ?vzz118) ?hzz118 ?azz118 ?bzz118 ?czz118 ?qzz118 ?yzz118 ?szz118 ?rzz118
            case hzz118 => simp only [List.getElem?_toArray, List.getElem?_cons_zero, List.getElem?_cons_succ]; rfl
            case azz118 => kernel_rfl
            case bzz118 => kernel_rfl
            case czz118 => kernel_rfl
            case yzz118 =>
              refine Or.inl ⟨by rfl, ?_⟩
              intro w hSw
              skip
              go_simp
              try with_reducible rfl
            case qzz118 => exact fun _ _ _ h => h
            case szz118 => first | assumption | trivial
            case' rzz118 => simp only [Act.put, List.setIfInBounds_toArray, List.set_cons_zero, List.set_cons_succ]
            refine wpAnyH_take (i := 4) (oi := ?ozz119) (v := ?vzz119) ?hzz119 ?azz119 ?bzz119 ?czz119 ?qzz119 ?yzz119 ?szz119 ?rzz119
            case hzz119 => simp only [List.getElem?_toArray, List.getElem?_cons_zero, List.getElem?_cons_succ]; rfl
            case azz119 => kernel_rfl
            case bzz119 => kernel_rfl
            case czz119 => kernel_rfl
            case yzz119 =>
              refine Or.inl ⟨by rfl, ?_⟩
              intro w hSw
              skip
              go_simp
              try with_reducible rfl
            case qzz119 => exact fun _ _ _ h => h
            case szz119 => first | assumption | trivial
            case' rzz119 => simp only [Act.put, List.setIfInBounds_toArray, List.set_cons_zero, List.set_cons_succ]
            refine wpAnyH_take (i := 5) (oi := ?ozz120) (v := ?vzz120) ?hzz120 ?azz120 ?bzz120 ?czz120 ?qzz120 ?yzz120 ?szz120 ?rzz120
            case hzz120 => simp only [List.getElem?_toArray, List.getElem?_cons_zero, List.getElem?_cons_succ]; rfl
            case azz120 => kernel_rfl
            case bzz120 => kernel_rfl
            case czz120 => kernel_rfl
            case yzz120 =>
              refine Or.inl ⟨by rfl, ?_⟩
              intro w hSw
              skip
              go_simp
              try with_reducible rfl
            case qzz120 => exact fun _ _ _ h => h
            case szz120 => first | assumption | trivial
            case' rzz120 => simp only [Act.put, List.setIfInBounds_toArray, List.set_cons_zero, List.set_cons_succ]
            refine wpAnyH_take (i := 6) (oi := ?ozz121) (v := ?vzz121) ?hzz121 ?azz121 ?bzz121 ?czz121 ?qzz121 ?yzz121 ?szz121 ?rzz121
            case hzz121 => simp only [List.getElem?_toArray, List.getElem?_cons_zero, List.getElem?_cons_succ]; rfl
            case azz121 => kernel_rfl
            case bzz121 => kernel_rfl
            case czz121 => kernel_rfl
            case yzz121 =>
              refine Or.inl ⟨by rfl, ?_⟩
              intro w hSw
              skip
              go_simp
              try with_reducible rfl
            case qzz121 => exact fun _ _ _ h => h
            case szz121 => first | assumption | trivial
            case' rzz121 => simp only [Act.put, List.setIfInBounds_toArray, List.set_cons_zero, List.set_cons_succ]
            refine wpAnyH_take (i := 7) (oi := ?ozz122) (v := ?vzz122) ?hzz122 ?azz122 ?bzz122 ?czz122 ?qzz122 ?yzz122 ?szz122 ?rzz122
            case hzz122 => simp only [List.getElem?_toArray, List.getElem?_cons_zero, List.getElem?_cons_succ]; rfl
            case azz122 => kernel_rfl
            case bzz122 => kernel_rfl
            case czz122 => kernel_rfl
            case yzz122 =>
              refine Or.inl ⟨by rfl, ?_⟩
              intro w hSw
              have a0 := box_ hSw x0; have a1 := box_ hSw x1; clear hSw
              go_simp
              try with_reducible rfl
            case qzz122 => exact fun _ _ _ h => h
            case szz122 => first | assumption | trivial
            case' rzz122 => simp only [Act.put, List.setIfInBounds_toArray, List.set_cons_zero, List.set_cons_succ]
            refine wpAnyH_take (i := 8) (oi := ?ozz123) (v := ?vzz123) ?hzz123 ?azz123 ?bzz123 ?czz123 ?qzz123 ?yzz123 ?szz123 ?rzz123
            case hzz123 => simp only [List.getElem?_toArray, List.getElem?_cons_zero, List.getElem?_cons_succ]; rfl
            case azz123 => kernel_rfl
            case bzz123 => kernel_rfl
            case czz123 => kernel_rfl
            case yzz123 =>
              refine Or.inl ⟨by rfl, ?_⟩
              intro w hSw
              skip
              go_simp
              try with_reducible rfl
            case qzz123 => exact fun _ _ _ h => h
            case szz123 => first | assumption | trivial
            case' rzz123 => simp only [Act.put, List.setIfInBounds_toArray, List.set_cons_zero, List.set_cons_succ]
            refine wpAnyH_take (i := 9) (oi := ?ozz124) (v := ?vzz124) ?hzz124 ?azz124 ?bzz124 ?czz124 ?qzz124 ?yzz124 ?szz124 ?rzz124
            case hzz124 => simp only [List.getElem?_toArray, List.getElem?_cons_zero, List.getElem?_cons_succ]; rfl
            case azz124 => kernel_rfl
            case bzz124 => kernel_rfl
            case czz124 => kernel_rfl
            case yzz124 =>
              refine Or.inl ⟨by rfl, ?_⟩
              intro w hSw
              skip
              go_simp
              try with_reducible rfl
            case qzz124 => exact fun _ _ _ h => h
            case szz124 => first | assumption | trivial
            case' rzz124 => simp only [Act.put, List.setIfInBounds_toArray, List.set_cons_zero, List.set_cons_succ]
            refine wpAnyH_take (i := 10) (oi := ?ozz125) (v := ?vzz125) ?hzz125 ?azz125 ?bzz125 ?czz125 ?qzz125 ?yzz125 ?szz125 ?rzz125
            case hzz125 => simp only [List.getElem?_toArray, List.getElem?_cons_zero, List.getElem?_cons_succ]; rfl
            case azz125 => kernel_rfl
            case bzz125 => kernel_rfl
            case czz125 => kernel_rfl
            case yzz125 =>
              refine Or.inl ⟨by rfl, ?_⟩
              intro w hSw
              skip
              go_simp
              try with_reducible rfl
            case qzz125 => exact fun _ _ _ h => h
            case szz125 => first | assumption | trivial
            case' rzz125 => simp only [Act.put, List.setIfInBounds_toArray, List.set_cons_zero, List.set_cons_succ]
            refine wpAnyH_take (i := 11) (oi := ?ozz126) (v := ?vzz126) ?hzz126 ?azz126 ?bzz126 ?czz126 ?qzz126 ?yzz126 ?szz126 ?rzz126
            case hzz126 => simp only [List.getElem?_toArray, List.getElem?_cons_zero, List.getElem?_cons_succ]; rfl
            case azz126 => kernel_rfl
            case bzz126 => kernel_rfl
            case czz126 => kernel_rfl
            case yzz126 =>
              refine Or.inl ⟨by rfl, ?_⟩
              intro w hSw
              skip
              go_simp
              try with_reducible rfl
            case qzz126 => exact fun _ _ _ h => h
            case szz126 => first | assumption | trivial
            case' rzz126 => simp only [Act.put, List.setIfInBounds_toArray, List.set_cons_zero, List.set_cons_succ]
            refine wpAnyH_take (i := 12) (oi := ?ozz127) (v := ?vzz127) ?hzz127 ?azz127 ?bzz127 ?czz127 ?qzz127 ?yzz127 ?szz127 ?rzz127
            case hzz127 => simp only [List.getElem?_toArray, List.getElem?_cons_zero, List.getElem?_cons_succ]; rfl
            case azz127 => kernel_rfl
            case bzz127 => kernel_rfl
            case czz127 => kernel_rfl
            case yzz127 =>
              refine Or.inl ⟨by rfl, ?_⟩
              intro w hSw
              skip
              go_simp
              try with_reducible rfl
            case qzz127 => exact fun _ _ _ h => h
            case szz127 => first | assumption | trivial
            case' rzz127 => simp only [Act.put, List.setIfInBounds_toArray, List.set_cons_zero, List.set_cons_succ]
            refine wpAnyH_take (i := 13) (oi := ?ozz128) (v := ?vzz128) ?hzz128 ?azz128 ?bzz128 ?czz128 ?qzz128 ?yzz128 ?szz128 ?rzz128
            case hzz128 => simp only [List.getElem?_toArray, List.getElem?_cons_zero, List.getElem?_cons_succ]; rfl
            case azz128 => kernel_rfl
            case bzz128 => kernel_rfl
            case czz128 => kernel_rfl
            case yzz128 =>
              refine Or.inl ⟨by rfl, ?_⟩
              intro w hSw
              have b0 := box_ hSw z0; have b1 := box_ hSw z1; clear hSw
              go_simp
              try with_reducible rfl
            case qzz128 => exact fun _ _ _ h => h
            case szz128 => first | assumption | trivial
            case' rzz128 => simp only [Act.put, List.setIfInBounds_toArray, List.set_cons_zero, List.set_cons_succ]
            refine wpAnyH_ready (rs := [14]) (by kernel_rfl) (by simp) ?_
            refine AllReadyH.cons (o := ?ozz131) ?hzz131 (fun K hK => ?kzz131) ?mzz131
            case hzz131 => simp only [List.getElem?_toArray, List.getElem?_cons_zero, List.getElem?_cons_succ]; rfl
            case kzz131 =>
              go_simp
              refine (K5.out _).mono ?_
              rintro e v2 ⟨rfl, q2⟩
              go_wp2_with fail
              refine hK.out _ _ ?Szz131 (fun hHeld => ?Rzz131)
              case Szz131 =>
                exact hHeld.trans q2
              case Rzz131 =>
                clear hK K
                try simp only [Act.put, List.setIfInBounds_toArray, List.set_cons_zero, List.set_cons_succ]
                refine wpAnyH_take (i := 15) (oi := ?ozz129) (v := ?vzz129) ?hzz129 ?azz129 ?bzz129 ?czz129 ?qzz129 ?yzz129 ?szz129 ?rzz129
                case hzz129 => simp only [List.getElem?_toArray, List.getElem?_cons_zero, List.getElem?_cons_succ]; rfl
                case azz129 => kernel_rfl
                case bzz129 => kernel_rfl
                case czz129 => kernel_rfl
                case yzz129 =>
                  refine Or.inl ⟨by rfl, ?_⟩
                  intro w hSw
                  skip
                  go_simp
                  try with_reducible rfl
                case qzz129 => exact fun _ _ _ h => h
                case szz129 => first | assumption | trivial
                case' rzz129 => simp only [Act.put, List.setIfInBounds_toArray, List.set_cons_zero, List.set_cons_succ]
                refine wpAnyH_take (i := 16) (oi := ?ozz130) (v := ?vzz130) ?hzz130 ?azz130 ?bzz130 ?czz130 ?qzz130 ?yzz130 ?szz130 ?rzz130
                case hzz130 => simp only [List.getElem?_toArray, List.getElem?_cons_zero, List.getElem?_cons_succ]; rfl
                case azz130 => kernel_rfl
                case bzz130 => kernel_rfl
                case czz130 => kernel_rfl
                case yzz130 =>
                  refine Or.inl ⟨by rfl, ?_⟩
                  intro w hSw
                  skip
                  go_simp
                  try with_reducible rfl
                case qzz130 => exact fun _ _ _ h => h
                case szz130 => first | assumption | trivial
                case' rzz130 => simp only [Act.put, List.setIfInBounds_toArray, List.set_cons_zero, List.set_cons_succ]
                refine wpAnyH_done (by kernel_rfl) ?_ _
                go_wp2_with fail
                go_meet
                exact ⟨rfl, hHeld⟩
            case' mzz131 => skip
            exact AllReadyH.nil
        case rest =>
          obtain ⟨rfl, qc⟩ := hcut
          have Z := Lib.hid (And.intro (Y.out.1.trans qc) (And.intro (Y.out.2.1.q qc) (And.intro (Y.out.2.2.1.q qc) (And.intro (Y.out.2.2.2.q qc) (Nat.le_trans W78.out (Q.size qc))))))
          clear Y W78 qc
          generalize wc = w9 at Z ⊢
          obtain ⟨⟨x0, x1⟩, _⟩ := Z.out.2.2.2.1.get2
          have hsz : v4.heap.size ≤ w9.heap.size := Z.out.1.size
          go_wp2_with (at_builtin
                       refine wpl_appKG alK rfl (.tmp 60) (.tmp 62) 22 rfl rfl v4.heap.size B j d o rfl (Z.out.2.2.1.alloc _) (some ⟨w9.heap.size, 0, none⟩) 1 1 [f] rfl ((OwnK.lit1 alK w9 w9.heap.size (Nat.le_refl _) f).lst) (fun e => by cases e) hbo (by simp; omega) ?_
                       intro A10 c10 w10 o10 g10 t10
                       have T := Lib.hid (And.intro o10 (And.intro g10 t10))
                       clear o10 g10 t10)
          go_roundw
          case rel =>
            have hne : ∀ ad, A7 = some ad → some ad.block ≠ (Value.slice B j d).ownBlock := by
              intro ad7 e7 hx
              have h1 := (AP7.out ad7 e7).1
              cases B with
              | none => cases hx
              | some b =>
                have h2 := (HOB.out b rfl).2
                simp only [Value.ownBlock, Option.some.injEq] at hx
                omega
            have hap : Apt A7 A10 := by
              intro a7 a10 e7 e10 hx
              subst e10
              rcases T.out.2.2 with h | h
              · have h3 := hne a7 e7
                rw [← h] at h3
                exact h3 (by simp only [Value.ownBlock]; rw [hx])
              · simp only [Value.ownBlock, Option.some.injEq, World.size_alloc] at h
                have h4 := (AP7.out a7 e7).2
                have h5 := Z.out.2.2.2.2
                omega
            have hpm : prm = k - (j + 1) := by have := HPM.out.2.1; have := HPM.out.2.2; omega
            have hbl := grown_below (Z.out.2.2.1.alloc (.cells #[.int .u64 (f.at_ : Int), .int .i64 f.id] 25)) T.out.2.1 (by simp; omega)
            refine ⟨j + 1, A7, A10, c7, c10, pr, o ++ [f], by omega, by rw [hpm], rfl, HNX.out.2.symm, HNX.out.1.symm, ?_, T.out.1, hap, (Z.out.1.alloc _).below.trans hbl⟩
            rw [← hpm]
            exact in_grown (Z.out.2.1.q ((Q.refl w9).alloc _)) T.out.2.1 hne
          case measure =>
            have := HPM.out.2.1
            have := HPM.out.2.2
            show prm < k - j
            omega
      have hjk : ¬ (j : Int) < (k : Int) := by omega
      obtain rfl : j = k := by omega
      have hz := popsN_len j h
      have hpn := popsN_perm (h := h) j (by rw [HP.out.2.2]; exact Nat.le_refl _)
      rw [← HPE.out.1, ← HPE.out.2] at hpn
      have hpnil : p = [] := List.eq_nil_of_length_eq_zero (by rw [HI2.out.len]; omega)
      rw [hpnil, List.append_nil] at hpn
      have hcount : ∀ x, l.count x = o.count x := fun x => ((hpn.trans HP.out.2.1).count_eq x).symm
      have HC := Lib.hid hcount
      have Z := Lib.hid (And.intro (X.out.trans HQ2.out) HO.out.lst)
      have HOL := Lib.hid HO.out.len
      have hjj : j - j = 0 := Nat.sub_self j
      rw [hjj] at *
      clear hz hpn hpnil hcount hlt hj hjj HPE HI2 HO HOB HI X
      generalize wr = v5 at Z ⊢
      go_wp2
      go_loopw [10] (fun iv wr => ∃ i : Nat, i ≤ j ∧ iv = .int .i64 (i : Nat) ∧ Q v5 wr) (fun i _ => j - (intOf i).toNat)
      case atStart => exact ⟨0, Nat.zero_le _, rfl, Q.refl _⟩
      case round =>
        obtain ⟨i, hi, rfl, hq⟩ := hrel
        have HQ3 := Lib.hid hq
        clear hq HQ2
        by_cases hlt : i < j
        case neg =>
          have hij : ¬ (i : Int) < (j : Int) := by omega
          go_wp2
          go_ret
          exact ⟨rfl, Z.out.1.trans HQ3.out⟩
        have hij : (i : Int) < (j : Int) := by omega
        have hil : i < l.length := by rw [HL.out]; exact hlt
        obtain ⟨ad, rfl, hab, y0, y1⟩ := load_al (HD.out.lst.q (Z.out.1.trans HQ3.out)) hlt hil
        generalize l[i] = x at y0 y1
        clear hil hab
        go_wp2
        generalize wr = v6 at HQ3 y0 y1 ⊢
        go_loopw [11, 12, 13] (fun nv mv kv wr => ∃ k : Nat, k ≤ j ∧ kv = .int .i64 (k : Nat) ∧ nv = .int .i64 (((l.take k).count x : Nat) : Int) ∧ mv = .int .i64 (((o.take k).count x : Nat) : Int) ∧ Q v6 wr) (fun _ _ i _ => j - (intOf i).toNat)
        case atStart => exact ⟨0, Nat.zero_le _, rfl, rfl, rfl, Q.refl _⟩
        case round =>
          obtain ⟨k2, hk2, rfl, rfl, rfl, hq⟩ := hrel
          have HQ4 := Lib.hid hq
          clear hq
          by_cases hlt2 : k2 < j
          case neg =>
            have hkj : ¬ (k2 : Int) < (j : Int) := by omega
            obtain rfl : k2 = j := by omega
            have hcc : (l.take k2).count x = (o.take k2).count x := by
              rw [List.take_of_length_le (by rw [HL.out]; exact Nat.le_refl _), List.take_of_length_le (by rw [HOL.out]; exact Nat.le_refl _)]
              exact HC.out x
            generalize (o.take k2).count x = co at *
            rw [hcc]
            clear hcc
            go_wp2
            go_roundw
            case rel => exact ⟨i + 1, by omega, by go_num, HQ3.out.trans HQ4.out⟩
            case measure => simp [intOf]; omega
          have hkj : (k2 : Int) < (j : Int) := by omega
          have hkl : k2 < l.length := by rw [HL.out]; exact hlt2
          have hko : k2 < o.length := by rw [HOL.out]; exact hlt2
          have t0 := box_ HQ4.out y0
          have t1 := box_ HQ4.out y1
          obtain ⟨ad2, he2, hab2, z0, z1⟩ := load_al (HD.out.lst.q ((Z.out.1.trans HQ3.out).trans HQ4.out)) hlt2 hkl
          injection he2 with he2
          subst he2
          obtain ⟨adb, rfl, hab3, u0, u1⟩ := load_al ((Z.out.2.q HQ3.out).q HQ4.out) hlt2 hko
          have s1 := cnt_take x hkl
          have s2 := cnt_take x hko
          have b1 := cnt_le x l k2
          have b2 := cnt_le x o k2
          generalize hc1 : (l.take k2).count x = cl at *
          generalize hc2 : (o.take k2).count x = co at *
          generalize l[k2] = y at z0 z1 s1
          generalize o[k2] = v at u0 u1 s2
          generalize hc3 : (l.take (k2 + 1)).count x = cl2 at *
          generalize hc4 : (o.take (k2 + 1)).count x = co2 at *
          have HCC := Lib.hid (And.intro hc3 hc4)
          clear hc1 hc2 hc3 hc4 hkl hko hab2 hab3
          have hyx : y = x ∨ ¬ y = x := Classical.em _
          have hvx : v = x ∨ ¬ v = x := Classical.em _
          rcases hyx with hy | hy
          · rcases hvx with hv | hv
            · subst hy
              rw [if_pos rfl] at s1
              subst hv
              rw [if_pos rfl] at s2
              have HS12 := Lib.hid (And.intro s1 s2)
              clear s1 s2  
              go_wp2
              go_quiet (fail)
              all_goals
                go_wp2
                go_quiet (fail)
                all_goals
                  go_wp2
                  go_roundw
                  case rel =>
                    refine ⟨k2 + 1, by omega, by go_num, ?_, ?_, by first | exact HQ4.out | exact HQ4.out.drew | exact HQ4.out.drew.drew | exact (HQ4.out.drewN _).drewN _ | exact HQ4.out.drewN _⟩
                    · rw [HCC.out.1, HS12.out.1]; first | rfl | go_num
                    · rw [HCC.out.2, HS12.out.2]; first | rfl | go_num
                  case measure => simp [intOf]; omega
            · subst hy
              rw [if_pos rfl] at s1
              rw [if_neg hv] at s2
              obtain ⟨nv1, nv2⟩ := al_ne v y hv
              have HS12 := Lib.hid (And.intro s1 s2)
              clear s1 s2  hv
              go_wp2
              go_quiet (fail)
              all_goals
                go_wp2
                go_quiet (fail)
                all_goals
                  go_wp2
                  go_roundw
                  case rel =>
                    refine ⟨k2 + 1, by omega, by go_num, ?_, ?_, by first | exact HQ4.out | exact HQ4.out.drew | exact HQ4.out.drew.drew | exact (HQ4.out.drewN _).drewN _ | exact HQ4.out.drewN _⟩
                    · rw [HCC.out.1, HS12.out.1]; first | rfl | go_num
                    · rw [HCC.out.2, HS12.out.2]; first | rfl | go_num
                  case measure => simp [intOf]; omega
          · rcases hvx with hv | hv
            · rw [if_neg hy] at s1
              obtain ⟨ny1, ny2⟩ := al_ne y x hy
              subst hv
              rw [if_pos rfl] at s2
              have HS12 := Lib.hid (And.intro s1 s2)
              clear s1 s2 hy 
              go_wp2
              go_quiet (fail)
              all_goals
                go_wp2
                go_quiet (fail)
                all_goals
                  go_wp2
                  go_roundw
                  case rel =>
                    refine ⟨k2 + 1, by omega, by go_num, ?_, ?_, by first | exact HQ4.out | exact HQ4.out.drew | exact HQ4.out.drew.drew | exact (HQ4.out.drewN _).drewN _ | exact HQ4.out.drewN _⟩
                    · rw [HCC.out.1, HS12.out.1]; first | rfl | go_num
                    · rw [HCC.out.2, HS12.out.2]; first | rfl | go_num
                  case measure => simp [intOf]; omega
            · rw [if_neg hy] at s1
              obtain ⟨ny1, ny2⟩ := al_ne y x hy
              rw [if_neg hv] at s2
              obtain ⟨nv1, nv2⟩ := al_ne v x hv
              have HS12 := Lib.hid (And.intro s1 s2)
              clear s1 s2 hy hv
              go_wp2
              go_quiet (fail)
              all_goals
                go_wp2
                go_quiet (fail)
                all_goals
                  go_wp2
                  go_roundw
                  case rel =>
                    refine ⟨k2 + 1, by omega, by go_num, ?_, ?_, by first | exact HQ4.out | exact HQ4.out.drew | exact HQ4.out.drew.drew | exact (HQ4.out.drewN _).drewN _ | exact HQ4.out.drewN _⟩
                    · rw [HCC.out.1, HS12.out.1]; first | rfl | go_num
                    · rw [HCC.out.2, HS12.out.2]; first | rfl | go_num
                  case measure => simp [intOf]; omega

theorem opened (W : World) (args : Array Value) (hn : args.size = 1) (h : ∀ (j : Nat) t v, Try.f5.params[j]? = some t → args[j]? = some v → RdV W t v) :
    Calls Try.prog 5 args W fun e W' => e = .returned (.bool true) ∧ Q W W' := by
  obtain ⟨v0, rfl⟩ := args1 hn
  rw [Try.params5] at h
  obtain ⟨A0, n0, c0, e0, r0⟩ := (h 0 22 v0 rfl rfl).slice Try.underlying22
  obtain ⟨B0, m0, d0, l, f0, hd0, hb0, hp0⟩ := open_als r0
  simp only [List.cons.injEq, Value.slice.injEq, and_true] at f0
  obtain ⟨rfl, rfl, rfl⟩ := f0
  subst e0
  exact walk A0 n0 c0 l W hd0 hb0 hp0

set_option maxRecDepth 100000 in
theorem lifted (os : Os) (started : os.Started) (H : Type) (enc : TypeId × Value → H) :
    ReturnsInHanded {} Try.checked os 5 .any (Rows.alarmSortsSpec.pre6 enc Try.prog Try.f5 Rows.alarmSortsRow.domain false) (Rows.alarmSortsSpec.post enc Try.prog Try.f5 false true false false) :=
  framed 1 Try.func5 (by rw [Try.params5]; rfl) rfl (by kernel_rfl) (by kernel_rfl) (by kernel_rfl)
    (fun H ds h => by match ds, h with | [d0], _ => exact ⟨rfl, rfl, rfl⟩)
    opened os started H enc
    (ChangeSpec.witness6 (enc := enc) (C := Try.checked) false ⟨#[], #[.slice none 0 0], []⟩ 8 (by kernel_rfl) (by kernel_rfl) (by kernel_rfl) (by kernel_rfl))

theorem over : Rows.alarmSortsRow.holds Try.pinned (OpenSpec.ofChange Rows.alarmSortsSpec) :=
  OpenClaim.holds_of_wide 5 Try.f5 rfl rfl rfl rfl rfl rfl rfl ⟨rfl, rfl, rfl, rfl, rfl⟩ rfl rfl rfl rfl rfl (by kernel_rfl) Try.func5 (by kernel_rfl)
    (of_decide_eq_true (by kernel_rfl)) (by unfold Func.isWrapper; first | (rw [if_pos (by decide +kernel)]; kernel_rfl) | (rw [if_neg (by decide +kernel)]; exact ⟨rfl, rfl⟩))
    (fun os started H enc _ => lifted os started H enc)

theorem proved : Rows.AlarmSortsSaid := over
end Go.Proofs.Ytbclamfpoigneaa.alarmSorts
