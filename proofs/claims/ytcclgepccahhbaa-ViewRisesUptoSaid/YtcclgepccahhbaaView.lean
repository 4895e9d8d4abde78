/- Contracts: package view: where a write stands, Get, Scan, Rises, Size. -/
import Derived.Test.YtcclgepccahhbaaCmp
import Derived.Test.YtcclgepccahhbaaViewMath
import Derived.Test.YtcclgepccahhbaaTable3
import Derived.Lib.MinMax
namespace Go.Proofs.Ytcclgepccahhbaa
set_option maxRecDepth 100000
open Go.RowKit Prm Vm
set_option linter.unusedVariables false
set_option linter.unusedSimpArgs false

theorem by_any (key : ByteArray) (w : World) :
    Calls Try.prog 27 #[.string key] w fun e w' => e = .returned (.func (.func 35) #[] #[.pointer (some ⟨w.heap.size, 0, none⟩)]) ∧ w' = w.alloc (.cells #[.string key] 9) := by
  go_enter Try.func27, Try.ntmps27
  go_wp2
  go_ret
  exact ⟨rfl, rfl⟩
theorem by1 (x : Wr) (key : ByteArray) (B : Nat) (w : World) (hB : B < w.heap.size) (hc : w.cell? ⟨B, 0, none⟩ = some (.string key)) :
    Calls Try.prog 35 #[x.v, .pointer (some ⟨B, 0, none⟩)] w fun e w' => e = .returned (.int .i64 (cfS x.key key)) ∧ Q w w' := by
  obtain ⟨a, b, c⟩ := x
  go_enter Try.func35, Try.ntmps35
  go_wp2_with fail
  refine (compare_any _ _ _).mono ?_
  rintro e w1 ⟨rfl, rfl⟩
  go_wp2
  go_ret
  exact ⟨rfl, (Q.refl _).alloc _⟩
theorem cfS_has {k : ByteArray} {x : Wr} (h : hasW k x = true) : cfS x.key k = 0 := by
  unfold cfS; rw [hasW_key h, lt_irrefl]; rfl
theorem cfS_above {k : ByteArray} {x : Wr} (h : aboveW k x = true) : cfS x.key k = 1 := by
  unfold cfS; unfold aboveW at h; rw [lt_asymm h, h]; rfl
theorem cfS_below {k : ByteArray} {x : Wr} (h : hasW k x = false) (h2 : aboveW k x = false) : cfS x.key k = -1 := by
  unfold cfS; unfold aboveW at h2; unfold hasW at h
  rw [lt_tri (by simpa [eq_comm] using h) h2]; rfl
theorem above_has {k : ByteArray} {x : Wr} (h : aboveW k x = true) : hasW k x = false := by
  unfold aboveW at h; unfold hasW; rw [decide_eq_false_iff_not]; exact (lt_ne h).symm

/-- the place of the first one: where none is, how many there are. -/
structure Fst (p : Wr → Bool) (l : List Wr) (i : Nat) : Prop where
  le : i ≤ l.length
  no : ∀ j, ∀ hj : j < l.length, j < i → p l[j] = false
  yes : ∀ h : i < l.length, p l[i] = true
theorem fst_at (p : Wr → Bool) : ∀ l : List Wr, ∃ i, Fst p l i
  | [] => ⟨0, by simp, fun j hj => by simp at hj, fun h => by simp at h⟩
  | a :: l => by
    cases h : p a with
    | true => exact ⟨0, by simp, fun j _ hj => by omega, fun _ => h⟩
    | false =>
      obtain ⟨i, h1, h2, h3⟩ := fst_at p l
      refine ⟨i + 1, by simpa using h1, fun j hj hji => ?_, fun h => by simpa using h3 (by simpa using h)⟩
      cases j with
      | zero => exact h
      | succ j => simpa using h2 j (by simpa using hj) (by omega)
theorem Fst.none {p : Wr → Bool} {l : List Wr} {i : Nat} (h : Fst p l i) (hi : i = l.length) : ∀ a ∈ l, p a = false := by
  intro a ha
  obtain ⟨j, hj, rfl⟩ := List.getElem_of_mem ha
  exact h.no j hj (by omega)

set_option maxHeartbeats 1000000 in
theorem place_any (key : ByteArray) (B : Nat) (A : Option Addr) (n c : Nat) (l : List Wr) (w : World) (hB : B < w.heap.size) (hc : w.cell? ⟨B, 0, none⟩ = some (.string key)) (hf : Lst writeK w A n l) (hn : n ≤ maxLen)
    (i0 j0 : Nat) (h1 : Fst (hasW key) l i0) (h2 : Fst (aboveW key) l j0) (at_ : Nat) (is : Bool) (hat : (i0 < n ∧ at_ = i0 ∧ is = true) ∨ (i0 = n ∧ at_ = j0 ∧ is = false)) :
    Calls Try.prog 26 #[.slice A n c, .func (.func 35) #[] #[.pointer (some ⟨B, 0, none⟩)]] w fun e w' => e = .returned (.tuple #[.int .i64 at_, .bool is]) ∧ Q w w' := by
  unfold maxLen at hn
  have HC := Lib.hid hc
  have HF := Lib.hid hf
  have HL := Lib.hid hf.len
  have H1 := Lib.hid h1
  have H2 := Lib.hid h2
  have HAt := Lib.hid hat
  have j1 : j0 ≤ n := by have := h2.le; have := hf.len; omega
  clear hc hf h1 h2 hat
  go_enter Try.func26, Try.ntmps26
  go_wp2
  go_loopw [6, 14] (fun a i wr => ∃ k g : Nat, k ≤ n ∧ k ≤ i0 ∧ i = .int .i64 k ∧ a = .int .i64 g ∧ (g = if j0 < k then j0 else n) ∧ Q w wr) (fun _ i _ => n - (intOf i).toNat)
  case atStart => exact ⟨0, n, Nat.zero_le _, Nat.zero_le _, rfl, rfl, by simp, Q.refl _⟩
  case round =>
    obtain ⟨k, g, hk, hki, rfl, rfl, hg, hq⟩ := hrel
    have HG := Lib.hid hg
    have hgn : g ≤ n := by rw [hg]; split <;> omega
    clear hg
    by_cases hlt : k < n
    · have hkl : k < l.length := by have := HL.out; omega
      obtain ⟨ad, rfl, hb, c0, c1, c2⟩ := load_write (HF.out.q hq) hlt hkl
      have hcell : Hid (wr.cell? ⟨B, 0, none⟩ = some (.string key)) := Lib.hid ((hq.below.cell (p := ⟨B, 0, none⟩) hB).trans HC.out)
      have K1 := fun W (h1 : B < W.heap.size) (h2 : W.cell? ⟨B, 0, none⟩ = some (.string key)) => by1 l[k] key B W h1 h2
      by_cases hh : hasW key l[k] = true
      · rw [cfS_has hh] at K1
        have K1 := Lib.hid K1
        have hki0 : k = i0 := Nat.le_antisymm hki (Nat.le_of_not_lt fun h => by have := H1.out.no k hkl h; rw [hh] at this; cases this)
        have HE := Lib.hid (show at_ = k ∧ is = true by
          rcases HAt.out with ⟨_, e1, e2⟩ | ⟨e, _, _⟩
          · exact ⟨e1.trans hki0.symm, e2⟩
          · omega)
        clear hh hki0
        generalize l[k] = x at c0 c1 c2 K1
        go_wp2_with fail
        refine (K1.out _ (Nat.lt_of_lt_of_le hB (hq.alloc _).size) (box_ ((Q.refl wr).alloc _) hcell.out)).mono ?_
        rintro e w1 ⟨rfl, q1⟩
        go_wp2
        go_ret2
        exact ⟨by rw [HE.out.1, HE.out.2] <;> rfl, (hq.alloc _).trans q1⟩
      · have hh' : hasW key l[k] = false := by simpa using hh
        have hki1 : k < i0 := Nat.lt_of_le_of_ne hki fun e => by subst e; exact hh (H1.out.yes hkl)
        by_cases ha : aboveW key l[k] = true
        · rw [cfS_above ha] at K1
          have K1 := Lib.hid K1
          have hj : j0 ≤ k := Nat.le_of_not_lt fun h => by have := H2.out.no k hkl h; rw [ha] at this; cases this
          have HM := Lib.hid (show (min (g : Int) (k : Int)) = (j0 : Int) by
            have := HG.out
            split at this <;> omega)
          have HE := Lib.hid (show j0 = if j0 < k + 1 then j0 else n by rw [if_pos (by omega)])
          clear hh hh' ha
          generalize l[k] = x at c0 c1 c2 K1
          go_wp2_with fail
          refine (K1.out _ (Nat.lt_of_lt_of_le hB (hq.alloc _).size) (box_ ((Q.refl wr).alloc _) hcell.out)).mono ?_
          rintro e w1 ⟨rfl, q1⟩
          go_wp2
          go_roundw
          case rel => exact ⟨k + 1, j0, by omega, by omega, by go_num, by first | rfl | (rw [HM.out]) | (simp only [HM.out]), HE.out, (hq.alloc _).trans q1⟩
          case measure => simp [intOf]; omega
        · have ha' : aboveW key l[k] = false := by simpa using ha
          rw [cfS_below hh' ha'] at K1
          have K1 := Lib.hid K1
          have hj : j0 ≠ k := fun e => by subst e; exact ha (H2.out.yes hkl)
          have HE := Lib.hid (show g = if j0 < k + 1 then j0 else n by rw [HG.out]; split <;> split <;> omega)
          clear hh hh' ha ha'
          generalize l[k] = x at c0 c1 c2 K1
          go_wp2_with fail
          refine (K1.out _ (Nat.lt_of_lt_of_le hB (hq.alloc _).size) (box_ ((Q.refl wr).alloc _) hcell.out)).mono ?_
          rintro e w1 ⟨rfl, q1⟩
          go_wp2
          go_roundw
          case rel => exact ⟨k + 1, g, by omega, by omega, by go_num, rfl, HE.out, (hq.alloc _).trans q1⟩
          case measure => simp [intOf]; omega
    · have hkn : k = n := by omega
      have HE := Lib.hid (show at_ = g ∧ is = false by
        rcases HAt.out with ⟨e, _, _⟩ | ⟨e, e1, e2⟩
        · omega
        · refine ⟨?_, e2⟩
          rw [e1, HG.out]
          split <;> omega)
      clear hkn
      go_wp2
      go_ret2
      exact ⟨by rw [HE.out.1, HE.out.2] <;> rfl, hq⟩

set_option maxHeartbeats 1000000 in
theorem vget_any (key : ByteArray) (A A2 : Option Addr) (n c m d : Nat) (l : List Wr) (base : List Pr) (w : World) (hf : Lst writeK w A n l) (hn : n ≤ maxLen) (hb : Lst pairK w A2 m base) (hm : m ≤ maxLen) :
    Calls Try.prog 18 #[.slice A n c, .slice A2 m d, .string key] w fun e w' => e = .returned (.tuple #[.string (get l base key).1, .bool (get l base key).2]) ∧ Q w w' := by
  have HF := Lib.hid hf
  have HB := Lib.hid hb
  have HN := Lib.hid hn
  have HM := Lib.hid hm
  have HL := Lib.hid hf.len
  unfold maxLen at hn
  clear hf hb
  obtain ⟨i0, h1⟩ := fst_at (hasW key) l
  obtain ⟨j0, h2⟩ := fst_at (aboveW key) l
  have K1 := Lib.hid (fun W (x1 : w.heap.size < W.heap.size) (x2 : W.cell? ⟨w.heap.size, 0, none⟩ = some (.string key)) (x3 : Lst writeK W A n l) => place_any key w.heap.size A n c l W x1 x2 x3 HN.out i0 j0 h1 h2)
  have q0 := Lib.hid ((Q.refl w).alloc (.cells #[.string key] 9))
  by_cases hi : i0 < n
  · have K2 := Lib.hid (fun W x1 x2 x3 => K1.out W x1 x2 x3 i0 true (.inl ⟨hi, rfl, rfl⟩))
    have hil : i0 < l.length := by have := HL.out; omega
    have HG := Lib.hid (Vm.get_at base hil (h1.yes hil) h1.no)
    clear K1 h1 h2
    generalize hx : l[i0] = x at HG
    have HX := Lib.hid hx
    clear hx
    obtain ⟨xk, xv, xd⟩ := x
    cases xd
    all_goals
      go_enter Try.func18, Try.ntmps18
      go_wp2_with fail
      refine (by_any key _).mono ?_
      rintro e w1 ⟨rfl, rfl⟩
      go_wp2_with fail
      refine (K2.out _ (by simp) (by simp) (HF.out.q q0.out)).mono ?_
      rintro e w1 ⟨rfl, q1⟩
      obtain ⟨ad, rfl, hbk, c0, c1, c2⟩ := load_write (HF.out.q (q0.out.trans q1)) hi hil
      rw [HX.out] at c0 c1 c2
      go_wp2
      go_ret2
      exact ⟨by rw [HG.out]; rfl, q0.out.trans q1⟩
  · have hin : i0 = n := by have := h1.le; have := HL.out; omega
    have K2 := Lib.hid (fun W x1 x2 x3 => K1.out W x1 x2 x3 j0 false (.inr ⟨hin, rfl, rfl⟩))
    have HG := Lib.hid (Vm.get_none base (h1.none (by have := HL.out; omega)))
    clear K1 h1 h2 hin hi
    rw [HG.out]
    have KF := Lib.hid (fun W hq => tfind_any key A2 m d base W hq HM.out)
    generalize find key base = r at KF ⊢
    obtain ⟨r1, r2⟩ := r
    go_enter Try.func18, Try.ntmps18
    go_wp2_with fail
    refine (by_any key _).mono ?_
    rintro e w1 ⟨rfl, rfl⟩
    go_wp2_with fail
    refine (K2.out _ (by simp) (by simp) (HF.out.q q0.out)).mono ?_
    rintro e w1 ⟨rfl, q1⟩
    go_wp2_with fail
    refine (KF.out _ (HB.out.q (q0.out.trans q1))).mono ?_
    rintro e w2 ⟨rfl, q2⟩
    go_wp2
    go_ret2
    exact ⟨rfl, (q0.out.trans q1).trans q2⟩

theorem vscan_any (lo hi : ByteArray) (most : Int) (A A2 : Option Addr) (n c m d : Nat) (l : List Wr) (base : List Pr) (w : World) (hf : Lst writeK w A n l) (hd : In_ pairK w A2 m d base) (hb : (m + n) * 32 ≤ 140737488355328) (hm : most ≤ 9223372036854775807) :
    Calls Try.prog 21 #[.slice A n c, .slice A2 m d, .string lo, .string hi, .int .i64 most] w fun e w' => RetL pairK w (range (apply base l) lo hi most).length (range (apply base l) lo hi most) e w' := by
  have HF := Lib.hid hf
  have HD := Lib.hid hd
  have HB := Lib.hid hb
  have HL := Lib.hid (show (apply base l).length * 32 ≤ 140737488355328 by have := apply_len base l; have := hd.len; have := hf.len; omega)
  have HM := Lib.hid hm
  have KA := Lib.hid (apply_any A2 A m d n c base l w hd hf hb)
  clear hf hd hb hm
  generalize apply base l = r at KA HL ⊢
  go_enter Try.func21, Try.ntmps21
  go_wp2_with fail
  refine KA.out.mono ?_
  rintro e w1 ⟨A1, c1, rfl, o1, q1⟩
  have I1 := Lib.hid (o1.in_ HL.out)
  have Q1 := Lib.hid q1
  clear o1 q1
  go_wp2_with fail
  refine (range_any lo hi most A1 _ c1 _ _ I1.out HM.out).mono ?_
  rintro e w2 ⟨A2, c2, rfl, o2, q2⟩
  go_wp2
  go_ret
  exact ⟨A2, c2, rfl, o2.lower Q1.out.size, Q1.out.trans q2⟩
end Go.Proofs.Ytcclgepccahhbaa
