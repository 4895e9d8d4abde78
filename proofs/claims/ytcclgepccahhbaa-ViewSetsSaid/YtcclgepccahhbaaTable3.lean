/- Contracts: table.Range, table.Right. -/
import Derived.Test.YtcclgepccahhbaaTable2
namespace Go.Proofs.Ytcclgepccahhbaa
set_option maxRecDepth 100000
open Go.RowKit Prm
set_option linter.unusedVariables false
set_option linter.unusedSimpArgs false

def inR (lo hi : ByteArray) (p : Pr) : Bool := btw lo hi p.key
theorem range_full {l : List Pr} {lo hi : ByteArray} {most : Int} {k : Nat} (h : k = l.length) (hl : ((l.take k).filter (inR lo hi)).length ≤ most.toNat) : range l lo hi most = (l.take k).filter (inR lo hi) := by
  subst h
  rw [List.take_length] at hl ⊢
  unfold range
  exact List.take_of_length_le hl
theorem range_cut {l : List Pr} {lo hi : ByteArray} {most : Int} {k : Nat} (hl : ((l.take k).filter (inR lo hi)).length ≤ most.toNat) (hm : most ≤ ((l.take k).filter (inR lo hi)).length) : range l lo hi most = (l.take k).filter (inR lo hi) := by
  have e : ((l.take k).filter (inR lo hi)).length = most.toNat := by omega
  unfold range
  have e2 : l.filter (fun p => btw lo hi p.key) = (l.take k).filter (inR lo hi) ++ (l.drop k).filter (inR lo hi) := by
    rw [← List.filter_append, List.take_append_drop]; rfl
  rw [e2, ← e, List.take_left]
theorem filter_yes {l : List Pr} {f : Pr → Bool} {k : Nat} (hk : k < l.length) (h : f l[k] = true) : (l.take (k + 1)).filter f = (l.take k).filter f ++ [l[k]] := by
  rw [List.take_succ_eq_append_getElem hk, List.filter_append, List.filter_cons, h]; rfl
theorem filter_no {l : List Pr} {f : Pr → Bool} {k : Nat} (hk : k < l.length) (h : f l[k] = false) : (l.take (k + 1)).filter f = (l.take k).filter f := by
  rw [List.take_succ_eq_append_getElem hk, List.filter_append, List.filter_cons, h]; simp

/-- what a range has behind k pairs. -/
def RgS (w : World) (l : List Pr) (lo hi : ByteArray) (most : Int) (k : Nat) (v : Value) (wr : World) : Prop :=
  ∃ A1 c1, v = .slice A1 ((l.take k).filter (inR lo hi)).length c1 ∧ OwnK pairK wr w.heap.size A1 ((l.take k).filter (inR lo hi)).length c1 ((l.take k).filter (inR lo hi)) ∧ Q w wr ∧ ((l.take k).filter (inR lo hi)).length ≤ most.toNat

set_option maxHeartbeats 4000000 in
theorem range_any (lo hi : ByteArray) (most : Int) (A : Option Addr) (n c : Nat) (l : List Pr) (w : World) (hd : In_ pairK w A n c l) (hm : most ≤ 9223372036854775807) :
    Calls Try.prog 31 #[.slice A n c, .string lo, .string hi, .int .i64 most] w fun e w' => RetL pairK w (range l lo hi most).length (range l lo hi most) e w' := by
  have HD := Lib.hid hd
  have hmx := hd.max
  have HL := Lib.hid hd.len
  have HFew := Lib.hid (show n * 32 ≤ 140737488355328 from hd.few)
  unfold maxLen at hmx
  clear hd
  go_enter Try.func31, Try.ntmps31
  go_wp2
  go_loopw [9, 14] (fun v i wr => ∃ k : Nat, k ≤ n ∧ i = .int .i64 k ∧ RgS w l lo hi most k v wr) (fun _ i _ => n - (intOf i).toNat)
  case atStart => exact ⟨0, Nat.zero_le _, rfl, none, 0, rfl, OwnK.nil_ _ _ _, Q.refl _, Nat.zero_le _⟩
  case round =>
    obtain ⟨k, hk, rfl, A3, c3, rfl, o3, q3, hle⟩ := hrel
    have hfl : ((l.take k).filter (inR lo hi)).length ≤ k := Nat.le_trans (List.length_filter_le _ _) (List.length_take_le _ _)
    have O3 := Lib.hid o3
    have Q3 := Lib.hid q3
    have HLe := Lib.hid hle
    clear o3 q3
    by_cases hlt : k < n
    · have hkl : k < l.length := by have := HL.out; omega
      obtain ⟨ad, rfl, hab, x0, x1⟩ := load_pair (HD.out.lst.q Q3.out) hlt hkl
      have hkm : (k : Int) < (n : Int) := by omega
      by_cases hmo : most ≤ ((l.take k).filter (inR lo hi)).length
      · have HE := Lib.hid (range_cut HLe.out hmo)
        generalize ((l.take k).filter (inR lo hi)) = o at O3 HLe hfl HE hmo ⊢
        have HO := Lib.hid hmo
        go_wp2
        go_ret
        exact ⟨A3, c3, by rw [HE.out]; rfl, by rw [HE.out]; exact O3.out.alloc _, Q3.out.alloc _⟩
      · have hmo' : ((((l.take k).filter (inR lo hi)).length : Nat) : Int) < most := by omega
        by_cases hin : btw lo hi l[k].key = true
        · have HF := Lib.hid (filter_yes (f := inR lo hi) hkl hin)
          have HI := Lib.hid hin
          have hlen1 := Lib.hid (show ((l.take (k + 1)).filter (inR lo hi)).length ≤ most.toNat by rw [HF.out, List.length_append, List.length_singleton]; omega)
          have hlen2 := Lib.hid (show (((l.take k).filter (inR lo hi)).length + 1) * 32 ≤ 140737488355328 by have := HFew.out; omega)
          have hlen3 := Lib.hid (show ((l.take (k + 1)).filter (inR lo hi)).length = ((l.take k).filter (inR lo hi)).length + 1 by rw [HF.out, List.length_append, List.length_singleton])
          clear hin hmo
          generalize hgo : ((l.take k).filter (inR lo hi)) = o at O3 HLe hfl hmo' HF hlen2 hlen3 ⊢
          have HGo := Lib.hid hgo
          clear hgo
          generalize hgx : l[k] = x at x0 x1 HF HI
          have HGx := Lib.hid hgx
          clear hgx
          go_wp2_with fail
          refine (between_any x.key lo hi _).mono ?_
          rintro e w4 ⟨rfl, rfl⟩
          rw [HI.out]
          have hz : wr.heap.size < wr.heap.size + 1 := by omega
          go_wp2_with (at_builtin
                       refine wpl_appK pairK rfl (.tmp 27) (.tmp 29) 31 rfl rfl w.heap.size A3 o.length c3 o rfl ((O3.out.alloc _).alloc _) (some ⟨wr.heap.size + 1, 0, none⟩) 1 1 [x] rfl (by have := lit_pair (wr.alloc (.cells #[.string x.key, .string x.val] 44)) x; simpa using this) (fun e => by cases e) hlen2.out (by have := Q3.out.size; simp; omega) ?_
                       intro A5 c5 w5 o5 b5
                       have S5 := Lib.hid (show RgS w l lo hi most (k + 1) (.slice A5 (o.length + 1) c5) w5 from ⟨A5, c5, by rw [hlen3.out], by rw [hlen3.out, HF.out]; exact o5, (((Q3.out.alloc _).alloc _).below).trans b5, hlen1.out⟩)
                       clear o5 b5)
          go_roundw
          case rel => exact ⟨k + 1, by omega, by go_num, S5.out⟩
          case measure => simp [intOf]; omega
        · have hin' : btw lo hi l[k].key = false := by simpa using hin
          have HF := Lib.hid (filter_no (f := inR lo hi) hkl hin')
          have HI := Lib.hid hin'
          have S5 := Lib.hid (show RgS w l lo hi most (k + 1) (.slice A3 ((l.take k).filter (inR lo hi)).length c3) (wr.alloc (.cells #[.string l[k].key, .string l[k].val] 44)) from ⟨A3, c3, by rw [HF.out], by rw [HF.out]; exact O3.out.alloc _, Q3.out.alloc _, by rw [HF.out]; exact HLe.out⟩)
          clear hin hmo hin'
          generalize ((l.take k).filter (inR lo hi)) = o at O3 HLe hfl hmo' HF S5 ⊢
          generalize l[k] = x at x0 x1 HI S5
          go_wp2_with fail
          refine (between_any x.key lo hi _).mono ?_
          rintro e w4 ⟨rfl, rfl⟩
          rw [HI.out]
          go_wp2
          go_roundw
          case rel => exact ⟨k + 1, by omega, by go_num, S5.out⟩
          case measure => simp [intOf]; omega
    · have HE := Lib.hid (range_full (l := l) (lo := lo) (hi := hi) (most := most) (k := k) (by have := HL.out; omega) HLe.out)
      generalize ((l.take k).filter (inR lo hi)) = o at O3 HLe hfl HE ⊢
      go_wp2
      go_ret
      exact ⟨A3, c3, by rw [HE.out]; rfl, by rw [HE.out]; exact O3.out, Q3.out⟩

theorem right_cons (p q : Pr) (l : List Pr) : right (p :: q :: l) = (lt p.key q.key && right (q :: l)) := rfl
theorem right_all : ∀ {l : List Pr}, (∀ i, ∀ h : i + 1 < l.length, lt (l[i]'(by omega)).key l[i + 1].key = true) → right l = true
  | [], _ => rfl
  | [p], _ => rfl
  | p :: q :: l, h => by
    rw [right_cons, show lt p.key q.key = true from h 0 (by simp), Bool.true_and]
    exact right_all fun i hi => h (i + 1) (by simpa using hi)
theorem right_not : ∀ {l : List Pr} {i : Nat} (h : i + 1 < l.length), lt (l[i]'(by omega)).key l[i + 1].key = false → right l = false
  | p :: q :: l, 0, _, h => by rw [right_cons]; simp only [List.getElem_cons_zero, List.getElem_cons_succ] at h; rw [h]; rfl
  | p :: q :: l, i + 1, hi, h => by
    rw [right_cons, right_not (l := q :: l) (i := i) (by simpa using hi) h, Bool.and_false]

end Go.Proofs.Ytcclgepccahhbaa
