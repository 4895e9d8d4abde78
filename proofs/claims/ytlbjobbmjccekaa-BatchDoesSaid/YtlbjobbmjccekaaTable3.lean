/- Contracts: table.Range, table.Right. -/
import Derived.Test.YtlbjobbmjccekaaTable2
namespace Go.Proofs.Ytlbjobbmjccekaa
set_option maxRecDepth 100000
open Go.RowKit Prm
set_option linter.unusedVariables false
set_option linter.unusedSimpArgs false

def inR (lo hi : ByteArray) (p : Pr) : Bool := btw lo hi p.key
theorem range_full {l : List Pr} {lo hi : ByteArray} {most : Int} {k : Nat} (h : k = l.length) (hl : ((l.take k).filter (inR lo hi)).length ≤ most.toNat) : range l lo hi most = (l.take k).filter (inR lo hi) := by
  subst h
  rw [List.take_length] at hl ⊢
  unfold range
  exact List.take_of_length_le hl
theorem range_cut {l : List Pr} {lo hi : ByteArray} {most : Int} {k : Nat} (hl : ((l.take k).filter (inR lo hi)).length ≤ most.toNat) (hm : most ≤ ((l.take k).filter (inR lo hi)).length) : range l lo hi most = (l.take k).filter (inR lo hi) := by
  have e : ((l.take k).filter (inR lo hi)).length = most.toNat := by omega
  unfold range
  have e2 : l.filter (fun p => btw lo hi p.key) = (l.take k).filter (inR lo hi) ++ (l.drop k).filter (inR lo hi) := by
    rw [← List.filter_append, List.take_append_drop]; rfl
  rw [e2, ← e, List.take_left]
theorem filter_yes {l : List Pr} {f : Pr → Bool} {k : Nat} (hk : k < l.length) (h : f l[k] = true) : (l.take (k + 1)).filter f = (l.take k).filter f ++ [l[k]] := by
  rw [List.take_succ_eq_append_getElem hk, List.filter_append, List.filter_cons, h]; rfl
theorem filter_no {l : List Pr} {f : Pr → Bool} {k : Nat} (hk : k < l.length) (h : f l[k] = false) : (l.take (k + 1)).filter f = (l.take k).filter f := by
  rw [List.take_succ_eq_append_getElem hk, List.filter_append, List.filter_cons, h]; simp

/-- what a range has behind k pairs. -/
def RgS (w : World) (l : List Pr) (lo hi : ByteArray) (most : Int) (k : Nat) (v : Value) (wr : World) : Prop :=
  ∃ A1 c1, v = .slice A1 ((l.take k).filter (inR lo hi)).length c1 ∧ OwnK pairK wr w.heap.size A1 ((l.take k).filter (inR lo hi)).length c1 ((l.take k).filter (inR lo hi)) ∧ Q w wr ∧ ((l.take k).filter (inR lo hi)).length ≤ most.toNat

theorem right_cons (p q : Pr) (l : List Pr) : right (p :: q :: l) = (lt p.key q.key && right (q :: l)) := rfl
theorem right_all : ∀ {l : List Pr}, (∀ i, ∀ h : i + 1 < l.length, lt (l[i]'(by omega)).key l[i + 1].key = true) → right l = true
  | [], _ => rfl
  | [p], _ => rfl
  | p :: q :: l, h => by
    rw [right_cons, show lt p.key q.key = true from h 0 (by simp), Bool.true_and]
    exact right_all fun i hi => h (i + 1) (by simpa using hi)
theorem right_not : ∀ {l : List Pr} {i : Nat} (h : i + 1 < l.length), lt (l[i]'(by omega)).key l[i + 1].key = false → right l = false
  | p :: q :: l, 0, _, h => by rw [right_cons]; simp only [List.getElem_cons_zero, List.getElem_cons_succ] at h; rw [h]; rfl
  | p :: q :: l, i + 1, hi, h => by
    rw [right_cons, right_not (l := q :: l) (i := i) (by simpa using hi) h, Bool.and_false]

set_option maxHeartbeats 2000000 in
theorem right_any (A : Option Addr) (n c : Nat) (l : List Pr) (w : World) (hd : Lst pairK w A n l) (hmx : n ≤ maxLen) :
    Calls Try.prog 68 #[.slice A n c] w fun e w' => e = .returned (.bool (right l)) ∧ Q w w' := by
  have HD := Lib.hid hd
  have HL := Lib.hid hd.len
  unfold maxLen at hmx
  clear hd
  go_enter Try.func68, Try.ntmps68
  go_wp2
  go_loopw [3] (fun i wr => ∃ k : Nat, k ≤ n ∧ i = .int .i64 ((k : Int) + 1) ∧ Q w wr ∧ ∀ j, ∀ h : j + 1 < l.length, j < k → lt (l[j]'(by omega)).key l[j + 1].key = true) (fun i _ => n + 1 - (intOf i).toNat)
  case atStart => exact ⟨0, Nat.zero_le _, by go_num, Q.refl _, fun j _ h => by omega⟩
  case round =>
    obtain ⟨k, hk, rfl, q, hall⟩ := hrel
    have HA := Lib.hid hall
    have HQ := Lib.hid q
    clear hall q
    by_cases hlt : k + 1 < n
    · have hkl : k + 1 < l.length := by have := HL.out; omega
      have hkl0 : k < l.length := by omega
      obtain ⟨ad, rfl, hab, x0, x1⟩ := load_pair (HD.out.q HQ.out) (Nat.lt_of_succ_lt hlt) hkl0
      obtain ⟨ad', e, hab', y0, y1⟩ := load_pair (HD.out.q HQ.out) hlt hkl
      injection e with e
      subst e
      have e0 : (k : Int) + 1 - 1 = k := by omega
      have e1 : IntKind.i64.wrap ((k : Int) + 1 - 1) = k := by rw [IntKind.wrap_i64]; omega
      have e2 : ((k : Int) + 1).toNat = k + 1 := by omega
      have e3 : (k : Int) + 1 < (n : Int) := by omega
      have e4 : (k : Int) < (n : Int) := by omega
      have e5 : (0 : Int) ≤ (k : Int) + 1 := by omega
      by_cases hh : lt l[k].key l[k + 1].key = true
      · have hb := leq_lt l[k + 1].key l[k].key
        rw [hh] at hb
        have HN := Lib.hid (fun (j : Nat) (h : j + 1 < l.length) (hj : j < k + 1) => show lt (l[j]'(by omega)).key l[j + 1].key = true from by
          by_cases e : j < k
          · exact HA.out j h e
          · have e : j = k := by omega
            subst e
            exact hh)
        clear hh x1 y1
        generalize l[k].key = a at x0 hb
        generalize l[k + 1].key = b at y0 hb
        go_wp2
        go_quiet (fail)
        all_goals
          go_wp2
          go_roundw
          case rel => exact ⟨k + 1, by omega, by go_num, HQ.out.drewN _, HN.out⟩
          case measure => simp [intOf]; omega
      · have hh' : lt l[k].key l[k + 1].key = false := by simpa using hh
        have hb := leq_lt l[k + 1].key l[k].key
        rw [hh'] at hb
        have HE := Lib.hid (right_not hkl hh')
        clear hh hh' x1 y1
        generalize l[k].key = a at x0 hb
        generalize l[k + 1].key = b at y0 hb
        go_wp2
        go_quiet (fail)
        all_goals
          go_wp2
          go_ret
          exact ⟨by rw [HE.out]; rfl, HQ.out.drewN _⟩
    · have HE := Lib.hid (show right l = true from right_all fun i hi => HA.out i hi (by have := HL.out; omega))
      have e3 : ¬ ((k : Int) + 1 < (n : Int)) := by omega
      go_wp2
      go_ret
      exact ⟨by rw [HE.out]; rfl, HQ.out⟩
end Go.Proofs.Ytlbjobbmjccekaa
