/- Contracts: package view: Rises, Size. -/
import Derived.Test.YtcclgepccahhbaaView
namespace Go.Proofs.Ytcclgepccahhbaa
set_option maxRecDepth 100000
open Go.RowKit Prm Vm
set_option linter.unusedVariables false
set_option linter.unusedSimpArgs false

def prW (x : Wr) : Pr := ⟨x.key, x.val⟩
def risesB (l : List Wr) : Bool := right (l.map prW)
theorem risesB_iff (l : List Wr) : risesB l = true ↔ rises l := by
  unfold risesB rises
  rw [right_iff]
  unfold Sorted
  rw [List.pairwise_map]
  rfl
theorem risesB_all {l : List Wr} (h : ∀ i, ∀ h : i + 1 < l.length, lt (l[i]'(by omega)).key l[i + 1].key = true) : risesB l = true :=
  right_all fun i hi => by simpa [prW] using h i (by simpa using hi)
theorem risesB_not {l : List Wr} {i : Nat} (h : i + 1 < l.length) (hh : lt (l[i]'(by omega)).key l[i + 1].key = false) : risesB l = false :=
  right_not (i := i) (by simpa using h) (by simpa [prW] using hh)

/-- how many bytes, as an int. -/
def szI (l : List Wr) : Int := IntKind.i64.wrap (size l)
theorem szI_nil : szI [] = 0 := rfl
theorem size_step {l : List Wr} {k : Nat} (hk : k < l.length) : size (l.take (k + 1)) = size (l.take k) + (l[k].key.size + l[k].val.size) := by
  have ha : ∀ a b : List Wr, size (a ++ b) = size a + size b := by
    intro a b
    induction a with
    | nil => simp [size]
    | cons x a ih => simp only [List.cons_append, size, ih]; omega
  rw [List.take_succ_eq_append_getElem hk, ha]; simp [size]
theorem szI_step {l : List Wr} {k : Nat} (hk : k < l.length) : szI (l.take (k + 1)) = IntKind.i64.wrap (szI (l.take k) + ((l[k].key.size : Int) + (l[k].val.size : Int))) ∧
    szI (l.take (k + 1)) = IntKind.i64.wrap (IntKind.i64.wrap (szI (l.take k) + (l[k].key.size : Int)) + (l[k].val.size : Int)) := by
  unfold szI
  rw [size_step hk]
  simp only [IntKind.wrap_i64]
  constructor <;> omega
def WSizes (l : List Wr) : Prop := ∀ x ∈ l, x.key.size ≤ 140737488355328 ∧ x.val.size ≤ 140737488355328

set_option maxHeartbeats 2000000 in
theorem vrises_any (A : Option Addr) (n c : Nat) (l : List Wr) (w : World) (hd : Lst writeK w A n l) (hmx : n ≤ maxLen) :
    Calls Try.prog 16 #[.slice A n c] w fun e w' => e = .returned (.bool (risesB l)) ∧ Q w w' := by
  have HD := Lib.hid hd
  have HL := Lib.hid hd.len
  unfold maxLen at hmx
  clear hd
  go_enter Try.func16, Try.ntmps16
  go_wp2
  go_loopw [3] (fun i wr => ∃ k : Nat, k ≤ n ∧ i = .int .i64 ((k : Int) + 1) ∧ Q w wr ∧ ∀ j, ∀ h : j + 1 < l.length, j < k → lt (l[j]'(by omega)).key l[j + 1].key = true) (fun i _ => n + 1 - (intOf i).toNat)
  case atStart => exact ⟨0, Nat.zero_le _, by go_num, Q.refl _, fun j _ h => by omega⟩
  case round =>
    obtain ⟨k, hk, rfl, q, hall⟩ := hrel
    have HA := Lib.hid hall
    have HQ := Lib.hid q
    clear hall q
    by_cases hlt : k + 1 < n
    · have hkl : k + 1 < l.length := by have := HL.out; omega
      have hkl0 : k < l.length := by omega
      obtain ⟨ad, rfl, hab, x0, x1, x2⟩ := load_write (HD.out.q HQ.out) (Nat.lt_of_succ_lt hlt) hkl0
      obtain ⟨ad', e, hab', y0, y1, y2⟩ := load_write (HD.out.q HQ.out) hlt hkl
      injection e with e
      subst e
      have e0 : (k : Int) + 1 - 1 = k := by omega
      have e1 : IntKind.i64.wrap ((k : Int) + 1 - 1) = k := by rw [IntKind.wrap_i64]; omega
      have e2 : ((k : Int) + 1).toNat = k + 1 := by omega
      have e3 : (k : Int) + 1 < (n : Int) := by omega
      have e4 : (k : Int) < (n : Int) := by omega
      have e5 : (0 : Int) ≤ (k : Int) + 1 := by omega
      by_cases hh : lt l[k].key l[k + 1].key = true
      · have hb := leq_lt l[k + 1].key l[k].key
        rw [hh] at hb
        have HN := Lib.hid (fun (j : Nat) (h : j + 1 < l.length) (hj : j < k + 1) => show lt (l[j]'(by omega)).key l[j + 1].key = true from by
          by_cases e : j < k
          · exact HA.out j h e
          · have e : j = k := by omega
            subst e
            exact hh)
        clear hh x1 y1 x2 y2
        generalize l[k].key = a at x0 hb
        generalize l[k + 1].key = b at y0 hb
        go_wp2
        go_quiet (fail)
        all_goals
          go_wp2
          go_roundw
          case rel => exact ⟨k + 1, by omega, by go_num, HQ.out.drewN _, HN.out⟩
          case measure => simp [intOf]; omega
      · have hh' : lt l[k].key l[k + 1].key = false := by simpa using hh
        have hb := leq_lt l[k + 1].key l[k].key
        rw [hh'] at hb
        have HE := Lib.hid (risesB_not hkl hh')
        clear hh hh' x1 y1 x2 y2
        generalize l[k].key = a at x0 hb
        generalize l[k + 1].key = b at y0 hb
        go_wp2
        go_quiet (fail)
        all_goals
          go_wp2
          go_ret
          exact ⟨by rw [HE.out]; rfl, HQ.out.drewN _⟩
    · have HE := Lib.hid (show risesB l = true from risesB_all fun i hi => HA.out i hi (by have := HL.out; omega))
      have e3 : ¬ ((k : Int) + 1 < (n : Int)) := by omega
      go_wp2
      go_ret
      exact ⟨by rw [HE.out]; rfl, HQ.out⟩

set_option maxHeartbeats 2000000 in
theorem vsize_any (A : Option Addr) (n c : Nat) (l : List Wr) (w : World) (hd : Lst writeK w A n l) (hn : n ≤ maxLen) (hs : WSizes l) :
    Calls Try.prog 14 #[.slice A n c] w fun e w' => e = .returned (.int .i64 (szI l)) ∧ Q w w' := by
  have HD := Lib.hid hd
  have HL := Lib.hid hd.len
  have HS := Lib.hid hs
  unfold maxLen at hn
  clear hd hs
  go_enter Try.func14, Try.ntmps14
  go_wp2
  go_loopw [3, 8] (fun s i wr => ∃ k : Nat, k ≤ n ∧ i = .int .i64 k ∧ s = .int .i64 (szI (l.take k)) ∧ Q w wr) (fun _ i _ => n - (intOf i).toNat)
  case atStart => exact ⟨0, Nat.zero_le _, rfl, by rw [List.take_zero, szI_nil], Q.refl _⟩
  case round =>
    obtain ⟨k, hk, rfl, rfl, hq⟩ := hrel
    by_cases hlt : k < n
    · have hkl : k < l.length := by have := HL.out; omega
      obtain ⟨ad, rfl, hb, c0, c1, c2⟩ := load_write (HD.out.q hq) hlt hkl
      have hkn : (k : Int) < (n : Int) := by omega
      obtain ⟨s1, s2⟩ := HS.out _ (List.getElem_mem hkl)
      have E := szI_step hkl
      generalize hT : szI (l.take (k + 1)) = T at E
      have HT := Lib.hid hT
      clear hT
      generalize szI (l.take k) = S at E ⊢
      generalize l[k] = x at c0 c1 c2 s1 s2 E
      have e1 : IntKind.i64.wrap ((x.key.size : Int) + (x.val.size : Int)) = (x.key.size : Int) + (x.val.size : Int) := by rw [IntKind.wrap_i64]; omega
      have e2 := E.1.symm
      clear E s1 s2
      go_wp2
      all_goals
        (try go_wp2)
        go_roundw
        case rel => exact ⟨k + 1, by omega, by go_num, by rw [HT.out], hq.alloc _⟩
        case measure => simp [intOf]; omega
    · have hkn : k = n := by omega
      have HE := Lib.hid (show l.take k = l by rw [List.take_of_length_le (by have := HL.out; omega)])
      clear hkn
      rw [HE.out]
      go_wp2
      go_ret
      exact ⟨rfl, hq⟩
end Go.Proofs.Ytcclgepccahhbaa
