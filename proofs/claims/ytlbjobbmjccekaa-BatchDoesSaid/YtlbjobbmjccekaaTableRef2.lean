/- Contracts: the document's answer for pairs: Right, Range, Put, Apply. -/
import Derived.Test.YtlbjobbmjccekaaTableRef
namespace Go.Proofs.Ytlbjobbmjccekaa
set_option maxRecDepth 100000
open Go.RowKit Prm
set_option linter.unusedVariables false
set_option linter.unusedSimpArgs false

/-- the sizes of a list's keys. -/
def KeysIn (l : List Pr) : Prop := ∀ p ∈ l, p.key.size ≤ maxLen
theorem KeysIn.at_ {l : List Pr} (h : KeysIn l) {k : Nat} (hk : k < l.length) : l[k].key.size ≤ maxLen := h _ (List.getElem_mem hk)

set_option maxHeartbeats 2000000 in
theorem refRight_any (A : Option Addr) (n c : Nat) (l : List Pr) (w : World) (hd : Lst pairK w A n l) (hmx : n ≤ maxLen) (hs : KeysIn l) :
    Calls Try.prog 30 #[.slice A n c] w fun e w' => e = .returned (.bool (right l)) ∧ Q w w' := by
  have HD := Lib.hid hd
  have HL := Lib.hid hd.len
  have HS := Lib.hid hs
  unfold maxLen at hmx
  clear hd hs
  go_enter Try.func30, Try.ntmps30
  go_wp2
  go_loopw [3] (fun i wr => ∃ k : Nat, k ≤ n ∧ i = .int .i64 ((k : Int) + 1) ∧ Q w wr ∧ ∀ j, ∀ h : j + 1 < l.length, j < k → lt (l[j]'(by omega)).key l[j + 1].key = true) (fun i _ => n + 1 - (intOf i).toNat)
  case atStart => exact ⟨0, Nat.zero_le _, by go_num, Q.refl _, fun j _ h => by omega⟩
  case round =>
    obtain ⟨k, hk, rfl, q, hall⟩ := hrel
    have HA := Lib.hid hall
    have HQ := Lib.hid q
    clear hall q
    by_cases hlt : k + 1 < n
    · have hkl : k + 1 < l.length := by have := HL.out; omega
      have hkl0 : k < l.length := by omega
      obtain ⟨ad, rfl, hab, x0, x1⟩ := load_pair (HD.out.q HQ.out) (Nat.lt_of_succ_lt hlt) hkl0
      obtain ⟨ad', e, hab', y0, y1⟩ := load_pair (HD.out.q HQ.out) hlt hkl
      injection e with e
      subst e
      have e1 : IntKind.i64.wrap ((k : Int) + 1 - 1) = k := by rw [IntKind.wrap_i64]; omega
      have e2 : ((k : Int) + 1).toNat = k + 1 := by omega
      have e3 : (k : Int) + 1 < (n : Int) := by omega
      have e4 : (k : Int) < (n : Int) := by omega
      have e5 : (0 : Int) ≤ (k : Int) + 1 := by omega
      have K1 := Lib.hid (fun W => less_any l[k].key l[k + 1].key W (HS.out.at_ hkl0) (HS.out.at_ hkl))
      by_cases hh : lt l[k].key l[k + 1].key = true
      · have HN := Lib.hid (fun (j : Nat) (h : j + 1 < l.length) (hj : j < k + 1) => show lt (l[j]'(by omega)).key l[j + 1].key = true from by
          by_cases e : j < k
          · exact HA.out j h e
          · have e : j = k := by omega
            subst e
            exact hh)
        rw [hh] at K1
        clear hh x1 y1
        generalize l[k].key = a at x0 K1
        generalize l[k + 1].key = b at y0 K1
        go_wp2
        go_quiet ((go_at_call 47; exact Calls.quiet_of (K1.out _)))
        all_goals
          go_wp2
          go_roundw
          case rel => exact ⟨k + 1, by omega, by go_num, HQ.out.drewN _, HN.out⟩
          case measure => simp [intOf]; omega
      · have hh' : lt l[k].key l[k + 1].key = false := by simpa using hh
        have HE := Lib.hid (right_not hkl hh')
        rw [hh'] at K1
        clear hh hh' x1 y1
        generalize l[k].key = a at x0 K1
        generalize l[k + 1].key = b at y0 K1
        go_wp2
        go_quiet ((go_at_call 47; exact Calls.quiet_of (K1.out _)))
        all_goals
          go_wp2
          go_ret
          exact ⟨by rw [HE.out]; rfl, HQ.out.drewN _⟩
    · have HE := Lib.hid (show right l = true from right_all fun i hi => HA.out i hi (by have := HL.out; omega))
      have e3 : ¬ ((k : Int) + 1 < (n : Int)) := by omega
      go_wp2
      go_ret
      exact ⟨by rw [HE.out]; rfl, HQ.out⟩

end Go.Proofs.Ytlbjobbmjccekaa
