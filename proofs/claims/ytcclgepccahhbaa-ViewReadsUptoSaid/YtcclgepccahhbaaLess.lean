/- Contract: the document's order of texts. -/
import Derived.Test.YtcclgepccahhbaaPairMath
import Derived.Test.YtcclgepccahhbaaMem
namespace Go.Proofs.Ytcclgepccahhbaa
set_option maxRecDepth 100000
open Go.RowKit Prm
set_option linter.unusedVariables false
set_option linter.unusedSimpArgs false

theorem less_ne {a b : UInt8} (x y : List UInt8) (h : a ≠ b) : Op.bytesLess (a :: x) (b :: y) = decide (a.toNat < b.toNat) := by
  simp only [Op.bytesLess]
  rw [show (a == b) = false by simpa using h, Bool.false_and, Bool.or_false]
  rfl
theorem less_same (a : UInt8) (x y : List UInt8) : Op.bytesLess (a :: x) (a :: y) = Op.bytesLess x y := by
  simp [Op.bytesLess]
theorem ldrop_at (s : ByteArray) (k : Nat) (h : k < s.size) : s.data.toList.drop k = s[k] :: s.data.toList.drop (k + 1) := by
  rw [List.drop_eq_getElem_cons (by simpa using h)]; rfl
theorem drop_no (s : ByteArray) (k : Nat) (h : s.size ≤ k) : s.data.toList.drop k = [] := List.drop_of_length_le (by simpa using h)

set_option maxHeartbeats 2000000 in
theorem less_any (s t : ByteArray) (w : World) (hs : s.size ≤ maxLen) (ht : t.size ≤ maxLen) :
    Calls Try.prog 29 #[.string s, .string t] w fun e w' => e = .returned (.bool (lt s t)) ∧ ∃ n, w' = w.drewN n := by
  unfold maxLen at hs ht
  go_enter Try.func29, Try.ntmps29
  go_wp2
  go_loopw [5] (fun i wr => ∃ k : Nat, k ≤ s.size ∧ k ≤ t.size ∧ i = .int .i64 k ∧ (∃ n, wr = w.drewN n) ∧ lt s t = Op.bytesLess (s.data.toList.drop k) (t.data.toList.drop k)) (fun i _ => s.size - (intOf i).toNat)
  case atStart => exact ⟨0, Nat.zero_le _, Nat.zero_le _, rfl, ⟨0, rfl⟩, rfl⟩
  case round =>
    obtain ⟨k, hks, hkt, rfl, ⟨q, rfl⟩, hl⟩ := hrel
    have HL := Lib.hid hl
    clear hl
    by_cases h1 : k < s.size
    · by_cases h2 : k < t.size
      · have i1 : (k : Int) < (s.size : Int) := by omega
        have i2 : (k : Int) < (t.size : Int) := by omega
        by_cases hh : s[k] = t[k]
        · have hn : s[k].toNat = t[k].toNat := by rw [hh]
          have b1 : (s[k].toNat == t[k].toNat) = true := by simpa using hn
          have b2 : (s[k].toNat != t[k].toNat) = false := by simpa using hn
          have HS := Lib.hid (show lt s t = Op.bytesLess (s.data.toList.drop (k + 1)) (t.data.toList.drop (k + 1)) by rw [HL.out, ldrop_at s k h1, ldrop_at t k h2, hh, less_same])
          clear hh hn
          go_wp2
          go_quiet (fail)
          all_goals
            go_wp2
            go_roundw
            case rel => exact ⟨k + 1, by omega, by omega, by go_num, ⟨_, rfl⟩, HS.out⟩
            case measure => simp [intOf]; omega
        · have hn : s[k].toNat ≠ t[k].toNat := fun e => hh (UInt8.toNat_inj.1 e)
          have b1 : (s[k].toNat == t[k].toNat) = false := by simpa using hn
          have b2 : (s[k].toNat != t[k].toNat) = true := by simpa using hn
          have HS := Lib.hid (show lt s t = decide (s[k].toNat < t[k].toNat) by rw [HL.out, ldrop_at s k h1, ldrop_at t k h2, less_ne _ _ hh])
          clear hh hn
          go_wp2
          go_quiet (fail)
          all_goals
            go_wp2
            go_quiet (fail)
            all_goals
              go_wp2
              go_ret
              exact ⟨ret_bool (by rw [HS.out]; first | done | rfl | (simp; done) | (simp; omega)), by first | exact ⟨_, rfl⟩ | exact ⟨_, by rw [World.drewN_drewN]⟩ | exact ⟨_, by rw [World.drewN_drewN, World.drewN_drewN]⟩⟩
      · have HS := Lib.hid (show lt s t = false by rw [HL.out, drop_no t k (by omega)]; cases s.data.toList.drop k <;> rfl)
        have i1 : (k : Int) < (s.size : Int) := by omega
        have e3 : k = t.size := by omega
        subst e3
        go_wp2
        go_ret
        exact ⟨ret_bool (by rw [HS.out]; first | done | rfl | (simp; done) | (simp; omega)), by first | exact ⟨_, rfl⟩ | exact ⟨_, by rw [World.drewN_drewN]⟩ | exact ⟨_, by rw [World.drewN_drewN, World.drewN_drewN]⟩⟩
    · have e3 : k = s.size := by omega
      subst e3
      have HS := Lib.hid (show lt s t = decide (s.size < t.size) by
        rw [HL.out, drop_no s _ (Nat.le_refl _)]
        by_cases h2 : s.size < t.size
        · rw [ldrop_at t s.size h2, decide_eq_true h2]; rfl
        · rw [drop_no t _ (by omega), decide_eq_false h2]; rfl)
      go_wp2
      go_ret
      exact ⟨ret_bool (by rw [HS.out]; first | done | rfl | (simp; done) | (simp; omega)), by first | exact ⟨_, rfl⟩ | exact ⟨_, by rw [World.drewN_drewN]⟩ | exact ⟨_, by rw [World.drewN_drewN, World.drewN_drewN]⟩⟩
end Go.Proofs.Ytcclgepccahhbaa
