/- Texts as a kind of elements; the document's Same over lists of them; lists of texts as they come in. -/
import Derived.Test.YthcdcjidoacalaaKindIn
import Derived.Test.YthcdcjidoacalaaBytes
namespace Go.Proofs.Ythcdcjidoacalaa
set_option maxRecDepth 100000
open Go.ChangeShapes Go.WideShapes Go.RowKit
set_option linter.unusedVariables false
set_option linter.unusedSimpArgs false

def tx (r : List UInt8) : ByteArray := ⟨r.toArray⟩
theorem tx_list (s : ByteArray) : tx s.data.toList = s := rfl
theorem list_tx (l : List UInt8) : (tx l).data.toList = l := rfl
theorem tx_size (l : List UInt8) : (tx l).size = l.length := by show l.toArray.size = _; simp
theorem tx_inj {a b : List UInt8} (h : tx a = tx b) : a = b := by rw [← list_tx a, h, list_tx]
theorem tx_app (a b : List UInt8) : tx a ++ tx b = tx (a ++ b) := by
  apply ByteArray.ext
  rw [ByteArray.data_append]
  apply Array.ext'
  rw [Array.toList_append]
  rfl
def textK : Kind (List UInt8) where
  T := 9
  S := 30
  k := 1
  bs := 16
  z := .string ⟨#[]⟩
  row := fun r => [.string (tx r)]
  pos := by omega
  bpos := by omega
  len := fun _ => rfl
  one := fun _ u hu => by simp at hu; rcases hu with rfl; rfl
  und := Try.underlying30
  info := by kernel_rfl
  zc := rfl
theorem textK_rows (l : List (List UInt8)) : textK.rows l = l.map fun r => Value.string (tx r) := by
  induction l with
  | nil => rfl
  | cons a l ih => rw [Kind.rows, ih]; rfl
theorem load_text {w : World} {A : Option Addr} {n : Nat} {l : List (List UInt8)} (h : Lst textK w A n l) {k : Nat} (hk : k < n) (hl : k < l.length) :
    ∃ ad, A = some ad ∧ ad.block < w.heap.size ∧ w.cell? (ad.add k) = some (.string (tx l[k])) := by
  obtain ⟨ad, e, hb, hc⟩ := h.load hk hl
  refine ⟨ad, e, hb, ?_⟩
  have := hc 0 _ rfl
  rwa [show k * textK.k = k from Nat.mul_one k] at this
theorem open_texts {w : World} {cs : List Value} (h : Rd w 30 cs) : ∃ A n c l, cs = [.slice A n c] ∧ In_ textK w A n c l ∧ n * 16 ≤ 140737488351232 ∧ ∀ a ∈ l, a.length ≤ 140737488351232 :=
  open_kind textK (fun a => a.length ≤ 140737488351232) (fun cs hr => by
    obtain ⟨s, rfl, hs⟩ := hr.string Try.underlying9
    exact ⟨s.data.toList, by rw [show textK.row s.data.toList = [.string (tx s.data.toList)] from rfl, tx_list], by rw [size_list]; exact hs⟩) (by kernel_rfl) (by kernel_rfl) h

set_option maxHeartbeats 2000000 in
theorem same_text (A B : Option Addr) (n c m d : Nat) (a b : List (List UInt8)) (w : World) (h1 : Lst textK w A n a) (h2 : Lst textK w B m b) (hn : n ≤ maxLen) :
    Calls Try.prog 16 #[.slice A n c, .slice B m d] w fun e w' => e = .returned (.bool (decide (a = b))) ∧ Q w w' := by
  unfold maxLen at hn
  by_cases hnm : n = m
  case neg =>
    have hf : decide (a = b) = false := decide_eq_false fun e => hnm (by rw [← h1.len, ← h2.len, e])
    have HF := Lib.hid hf
    have hi : ¬ (n : Int) = (m : Int) := by omega
    clear hf h1 h2 hnm
    go_enter Try.func16, Try.ntmps16
    go_wp2
    go_ret
    exact ⟨by rw [HF.out]; rfl, Q.refl _⟩
  subst hnm
  have H1 := Lib.hid h1
  have H2 := Lib.hid h2
  have L1 := Lib.hid h1.len
  have L2 := Lib.hid h2.len
  clear h1 h2
  go_enter Try.func16, Try.ntmps16
  go_wp2
  go_loopw [5] (fun i wr => ∃ k : Nat, k ≤ n ∧ i = .int .i64 (k : Nat) ∧ a.take k = b.take k ∧ Q w wr) (fun i _ => n - (intOf i).toNat)
  case atStart => exact ⟨0, Nat.zero_le _, rfl, rfl, Q.refl _⟩
  case round =>
    obtain ⟨k, hk, rfl, htk, hq⟩ := hrel
    have HT := Lib.hid htk
    have HQ := Lib.hid hq
    clear htk hq
    by_cases hlt : k < n
    case neg =>
      have e : n = k := by omega
      have hf : decide (a = b) = true := decide_eq_true (by
        have h := HT.out
        rw [List.take_of_length_le (by have := L1.out; omega), List.take_of_length_le (by have := L2.out; omega)] at h
        exact h)
      have HF := Lib.hid hf
      clear hf e
      go_wp2
      go_ret
      exact ⟨by rw [HF.out]; rfl, HQ.out⟩
    have ha : k < a.length := by have := L1.out; omega
    have hb : k < b.length := by have := L2.out; omega
    obtain ⟨x, hxA, hxb, hxc⟩ := load_text (H1.out.q HQ.out) hlt ha
    obtain ⟨y, hyB, hyb, hyc⟩ := load_text (H2.out.q HQ.out) hlt hb
    have HA := Lib.hid hxA
    have HB := Lib.hid hyB
    have hk2 : (k : Int) < (n : Int) := by omega
    by_cases he : tx a[k] = tx b[k]
    · have hnx : a.take (k + 1) = b.take (k + 1) := by
        rw [List.take_add_one, List.take_add_one, HT.out, List.getElem?_eq_getElem ha, List.getElem?_eq_getElem hb, tx_inj he]
      have HN := Lib.hid hnx
      rw [← he] at hyc
      clear he hnx
      generalize tx a[k] = s at hxc hyc
      have he2 : (s.toList == s.toList) = true := by simp
      subst hxA hyB
      clear HA HB ha hb
      go_wp2
      go_quiet (fail)
      all_goals
        go_wp2
        go_roundw
        case rel => exact ⟨k + 1, by omega, by first | rfl | simp | go_num, HN.out, by first | exact HQ.out | exact HQ.out.drew | exact HQ.out.drewN _⟩
        case measure => simp [intOf]; omega
    · have hf : decide (a = b) = false := decide_eq_false fun e => he (by subst e; rfl)
      have HF := Lib.hid hf
      generalize tx a[k] = s at hxc he
      generalize tx b[k] = t at hyc he
      have hne : (s.toList == t.toList) = false := by
        rw [same_str]; simpa using he
      subst hxA hyB
      clear HA HB ha hb hf
      go_wp2
      go_quiet (fail)
      all_goals
        go_wp2
        go_ret
        exact ⟨by rw [HF.out]; rfl, by first | exact HQ.out | exact HQ.out.drew | exact HQ.out.drewN _⟩
theorem same_self (A B : Option Addr) (n c m d : Nat) (a : List (List UInt8)) (w : World) (h1 : Lst textK w A n a) (h2 : Lst textK w B m a) (hn : n ≤ maxLen) :
    Calls Try.prog 16 #[.slice A n c, .slice B m d] w fun e w' => e = .returned (.bool true) ∧ Q w w' :=
  (same_text A B n c m d a a w h1 h2 hn).mono fun e w' ⟨h, q⟩ => ⟨by rw [h, decide_eq_true rfl], q⟩
end Go.Proofs.Ythcdcjidoacalaa
