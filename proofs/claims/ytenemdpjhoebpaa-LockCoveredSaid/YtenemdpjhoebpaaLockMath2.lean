/- Locks: more plain mathematics (how the loops go). -/
import Derived.Test.YtenemdpjhoebpaaLockMath
namespace Go.Proofs.Ytenemdpjhoebpaa.Lm
set_option maxRecDepth 100000
set_option linter.unusedVariables false
set_option linter.unusedSimpArgs false

def addT (txn : Int) (w : Sm.Wn) (o : Int) (v : Sm.Wn) (out : List Int) : List Int := if Sm.clash v w = true ∧ o ≠ txn then ins o out else out
theorem ins_len {n : Int} : ∀ (l : List Int), (ins n l).length ≤ l.length + 1
  | [] => by simp [ins]
  | a :: l => by
    unfold ins
    split
    · omega
    · split
      · simp
      · simp only [List.length_cons]; have := ins_len (n := n) l; omega
theorem addT_len (txn : Int) (w : Sm.Wn) (o : Int) (v : Sm.Wn) (out : List Int) : (addT txn w o v out).length ≤ out.length + 1 := by
  unfold addT; split
  · exact ins_len _
  · omega
theorem gatH_snoc {txn : Int} {w : Sm.Wn} : ∀ (l : List Ho) (h : Ho) (out : List Int), gatH txn w (l ++ [h]) out = addT txn w h.txn h.w (gatH txn w l out)
  | [], h, out => rfl
  | a :: l, h, out => by simp only [List.cons_append, gatH]; exact gatH_snoc l h _
theorem gatQ_snoc {txn : Int} {w : Sm.Wn} : ∀ (l : List Cl) (h : Cl) (out : List Int), gatQ txn w (l ++ [h]) out = addT txn w h.txn h.w (gatQ txn w l out)
  | [], h, out => rfl
  | a :: l, h, out => by simp only [List.cons_append, gatQ]; exact gatQ_snoc l h _
theorem gatH_at {txn : Int} {w : Sm.Wn} {l : List Ho} {k : Nat} (hk : k < l.length) (out : List Int) : gatH txn w (l.take (k + 1)) out = addT txn w l[k].txn l[k].w (gatH txn w (l.take k) out) := by
  rw [List.take_succ_eq_append_getElem hk, gatH_snoc]
theorem gatQ_at {txn : Int} {w : Sm.Wn} {l : List Cl} {k : Nat} (hk : k < l.length) (out : List Int) : gatQ txn w (l.take (k + 1)) out = addT txn w l[k].txn l[k].w (gatQ txn w (l.take k) out) := by
  rw [List.take_succ_eq_append_getElem hk, gatQ_snoc]
theorem gatH_len {txn : Int} {w : Sm.Wn} : ∀ (l : List Ho) (out : List Int), (gatH txn w l out).length ≤ out.length + l.length
  | [], out => by simp [gatH]
  | a :: l, out => by
    have h1 := gatH_len (txn := txn) (w := w) l (addT txn w a.txn a.w out)
    have h2 := addT_len txn w a.txn a.w out
    show (gatH txn w l (addT txn w a.txn a.w out)).length ≤ _
    simp only [List.length_cons]; omega
theorem gatQ_len {txn : Int} {w : Sm.Wn} : ∀ (l : List Cl) (out : List Int), (gatQ txn w l out).length ≤ out.length + l.length
  | [], out => by simp [gatQ]
  | a :: l, out => by
    have h1 := gatQ_len (txn := txn) (w := w) l (addT txn w a.txn a.w out)
    have h2 := addT_len txn w a.txn a.w out
    show (gatQ txn w l (addT txn w a.txn a.w out)).length ≤ _
    simp only [List.length_cons]; omega
theorem blk_len (l : Lo) (txn : Int) (w : Sm.Wn) (n : Nat) : (blk l txn w n).length ≤ l.held.length + l.queue.length := by
  unfold blk
  have h1 := gatQ_len (txn := txn) (w := w) (l.queue.take n) (gatH txn w l.held [])
  have h2 := gatH_len (txn := txn) (w := w) l.held []
  have h3 : (l.queue.take n).length ≤ l.queue.length := List.length_take_le' ..
  simp only [List.length_nil] at h2
  omega
theorem blk_big (l : Lo) (txn : Int) (w : Sm.Wn) {n : Nat} (h : l.queue.length ≤ n) : blk l txn w n = blk l txn w l.queue.length := by
  unfold blk; rw [List.take_of_length_le h, List.take_length]

/-! ### put, as it goes -/
def Pt (l : List Int) (n : Int) (k : Nat) (d : Bool) (o : List Int) : Prop := (d = true → ins n l = o ++ l.drop k) ∧ (d = false → ins n l = o ++ ins n (l.drop k)) ∧ o.length ≤ k + 1
theorem Pt.start (l : List Int) (n : Int) : Pt l n 0 false [] := ⟨fun h => (by cases h), fun _ => by simp, by simp⟩
section
variable {l o : List Int} {n : Int} {k : Nat}
theorem Pt.at_done (h : Pt l n k true o) (hk : k < l.length) : Pt l n (k + 1) true (o ++ [l[k]]) :=
  ⟨fun _ => by rw [h.1 rfl, List.drop_eq_getElem_cons hk]; simp, fun h => (by cases h), by have := h.2.2; simp; omega⟩
theorem Pt.at_same (h : Pt l n k false o) (hk : k < l.length) (e : l[k] = n) (ho : o.length ≤ k) : Pt l n (k + 1) true (o ++ [l[k]]) :=
  ⟨fun _ => by rw [h.2.1 rfl, List.drop_eq_getElem_cons hk, ins, if_pos e]; simp, fun h => (by cases h), by simp; omega⟩
theorem Pt.at_more (h : Pt l n k false o) (hk : k < l.length) (e : n < l[k]) (ho : o.length ≤ k) : Pt l n (k + 1) true ((o ++ [n]) ++ [l[k]]) :=
  ⟨fun _ => by rw [h.2.1 rfl, List.drop_eq_getElem_cons hk, ins, if_neg (by omega), if_pos e]; simp, fun h => (by cases h), by simp; omega⟩
theorem Pt.at_less (h : Pt l n k false o) (hk : k < l.length) (e : l[k] < n) (ho : o.length ≤ k) : Pt l n (k + 1) false (o ++ [l[k]]) :=
  ⟨fun h => (by cases h), fun _ => by rw [h.2.1 rfl, List.drop_eq_getElem_cons hk, ins, if_neg (by omega), if_neg (by omega)]; simp, by simp; omega⟩
theorem Pt.end_done (h : Pt l n l.length true o) : ins n l = o := by rw [h.1 rfl]; simp
theorem Pt.end_not (h : Pt l n l.length false o) : ins n l = o ++ [n] := by rw [h.2.1 rfl]; simp [ins]
end

/-! ### late, as it goes -/
def late1 (now : Nat) (l : List Cl) : List Int := (l.filter fun c => decide (c.til ≤ now)).map Cl.txn
theorem late_is (l : Lo) (now : Nat) : late l now = late1 now l.queue := rfl
theorem late_at {now : Nat} {l : List Cl} {k : Nat} (hk : k < l.length) : late1 now (l.take (k + 1)) = if l[k].til ≤ now then late1 now (l.take k) ++ [l[k].txn] else late1 now (l.take k) := by
  unfold late1
  rw [List.take_succ_eq_append_getElem hk, List.filter_append, List.map_append]
  split
  · rename_i h; simp [h]
  · rename_i h; simp [h]
theorem late_len (now : Nat) (l : List Cl) : (late1 now l).length ≤ l.length := by unfold late1; rw [List.length_map]; exact List.length_filter_le _ _

/-! ### settle, as it goes -/
def fin (l : Lo) (out : List Int) : Lo × List Int := settleN l.queue.length l out
theorem settle_is (l : Lo) : settle l = fin l [] := rfl
theorem fin_none {l : Lo} {out : List Int} (h : first l = none) : fin l out = (l, out) := by
  unfold fin
  cases hq : l.queue.length with
  | zero => rfl
  | succ n => unfold settleN; rw [h]
theorem give_len {l : Lo} {i : Nat} (hi : i < l.queue.length) : (give l i l.queue[i]).queue.length + 1 = l.queue.length := by
  show (l.queue.eraseIdx i).length + 1 = _
  rw [List.length_eraseIdx, if_pos hi]; omega
theorem fin_some {l : Lo} {out : List Int} {i : Nat} (h : first l = some i) (hi : i < l.queue.length) : fin l out = fin (give l i l.queue[i]) (out ++ [l.queue[i].txn]) := by
  have hg := give_len hi
  unfold fin
  obtain ⟨m, hm⟩ : ∃ m, l.queue.length = m + 1 := ⟨l.queue.length - 1, by omega⟩
  rw [show (give l i l.queue[i]).queue.length = m by omega]
  rw [show settleN l.queue.length l out = settleN (m + 1) l out by rw [hm]]
  rw [settleN, h]
  simp only [hi, dif_pos]
/-- the search, from place i on. -/
def seek (l : Lo) (i : Nat) : Option Nat := pick l (l.queue.length - i) i
theorem seek_zero (l : Lo) : first l = seek l 0 := rfl
theorem seek_at {l : Lo} {i : Nat} (hi : i < l.queue.length) : seek l i = if blk l l.queue[i].txn l.queue[i].w i = [] then some i else seek l (i + 1) := by
  unfold seek
  rw [show l.queue.length - i = (l.queue.length - (i + 1)) + 1 by omega, pick]
  simp only [hi, dif_pos]
theorem seek_end {l : Lo} {i : Nat} (hi : l.queue.length ≤ i) : seek l i = none := by
  unfold seek
  rw [show l.queue.length - i = 0 by omega]; rfl
theorem settle_len : ∀ (n : Nat) (l : Lo) (out : List Int), (settleN n l out).1.held.length + (settleN n l out).1.queue.length ≤ l.held.length + l.queue.length ∧ (settleN n l out).2.length ≤ out.length + n
  | 0, l, out => by simp [settleN]
  | n + 1, l, out => by
    unfold settleN
    cases hf : first l with
    | none => simp only; omega
    | some i =>
      by_cases hi : i < l.queue.length
      · simp only [hi, dif_pos]
        have h1 := settle_len n (give l i l.queue[i]) (out ++ [l.queue[i].txn])
        have h2 := give_len hi
        have h3 : (give l i l.queue[i]).held.length = l.held.length + 1 := by simp [give]
        simp only [List.length_append, List.length_singleton] at h1
        omega
      · simp only [hi, dif_neg, not_false_eq_true]; omega
theorem keep_len (l : Lo) (txn : Int) : (keep l txn).held.length ≤ l.held.length ∧ (keep l txn).queue.length ≤ l.queue.length := ⟨List.length_filter_le _ _, List.length_filter_le _ _⟩
theorem ask_len (l : Lo) (txn : Int) (w : Sm.Wn) (til : Nat) : (ask l txn w til).1.held.length ≤ l.held.length + 1 ∧ (ask l txn w til).1.queue.length ≤ l.queue.length + 1 ∧ (ask l txn w til).1.held.length + (ask l txn w til).1.queue.length ≤ l.held.length + l.queue.length + 1 := by
  unfold ask
  split
  · first | (simp; done) | (simp; omega)
  split
  · first | (simp; done) | (simp; omega)
  split
  · first | (simp; done) | (simp; omega)
  split
  · first | (simp; done) | (simp; omega)
  split
  · first | (simp; done) | (simp; omega)
  · first | (simp; done) | (simp; omega)
theorem free_len (l : Lo) (txn : Int) : (free l txn).1.held.length + (free l txn).1.queue.length ≤ l.held.length + l.queue.length := by
  have h1 := settle_len (keep l txn).queue.length (keep l txn) []
  have h2 := keep_len l txn
  show (settleN (keep l txn).queue.length (keep l txn) []).1.held.length + (settleN (keep l txn).queue.length (keep l txn) []).1.queue.length ≤ _
  omega
end Go.Proofs.Ytenemdpjhoebpaa.Lm
