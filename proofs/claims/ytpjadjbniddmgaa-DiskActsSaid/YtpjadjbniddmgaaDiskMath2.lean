/- The disk in plain mathematics: what a crash, a rename and a deletion make of it; lists of integers in memory. -/
import Derived.Test.YtpjadjbniddmgaaFiles
namespace Go.Proofs.Ytpjadjbniddmgaa
open Go.RowKit Dkm
namespace Dkm
/-- how many bytes of what waits a crash keeps. -/
def kp (ks : List Int) (i : Nat) (f : Fil) : Nat := if i < ks.length then (min (max (ks.getD i 0) 0) (f.wt.size : Int)).toNat else 0
theorem kp_le (ks : List Int) (i : Nat) (f : Fil) : kp ks i f ≤ f.wt.size := by unfold kp; split <;> omega
theorem kp_in {ks : List Int} {i : Nat} (f : Fil) (h : i < ks.length) : min (max ks[i] 0) (f.wt.size : Int) = (kp ks i f : Int) := by
  unfold kp; rw [if_pos h]; simp only [List.getD_eq_getElem?_getD, List.getElem?_eq_getElem h, Option.getD_some]; omega
theorem kp_out {ks : List Int} {i : Nat} (f : Fil) (h : ¬ i < ks.length) : kp ks i f = 0 := by unfold kp; rw [if_neg h]
def crf (ks : List Int) (i : Nat) (f : Fil) : Fil := ⟨f.nm, f.sf ++ f.wt.extract 0 (kp ks i f), ⟨#[]⟩⟩
theorem crf_zero {ks : List Int} {i : Nat} {f : Fil} (h : kp ks i f = 0) : crf ks i f = ⟨f.nm, f.sf, ⟨#[]⟩⟩ := by
  unfold crf; rw [h]
  have e : f.wt.extract 0 0 = ⟨#[]⟩ := by ext1; simp
  rw [e]
  congr 1
  ext1; simp
/-- the list of files, the first k of them behind the crash. -/
def crl (ks : List Int) (l : List Fil) (k : Nat) : List Fil := (l.take k).mapIdx (crf ks) ++ l.drop k
theorem crl_zero (ks : List Int) (l : List Fil) : crl ks l 0 = l := by simp [crl]
theorem crl_len (ks : List Int) (l : List Fil) (k : Nat) : (crl ks l k).length = l.length := by
  simp [crl]; omega
theorem crl_get? (ks : List Int) (l : List Fil) (k : Nat) (h : k < l.length) : (crl ks l k)[k]? = some l[k] := by
  unfold crl
  rw [List.getElem?_append_right (by simp; omega)]
  simp only [List.length_mapIdx, List.length_take, show k - min k l.length = 0 by omega, List.getElem?_drop, Nat.add_zero]
  exact List.getElem?_eq_getElem h
theorem crl_get (ks : List Int) (l : List Fil) (k : Nat) (h : k < l.length) (h' : k < (crl ks l k).length) : (crl ks l k)[k] = l[k] := by
  have e := crl_get? ks l k h
  rw [List.getElem?_eq_getElem h'] at e
  injection e
theorem crl_succ (ks : List Int) (l : List Fil) (k : Nat) (h : k < l.length) : crl ks l (k + 1) = (crl ks l k).set k (crf ks k l[k]) := by
  unfold crl
  have e : ((l.take k).mapIdx (crf ks)).length = k := by simp; omega
  rw [List.take_succ_eq_append_getElem h, List.mapIdx_append, List.set_append_right _ _ (by omega), List.append_assoc]
  congr 1
  rw [List.drop_eq_getElem_cons h, e, Nat.sub_self, List.set_cons_zero]
  simp [show min k l.length = k by omega]
/-- room behind the crash of the first k files. -/
def croom (ks : List Int) (l : List Fil) (room : Int) : Nat → Int
  | 0 => room
  | k + 1 => wrap64 (croom ks l room k + ((((l.getD k ⟨⟨#[]⟩, ⟨#[]⟩, ⟨#[]⟩⟩).wt.size : Nat) : Int) - (kp ks k (l.getD k ⟨⟨#[]⟩, ⟨#[]⟩, ⟨#[]⟩⟩) : Nat)))
theorem croom_succ (ks : List Int) (l : List Fil) (room : Int) (k : Nat) (h : k < l.length) : croom ks l room (k + 1) = wrap64 (croom ks l room k + ((l[k].wt.size : Int) - (kp ks k l[k] : Int))) := by
  simp only [croom, List.getD_eq_getElem?_getD, List.getElem?_eq_getElem h, Option.getD_some]
/-- what a crash makes of a disk. -/
def crs (d : Dk) (ks : List Int) : Dk := ⟨crl ks d.fs d.fs.length, croom ks d.fs d.room d.fs.length, -1, false⟩
end Dkm

/-- a slice of integers reads so. -/
def Ints (w : World) (A : Option Addr) (n : Nat) (ks : List Int) : Prop := Holds w w.heap.size 1 A n (ks.map (Value.int .i64))
theorem Ints.q {w w' : World} {A : Option Addr} {n : Nat} {l : List Int} (h : Ints w A n l) (hq : Q w w') : Ints w' A n l := Holds.q h hq
theorem Ints.len {w : World} {A : Option Addr} {n : Nat} {l : List Int} (h : Ints w A n l) : l.length = n := by
  have := h.1; simp at this; exact this
theorem Ints.load {w : World} {A : Option Addr} {n : Nat} {l : List Int} (h : Ints w A n l) {k : Nat} (hl : k < l.length) :
    ∃ ad, A = some ad ∧ ad.block < w.heap.size ∧ w.cell? (ad.add k) = some (.int .i64 l[k]) := h.2 k _ (by simp [hl])
theorem Ints.none_ (w : World) (A : Option Addr) : Ints w A 0 [] := Holds.none_ _ _ _ _
end Go.Proofs.Ytpjadjbniddmgaa
