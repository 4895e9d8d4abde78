/- A disk that takes so many bytes more takes just these: the mathematics. -/
import Derived.Test.YtpjadjbniddmgaaDiskInv
namespace Go.Proofs.Ytpjadjbniddmgaa
open Go.RowKit Dkm
set_option linter.unusedVariables false
namespace Dkm
def na : ByteArray := ⟨#[97]⟩
def nb : ByteArray := ⟨#[98]⟩
theorem na_nb : na ≠ nb := by decide
def nmI (k : Nat) : ByteArray := if k % 2 = 0 then na else nb
def fa (x : ByteArray) : Fil := ⟨na, ⟨#[]⟩, x⟩
def fb (y : ByteArray) : Fil := ⟨nb, ⟨#[]⟩, y⟩
def shp (k : Nat) (x y : ByteArray) : List Fil := if k = 0 then [] else if k = 1 then [fa x] else [fa x, fb y]
/-- it has power: its fuse is what is left. -/
structure Alive (f0 : Int) (d : Dk) (lf : Int) (k : Nat) : Prop where
  off : d.off = false
  fuse : d.fuse = lf
  low : 0 ≤ lf
  high : lf ≤ f0
  room : d.room = 1048576 - f0 + lf
  files : ∃ x y : ByteArray, d.fs = shp k x y ∧ (x.size : Int) ≤ f0 - lf ∧ (y.size : Int) ≤ f0 - lf
theorem empty_size : (⟨#[]⟩ : ByteArray).size = 0 := rfl
theorem opn_shp (k : Nat) (x y : ByteArray) : ∃ f q, opn (nmI k) (shp k x y) = (f, q) ∧ f.sf.size = 0 ∧ (f.wt.size ≤ x.size ∨ f.wt.size ≤ y.size) ∧ q ≤ 1 ∧
    ∀ t : ByteArray, ∃ x' y', put (shp k x y) q ⟨f.nm, f.sf, f.wt ++ t⟩ = shp (k + 1) x' y' ∧ x'.size ≤ x.size + t.size ∧ y'.size ≤ y.size + t.size := by
  have e0 : ∀ t : ByteArray, (⟨#[]⟩ : ByteArray) ++ t = t := fun t => by ext1; simp
  by_cases h0 : k = 0
  · subst h0
    refine ⟨⟨na, ⟨#[]⟩, ⟨#[]⟩⟩, 0, by rw [show shp 0 x y = [] from rfl, opn_none (by simp)]; rfl, rfl, .inl (Nat.zero_le _), by omega, fun t => ⟨t, ⟨#[]⟩, ?_, by omega, Nat.zero_le _⟩⟩
    simp only [e0]; rfl
  by_cases h1 : k = 1
  · subst h1
    refine ⟨⟨nb, ⟨#[]⟩, ⟨#[]⟩⟩, 1, by rw [show shp 1 x y = [fa x] from rfl, opn_none (by simp [fa]; exact na_nb)]; rfl, rfl, .inl (Nat.zero_le _), by omega, fun t => ⟨x, t, ?_, by omega, by omega⟩⟩
    simp only [e0]; rfl
  have e1 : ∀ a b, shp k a b = [fa a, fb b] := fun a b => by simp [shp, h0, h1]
  have e2 : ∀ a b, shp (k + 1) a b = [fa a, fb b] := fun a b => by simp [shp, h0]
  by_cases h2 : k % 2 = 0
  · refine ⟨fa x, 0, ?_, rfl, .inl (Nat.le_refl _), by omega, fun t => ⟨x ++ t, y, ?_, by rw [ByteArray.size_append]; omega, by omega⟩⟩
    · rw [e1, opn_at (k := 0) (by simp) (by simp [nmI, h2, fa]) (fun j _ hj => by omega)]; rfl
    · rw [e1, e2]; rfl
  · refine ⟨fb y, 1, ?_, rfl, .inr (Nat.le_refl _), by omega, fun t => ⟨x, y ++ t, ?_, by omega, by rw [ByteArray.size_append]; omega⟩⟩
    · rw [e1, opn_at (k := 1) (by simp) (by simp [nmI, h2, fb]) (fun j hj hj1 => by
        have : j = 0 := by omega
        subst this; simp [nmI, h2, fa]; exact na_nb)]; rfl
    · rw [e1, e2]; rfl
theorem nmI_ok (k : Nat) : nmOk (nmI k) = true := by unfold nmI; split <;> decide
theorem shp_len (k : Nat) (x y : ByteArray) : (shp k x y).length ≤ 2 := by unfold shp; split; simp; split <;> simp
theorem arms_step {f0 lf : Int} {d : Dk} {k : Nat} (hf : f0 ≤ 10000) (h : Alive f0 d lf k) (s : ByteArray) (hs : s.size ≤ 1000) :
    ((s.size : Int) ≤ lf → (appd d (nmI k) s).2 = 0 ∧ Alive f0 (appd d (nmI k) s).1 (lf - s.size) (k + 1)) ∧ (lf < s.size → (appd d (nmI k) s).2 = 6 ∧ (appd d (nmI k) s).1.off = true) := by
  obtain ⟨h1, h2, h3, h4, h5, x, y, h6, h7, h8⟩ := h
  obtain ⟨f, q, ho, hsf, hwt, hq, hput⟩ := opn_shp k x y
  rw [← h6] at ho hput
  have hlen : d.fs.length ≤ 2 := by rw [h6]; exact shp_len k x y
  have e : appd d (nmI k) s = (⟨put d.fs q ⟨f.nm, f.sf, f.wt ++ cut d.fuse s⟩, d.room - (cut d.fuse s).size, d.fuse - (cut d.fuse s).size, short d.fuse s⟩, if short d.fuse s then 6 else 0) := by
    unfold appd
    rw [if_neg (by simp [h1]), if_neg (by rw [nmI_ok]; simp), if_neg (by omega), ho]
    simp only
    rw [if_neg (by omega), if_pos (by omega)]
  rw [e]
  constructor
  · intro hle
    have hsh : short d.fuse s = false := by unfold short; simp; omega
    have hc : cut d.fuse s = s := by unfold cut; rw [hsh]; rfl
    rw [hsh, hc]
    obtain ⟨x', y', hp, hx, hy⟩ := hput s
    exact ⟨rfl, ⟨rfl, by simp only; omega, by omega, by omega, by simp only; omega, x', y', hp, by omega, by omega⟩⟩
  · intro hlt
    have hsh : short d.fuse s = true := by unfold short; simp; omega
    rw [hsh]
    exact ⟨rfl, rfl⟩
theorem arms_new {f0 : Int} (h0 : 0 ≤ f0) : Alive f0 ⟨[], 1048576, max f0 (-1), false⟩ f0 0 :=
  ⟨rfl, by simp only; omega, h0, Int.le_refl _, by simp only; omega, ⟨#[]⟩, ⟨#[]⟩, rfl, by rw [empty_size]; omega, by rw [empty_size]; omega⟩
theorem appd_off (d : Dk) (nm s : ByteArray) (h : d.off = true) : appd d nm s = (d, 6) := by simp [appd, h]
theorem Inv.appd {d : Dk} (h : Inv d) (nm s : ByteArray) : Inv (appd d nm s).1 :=
  ⟨appd_sum d nm s (Nat.le_refl _) h.sum, by have := appd_few d nm s; have := h.few; omega, (appd_rng d nm s h.room h.fuse).1, (appd_rng d nm s h.room h.fuse).2⟩
end Dkm
end Go.Proofs.Ytpjadjbniddmgaa
