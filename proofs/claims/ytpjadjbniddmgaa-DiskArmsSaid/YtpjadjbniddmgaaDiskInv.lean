/- What stays, whatever acts come: sizes, numbers, room; and 'does' whole. -/
import Derived.Test.YtpjadjbniddmgaaDiskDoes2
namespace Go.Proofs.Ytpjadjbniddmgaa
open Go.RowKit Dkm
set_option linter.unusedVariables false

theorem does_any (kind num : Int) (nm s : ByteArray) (A : Option Addr) (n c : Nat) (d : Dk) (w : World) (hd : Dsk w A n c d.fs) (hf : ∀ f ∈ d.fs, f.sf.size + f.wt.size ≤ 2305843009213693952) (hs : s.size ≤ 2305843009213693952) (hr : d.room ≤ 9223372036854775807) (hfu : d.fuse ≤ 9223372036854775807) :
    Calls Try.prog 32 #[dkv A n c d.room d.fuse d.off, actv kind num nm s] w fun e w' => RetDV w A (doesM d kind num nm s).1 (doesM d kind num nm s).2 e w' := by
  by_cases t1 : kind = 1
  · subst t1; exact does_1 num nm s A n c d w hd hf hs hr hfu
  by_cases t2 : kind = 2
  · subst t2; exact does_2 num nm s A n c d w hd hf hs hr hfu
  by_cases t3 : kind = 3
  · subst t3; exact does_3 num nm s A n c d w hd hf hs hr hfu
  by_cases t4 : kind = 4
  · subst t4; exact does_4 num nm s A n c d w hd hf hs hr hfu
  by_cases t5 : kind = 5
  · subst t5; exact does_5 num nm s A n c d w hd hf hs hr hfu
  by_cases t6 : kind = 6
  · subst t6; exact does_6 num nm s A n c d w hd hf hs hr hfu
  rw [show doesM d kind num nm s = (d, 0) by simp [doesM, t1, t2, t3, t4, t5, t6]]
  exact does_7 num kind t1 t2 t3 t4 t5 t6 nm s A n c d w hd hf hs hr hfu

namespace Dkm
theorem erase_sum {B : Nat} {l : List Fil} (h : ∀ f ∈ l, f.sf.size + f.wt.size ≤ B) (k : Nat) : ∀ f ∈ l.eraseIdx k, f.sf.size + f.wt.size ≤ B := fun f hf => h f (List.mem_of_mem_eraseIdx hf)
theorem lss_sum {B : Nat} (d : Dk) (k : Nat) (h : ∀ f ∈ d.fs, f.sf.size + f.wt.size ≤ B) : ∀ f ∈ (lss d k).fs, f.sf.size + f.wt.size ≤ B := erase_sum h k
theorem nmd_sum {B : Nat} (d : Dk) (k : Nat) (to : ByteArray) (h : ∀ f ∈ d.fs, f.sf.size + f.wt.size ≤ B) : ∀ f ∈ (nmd d k to).fs, f.sf.size + f.wt.size ≤ B := by
  unfold nmd
  by_cases hk : k < d.fs.length
  · refine set_sum h ?_
    simp only [List.getD_eq_getElem?_getD, List.getElem?_eq_getElem hk, Option.getD_some]
    exact h _ (List.getElem_mem hk)
  · show ∀ f ∈ d.fs.set k _, _
    rw [List.set_eq_of_length_le (by omega)]; exact h
theorem pow_sum {B : Nat} (d : Dk) (h : ∀ f ∈ d.fs, f.sf.size + f.wt.size ≤ B) : ∀ f ∈ (pow d).1.fs, f.sf.size + f.wt.size ≤ B := by rw [pow_fs]; exact h
theorem del_sum {B : Nat} (d : Dk) (nm : ByteArray) (h : ∀ f ∈ d.fs, f.sf.size + f.wt.size ≤ B) : ∀ f ∈ (del d nm).1.fs, f.sf.size + f.wt.size ≤ B := by
  unfold del
  split; exact h
  split; exact h
  split; exact pow_sum d h
  exact lss_sum _ _ (pow_sum d h)
theorem ren_sum {B : Nat} (d : Dk) (fr to : ByteArray) (h : ∀ f ∈ d.fs, f.sf.size + f.wt.size ≤ B) : ∀ f ∈ (ren d fr to).1.fs, f.sf.size + f.wt.size ≤ B := by
  unfold ren
  split; exact h
  split; exact h
  split; exact h
  split; exact h
  split; exact pow_sum d h
  split
  · exact lss_sum _ _ (nmd_sum _ _ _ (pow_sum d h))
  · exact nmd_sum _ _ _ (pow_sum d h)
theorem does_sum {B : Nat} (hB : 65536 ≤ B) (d : Dk) (kind num : Int) (nm s : ByteArray) (h : ∀ f ∈ d.fs, f.sf.size + f.wt.size ≤ B) : ∀ f ∈ (doesM d kind num nm s).1.fs, f.sf.size + f.wt.size ≤ B := by
  unfold doesM
  split; exact appd_sum d nm s hB h
  split; exact syn_sum d nm h
  split; exact ren_sum d nm s h
  split; exact del_sum d nm h
  split; exact crs_sum d _ h
  split <;> exact h

/-- an int. -/
def In64 (x : Int) : Prop := -9223372036854775808 ≤ x ∧ x ≤ 9223372036854775807
theorem appd_rng (d : Dk) (nm s : ByteArray) (h1 : In64 d.room) (h2 : In64 d.fuse) : In64 (appd d nm s).1.room ∧ In64 (appd d nm s).1.fuse := by
  unfold appd
  split; exact ⟨h1, h2⟩
  split; exact ⟨h1, h2⟩
  split; exact ⟨h1, h2⟩
  split; exact ⟨h1, h2⟩
  rename_i _ _ h3 _
  have hc := cut_size d.fuse s
  unfold In64 at *
  have h4 : ¬ d.room < s.size := fun h => h3 (.inr h)
  have h5 : 0 ≤ d.fuse → (cut d.fuse s).size ≤ d.fuse.toNat ∨ ¬ short d.fuse s := by
    intro h0
    by_cases hsh : short d.fuse s
    · left; unfold cut; rw [if_pos hsh, ByteArray.size_extract]; omega
    · exact .inr hsh
  have h6 : 0 ≤ d.fuse → ((cut d.fuse s).size : Int) ≤ d.fuse := by
    intro h0
    rcases h5 h0 with h | h
    · omega
    · unfold cut; rw [if_neg h]
      unfold short at h
      simp only [decide_eq_true_eq] at h
      omega
  simp only
  refine ⟨by omega, ?_⟩
  split
  · have := h6 (by assumption); omega
  · exact h2
theorem pow_rng (d : Dk) (h1 : In64 d.room) (h2 : In64 d.fuse) : In64 (pow d).1.room ∧ In64 (pow d).1.fuse := by
  unfold pow
  split; exact ⟨h1, h2⟩
  split
  · exact ⟨h1, by unfold In64 at *; simp only; omega⟩
  · exact ⟨h1, h2⟩
theorem lss_rng (d : Dk) (k : Nat) (h2 : In64 d.fuse) : In64 (lss d k).room ∧ In64 (lss d k).fuse := ⟨wrap_rng _, h2⟩
theorem del_rng (d : Dk) (nm : ByteArray) (h1 : In64 d.room) (h2 : In64 d.fuse) : In64 (del d nm).1.room ∧ In64 (del d nm).1.fuse := by
  have hp := pow_rng d h1 h2
  unfold del
  split; exact ⟨h1, h2⟩
  split; exact ⟨h1, h2⟩
  split; exact hp
  exact lss_rng _ _ hp.2
theorem ren_rng (d : Dk) (fr to : ByteArray) (h1 : In64 d.room) (h2 : In64 d.fuse) : In64 (ren d fr to).1.room ∧ In64 (ren d fr to).1.fuse := by
  have hp := pow_rng d h1 h2
  unfold ren
  split; exact ⟨h1, h2⟩
  split; exact ⟨h1, h2⟩
  split; exact ⟨h1, h2⟩
  split; exact ⟨h1, h2⟩
  split; exact hp
  split
  · exact lss_rng _ _ hp.2
  · exact hp
theorem syn_rng (d : Dk) (nm : ByteArray) (h1 : In64 d.room) (h2 : In64 d.fuse) : In64 (syn d nm).1.room ∧ In64 (syn d nm).1.fuse := by
  unfold syn
  split; exact ⟨h1, h2⟩
  split <;> exact ⟨h1, h2⟩
theorem croom_in (ks : List Int) (l : List Fil) (room : Int) (h : In64 room) : ∀ k, In64 (croom ks l room k)
  | 0 => h
  | k + 1 => wrap_rng _
theorem does_rng (d : Dk) (kind num : Int) (nm s : ByteArray) (h1 : In64 d.room) (h2 : In64 d.fuse) (h3 : In64 num) : In64 (doesM d kind num nm s).1.room ∧ In64 (doesM d kind num nm s).1.fuse := by
  unfold doesM
  split; exact appd_rng d nm s h1 h2
  split; exact syn_rng d nm h1 h2
  split; exact ren_rng d nm s h1 h2
  split; exact del_rng d nm h1 h2
  split; exact ⟨croom_in _ _ _ h1 _, by unfold In64; simp [crs]⟩
  split
  · exact ⟨h1, by unfold In64 at *; simp only; omega⟩
  · exact ⟨h1, h2⟩

/-- what stays of a disk that began empty. -/
structure Inv (d : Dk) : Prop where
  sum : ∀ f ∈ d.fs, f.sf.size + f.wt.size ≤ 65536
  few : d.fs.length ≤ 64
  room : In64 d.room
  fuse : In64 d.fuse
theorem Inv.does {d : Dk} (h : Inv d) (kind num : Int) (nm s : ByteArray) (h3 : In64 num) : Inv (doesM d kind num nm s).1 :=
  ⟨does_sum (Nat.le_refl _) d kind num nm s h.sum, by have := does_few d kind num nm s; have := h.few; omega, (does_rng d kind num nm s h.room h.fuse h3).1, (does_rng d kind num nm s h.room h.fuse h3).2⟩
theorem Inv.syn {d : Dk} (h : Inv d) (nm : ByteArray) : Inv (syn d nm).1 := ⟨syn_sum d nm h.sum, by rw [syn_len]; exact h.few, (syn_rng d nm h.room h.fuse).1, (syn_rng d nm h.room h.fuse).2⟩
theorem Inv.new {room : Int} (h : In64 room) : Inv ⟨[], room, -1, false⟩ := ⟨by simp, by simp, h, by unfold In64; simp⟩
end Dkm
end Go.Proofs.Ytpjadjbniddmgaa
