/- The disk in plain mathematics: lengths and sizes of what each call makes of a disk; renames and deletions. -/
import Derived.Test.YtpjadjbniddmgaaDiskMath2
namespace Go.Proofs.Ytpjadjbniddmgaa
open Go.RowKit Dkm
namespace Dkm
theorem crs_len (d : Dk) (ks : List Int) : (crs d ks).fs.length = d.fs.length := crl_len ks d.fs _
theorem crf_sum (ks : List Int) (i : Nat) (f : Fil) : (crf ks i f).sf.size + (crf ks i f).wt.size ≤ f.sf.size + f.wt.size := by
  have e : (⟨#[]⟩ : ByteArray).size = 0 := rfl
  have h2 := kp_le ks i f
  unfold crf
  simp only [ByteArray.size_append, ByteArray.size_extract, e]
  omega
theorem crl_sum {B : Nat} (ks : List Int) (l : List Fil) (h : ∀ f ∈ l, f.sf.size + f.wt.size ≤ B) (k : Nat) : ∀ f ∈ crl ks l k, f.sf.size + f.wt.size ≤ B := by
  intro f hf
  unfold crl at hf
  rcases List.mem_append.1 hf with hf | hf
  · obtain ⟨i, hi, rfl⟩ := List.mem_mapIdx.1 hf
    exact Nat.le_trans (crf_sum ks i _) (h _ (List.mem_of_mem_take (List.getElem_mem _)))
  · exact h f (List.mem_of_mem_drop hf)
theorem crs_sum {B : Nat} (d : Dk) (ks : List Int) (h : ∀ f ∈ d.fs, f.sf.size + f.wt.size ≤ B) : ∀ f ∈ (crs d ks).fs, f.sf.size + f.wt.size ≤ B := crl_sum ks d.fs h _
theorem set_sum {B : Nat} {l : List Fil} (h : ∀ f ∈ l, f.sf.size + f.wt.size ≤ B) {k : Nat} {g : Fil} (hg : g.sf.size + g.wt.size ≤ B) : ∀ f ∈ l.set k g, f.sf.size + f.wt.size ≤ B := by
  intro f hf
  rcases List.mem_or_eq_of_mem_set hf with hf | rfl
  · exact h f hf
  · exact hg
theorem syn_len (d : Dk) (nm : ByteArray) : (syn d nm).1.fs.length = d.fs.length := by
  unfold syn; split
  · rfl
  · split <;> simp
theorem syn_sum {B : Nat} (d : Dk) (nm : ByteArray) (h : ∀ f ∈ d.fs, f.sf.size + f.wt.size ≤ B) : ∀ f ∈ (syn d nm).1.fs, f.sf.size + f.wt.size ≤ B := by
  obtain ⟨l, room, fuse, off⟩ := d
  cases off
  · rcases plc_cases nm l with ⟨hp, hall⟩ | ⟨k, hk, hp, hkn, hfirst⟩
    · rw [syn_none hall]; exact h
    · rw [syn_at hk hkn hfirst]
      refine set_sum h ?_
      have e : (⟨#[]⟩ : ByteArray).size = 0 := rfl
      have := h _ (List.getElem_mem hk)
      simp only [ByteArray.size_append, e]; omega
  · exact h
theorem opn_sum {B : Nat} (nm : ByteArray) (l : List Fil) (h : ∀ f ∈ l, f.sf.size + f.wt.size ≤ B) : (opn nm l).1.sf.size + (opn nm l).1.wt.size ≤ B := by
  rcases plc_cases nm l with ⟨hp, hall⟩ | ⟨k, hk, hp, hkn, hfirst⟩
  · rw [opn_none hall]; exact Nat.zero_le _
  · rw [opn_at hk hkn hfirst]; exact h _ (List.getElem_mem hk)
theorem put_sum {B : Nat} {l : List Fil} (h : ∀ f ∈ l, f.sf.size + f.wt.size ≤ B) {k : Nat} {g : Fil} (hg : g.sf.size + g.wt.size ≤ B) : ∀ f ∈ put l k g, f.sf.size + f.wt.size ≤ B := by
  unfold put; split
  · intro f hf
    rcases List.mem_append.1 hf with hf | hf
    · exact h f hf
    · simp at hf; subst hf; exact hg
  · exact set_sum h hg
theorem cut_size (fuse : Int) (s : ByteArray) : (cut fuse s).size ≤ s.size := by
  unfold cut; split
  · rw [ByteArray.size_extract]; omega
  · exact Nat.le_refl _
theorem appd_sum {B : Nat} (d : Dk) (nm s : ByteArray) (hB : 65536 ≤ B) (h : ∀ f ∈ d.fs, f.sf.size + f.wt.size ≤ B) : ∀ f ∈ (appd d nm s).1.fs, f.sf.size + f.wt.size ≤ B := by
  unfold appd
  split
  · exact h
  split
  · exact h
  split
  · exact h
  split
  · exact h
  rename_i _ _ _ h4
  refine put_sum h ?_
  have := cut_size d.fuse s
  simp only [ByteArray.size_append]
  omega
theorem appd_len (d : Dk) (nm s : ByteArray) : (appd d nm s).1.fs.length ≤ d.fs.length + 1 := by
  unfold appd
  split
  · exact Nat.le_succ _
  split
  · exact Nat.le_succ _
  split
  · exact Nat.le_succ _
  split
  · exact Nat.le_succ _
  show (put _ _ _).length ≤ _
  unfold put; split <;> simp
/-- a file goes: Room is more by its bytes. -/
def lss (d : Dk) (k : Nat) : Dk :=
  { d with fs := d.fs.eraseIdx k, room := wrap64 (d.room + (((d.fs.getD k ⟨⟨#[]⟩, ⟨#[]⟩, ⟨#[]⟩⟩).sf.size + (d.fs.getD k ⟨⟨#[]⟩, ⟨#[]⟩, ⟨#[]⟩⟩).wt.size : Nat) : Int)) }
/-- power for a change. -/
def pow (d : Dk) : Dk × Bool := if d.fuse = 0 then ({ d with off := true }, false) else if 0 < d.fuse then ({ d with fuse := d.fuse - 1 }, true) else (d, true)
/-- what Delete makes of a disk. -/
def del (d : Dk) (nm : ByteArray) : Dk × Int :=
  if d.off then (d, 6) else if (hit nm d.fs).2 = false then (d, 7) else if (pow d).2 = false then ((pow d).1, 6) else (lss (pow d).1 (opn nm d.fs).2, 0)
/-- a file gets another name. -/
def nmd (d : Dk) (k : Nat) (to : ByteArray) : Dk :=
  { d with fs := d.fs.set k ⟨to, (d.fs.getD k ⟨⟨#[]⟩, ⟨#[]⟩, ⟨#[]⟩⟩).sf, (d.fs.getD k ⟨⟨#[]⟩, ⟨#[]⟩, ⟨#[]⟩⟩).wt⟩ }
/-- what Rename makes of a disk. -/
def ren (d : Dk) (fr to : ByteArray) : Dk × Int :=
  if d.off then (d, 6) else if nmOk to = false then (d, 1) else if (hit fr d.fs).2 = false then (d, 7) else if fr = to then (d, 0) else if (pow d).2 = false then ((pow d).1, 6)
  else if (hit to d.fs).2 then (lss (nmd (pow d).1 (opn fr d.fs).2 to) (opn to d.fs).2, 0) else (nmd (pow d).1 (opn fr d.fs).2 to, 0)
theorem wrap_in {x : Int} (h : -9223372036854775808 ≤ x ∧ x ≤ 9223372036854775807) : wrap64 x = x := by unfold wrap64; omega
theorem wrap_rng (x : Int) : -9223372036854775808 ≤ wrap64 x ∧ wrap64 x ≤ 9223372036854775807 := by unfold wrap64; omega
end Dkm
end Go.Proofs.Ytpjadjbniddmgaa
