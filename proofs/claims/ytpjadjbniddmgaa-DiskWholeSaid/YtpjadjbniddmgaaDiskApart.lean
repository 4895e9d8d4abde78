/- What is done with one file changes no other one: the mathematics. -/
import Derived.Test.YtpjadjbniddmgaaDiskInv
namespace Go.Proofs.Ytpjadjbniddmgaa
open Go.RowKit Dkm
set_option linter.unusedVariables false
namespace Dkm
theorem find_mid (o : ByteArray) (a b : List Fil) (f g : Fil) (hf : f.nm ≠ o) (hg : g.nm ≠ o) : (a ++ f :: b).find? (fun x => decide (x.nm = o)) = (a ++ g :: b).find? (fun x => decide (x.nm = o)) := by
  simp [List.find?_append, hf, hg]
theorem find_del (o : ByteArray) (a b : List Fil) (f : Fil) (hf : f.nm ≠ o) : (a ++ f :: b).find? (fun x => decide (x.nm = o)) = (a ++ b).find? (fun x => decide (x.nm = o)) := by
  simp [List.find?_append, hf]
theorem hit_set {o : ByteArray} {l : List Fil} {k : Nat} {g : Fil} (hk : k < l.length) (h1 : l[k].nm ≠ o) (h2 : g.nm ≠ o) : hit o (l.set k g) = hit o l := by
  have e1 : l.set k g = l.take k ++ g :: l.drop (k + 1) := List.set_eq_take_append_cons_drop.trans (by rw [if_pos hk])
  have e2 : l = l.take k ++ l[k] :: l.drop (k + 1) := by rw [← List.drop_eq_getElem_cons hk, List.take_append_drop]
  have : (l.set k g).find? (fun x => decide (x.nm = o)) = l.find? (fun x => decide (x.nm = o)) := by
    rw [e1]; conv => rhs; rw [e2]
    exact find_mid o _ _ _ _ h2 h1
  unfold hit; rw [this]
theorem hit_erase {o : ByteArray} {l : List Fil} {k : Nat} (hk : k < l.length) (h1 : l[k].nm ≠ o) : hit o (l.eraseIdx k) = hit o l := by
  have e2 : l = l.take k ++ l[k] :: l.drop (k + 1) := by rw [← List.drop_eq_getElem_cons hk, List.take_append_drop]
  have : (l.eraseIdx k).find? (fun x => decide (x.nm = o)) = l.find? (fun x => decide (x.nm = o)) := by
    rw [List.eraseIdx_eq_take_drop_succ]; conv => rhs; rw [e2]
    exact (find_del o _ _ _ h1).symm
  unfold hit; rw [this]
theorem hit_snoc {o : ByteArray} {l : List Fil} {g : Fil} (h : g.nm ≠ o) : hit o (l ++ [g]) = hit o l := by
  have : (l ++ [g]).find? (fun x => decide (x.nm = o)) = l.find? (fun x => decide (x.nm = o)) := by simp [List.find?_append, h]
  unfold hit; rw [this]
theorem appd_apart {o nm s : ByteArray} (d : Dk) (h : o ≠ nm) : hit o (appd d nm s).1.fs = hit o d.fs := by
  unfold appd
  split; rfl
  split; rfl
  split; rfl
  split; rfl
  show hit o (put _ _ _) = _
  rcases plc_cases nm d.fs with ⟨_, hall⟩ | ⟨k, hk, _, hkn, hfirst⟩
  · rw [opn_none hall]; unfold put; rw [if_pos rfl]; exact hit_snoc (fun e => h e.symm)
  · rw [opn_at hk hkn hfirst]; unfold put; simp only
    rw [if_neg (by omega)]
    exact hit_set hk (fun e => h (e.symm.trans hkn)) (fun e => h (e.symm.trans hkn))
theorem syn_apart {o nm : ByteArray} (d : Dk) (h : o ≠ nm) : hit o (syn d nm).1.fs = hit o d.fs := by
  obtain ⟨l, room, fuse, off⟩ := d
  cases off
  · rcases plc_cases nm l with ⟨hp, hall⟩ | ⟨k, hk, hp, hkn, hfirst⟩
    · rw [syn_none hall]
    · rw [syn_at hk hkn hfirst]
      exact hit_set hk (fun e => h (e.symm.trans hkn)) (fun e => h (e.symm.trans hkn))
  · rfl
theorem lss_apart {o : ByteArray} (d : Dk) {k : Nat} (hk : k < d.fs.length) (h : d.fs[k].nm ≠ o) : hit o (lss d k).fs = hit o d.fs := hit_erase hk h
theorem del_apart {o nm : ByteArray} (d : Dk) (h : o ≠ nm) : hit o (del d nm).1.fs = hit o d.fs := by
  unfold del
  split; rfl
  split; rfl
  split; rw [pow_fs]
  rename_i _ h2 _
  rcases plc_cases nm d.fs with ⟨_, hall⟩ | ⟨k, hk, _, hkn, hfirst⟩
  · rw [hit_none hall] at h2; exact absurd rfl h2
  · rw [opn_at hk hkn hfirst]
    have e := pow_fs d
    exact (lss_apart (pow d).1 (k := k) (by rw [e]; exact hk) (by simp only [e]; exact fun e => h (e.symm.trans hkn))).trans (by rw [e])
theorem nmd_apart {o to : ByteArray} (d : Dk) {k : Nat} (hk : k < d.fs.length) (h : d.fs[k].nm ≠ o) (h2 : to ≠ o) : hit o (nmd d k to).fs = hit o d.fs := hit_set hk h h2
theorem nmd_name (d : Dk) (k q : Nat) (to : ByteArray) (hq : q < (nmd d k to).fs.length) (hq2 : q < d.fs.length) (h : d.fs[q].nm = to) : (nmd d k to).fs[q].nm = to := by
  unfold nmd at hq ⊢
  simp only [List.getElem_set]
  split
  · rfl
  · exact h
theorem ren_apart {o fr to : ByteArray} (d : Dk) (h1 : o ≠ fr) (h2 : o ≠ to) : hit o (ren d fr to).1.fs = hit o d.fs := by
  unfold ren
  split; rfl
  split; rfl
  split; rfl
  split; rfl
  split; rw [pow_fs]
  rename_i _ _ h3 _ _
  have e := pow_fs d
  rcases plc_cases fr d.fs with ⟨_, hall⟩ | ⟨k, hk, _, hkn, hfirst⟩
  · rw [hit_none hall] at h3; exact absurd rfl h3
  have hk' : k < (pow d).1.fs.length := by rw [e]; exact hk
  have hn : hit o (nmd (pow d).1 k to).fs = hit o d.fs := by
    rw [nmd_apart (pow d).1 hk' (by simp only [e]; exact fun x => h1 (x.symm.trans hkn)) (fun x => h2 x.symm), e]
  rw [opn_at hk hkn hfirst]
  split
  · rename_i h5
    rcases plc_cases to d.fs with ⟨_, hall⟩ | ⟨q, hq, _, hqn, hqf⟩
    · rw [hit_none hall] at h5; cases h5
    rw [opn_at hq hqn hqf]
    have hq' : q < (nmd (pow d).1 k to).fs.length := by rw [nmd_len, e]; exact hq
    rw [lss_apart _ hq' ?_, hn]
    have : (nmd (pow d).1 k to).fs[q].nm = to := nmd_name (pow d).1 k q to hq' (by rw [e]; exact hq) (by simp only [e]; exact hqn)
    rw [this]; exact fun x => h2 x.symm
  · exact hn
theorem does_apart {o : ByteArray} (d : Dk) (kind num : Int) (nm s : ByteArray) (h5 : kind ≠ 5) (h1 : o ≠ nm) (h3 : kind = 3 → o ≠ s) : hit o (doesM d kind num nm s).1.fs = hit o d.fs := by
  unfold doesM
  split; exact appd_apart d h1
  split; exact syn_apart d h1
  split; rename_i h; exact ren_apart d h1 (h3 h)
  split; exact del_apart d h1
  split <;> rfl
end Dkm
end Go.Proofs.Ytpjadjbniddmgaa
