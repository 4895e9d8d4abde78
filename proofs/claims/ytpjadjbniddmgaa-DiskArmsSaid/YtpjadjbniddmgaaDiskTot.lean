/- Room, and the bytes of all files: together always the same. -/
import Derived.Test.YtpjadjbniddmgaaDiskInv
namespace Go.Proofs.Ytpjadjbniddmgaa
open Go.RowKit Dkm
set_option linter.unusedVariables false
namespace Dkm
def siz (f : Fil) : Nat := f.sf.size + f.wt.size
def sumF : List Fil → Nat
  | [] => 0
  | f :: l => siz f + sumF l
theorem sum_app (a b : List Fil) : sumF (a ++ b) = sumF a + sumF b := by
  induction a with
  | nil => simp [sumF]
  | cons f a ih => simp only [List.cons_append, sumF, ih]; omega
theorem sum_set {l : List Fil} {k : Nat} (g : Fil) (hk : k < l.length) : sumF (l.set k g) + siz l[k] = sumF l + siz g := by
  have e1 : l.set k g = l.take k ++ g :: l.drop (k + 1) := List.set_eq_take_append_cons_drop.trans (by rw [if_pos hk])
  have e2 : l = l.take k ++ l[k] :: l.drop (k + 1) := by rw [← List.drop_eq_getElem_cons hk, List.take_append_drop]
  have h2 : sumF l = sumF (l.take k) + (siz l[k] + sumF (l.drop (k + 1))) := by conv => lhs; rw [e2, sum_app, sumF]
  rw [e1, sum_app, sumF]; omega
theorem sum_erase {l : List Fil} {k : Nat} (hk : k < l.length) : sumF (l.eraseIdx k) + siz l[k] = sumF l := by
  have e2 : l = l.take k ++ l[k] :: l.drop (k + 1) := by rw [← List.drop_eq_getElem_cons hk, List.take_append_drop]
  have h2 : sumF l = sumF (l.take k) + (siz l[k] + sumF (l.drop (k + 1))) := by conv => lhs; rw [e2, sum_app, sumF]
  rw [List.eraseIdx_eq_take_drop_succ, sum_app]; omega
theorem sum_take {l : List Fil} {k : Nat} (hk : k < l.length) : sumF (l.take (k + 1)) = sumF (l.take k) + siz l[k] := by
  rw [List.take_succ_eq_append_getElem hk, sum_app]; simp [sumF]
theorem sum_take_le (l : List Fil) (k : Nat) : sumF (l.take k) ≤ sumF l := by
  have : sumF l = sumF (l.take k) + sumF (l.drop k) := by rw [← sum_app, List.take_append_drop]
  omega
theorem sum_mem {l : List Fil} {k : Nat} (hk : k < l.length) : siz l[k] ≤ sumF l := by
  have := sum_take hk; have := sum_take_le l (k + 1); omega
/-- together. -/
def tot (d : Dk) : Int := d.room + sumF d.fs
theorem appd_tot (d : Dk) (nm s : ByteArray) (h0 : 0 ≤ d.room) : tot (appd d nm s).1 = tot d ∧ 0 ≤ (appd d nm s).1.room := by
  unfold appd
  split; exact ⟨rfl, h0⟩
  split; exact ⟨rfl, h0⟩
  split; exact ⟨rfl, h0⟩
  split; exact ⟨rfl, h0⟩
  rename_i _ _ h3 _
  have h4 : ¬ d.room < s.size := fun h => h3 (.inr h)
  have hc := cut_size d.fuse s
  unfold tot
  simp only
  refine ⟨?_, by omega⟩
  rcases plc_cases nm d.fs with ⟨_, hall⟩ | ⟨k, hk, _, hkn, hfirst⟩
  · rw [opn_none hall]; unfold put; rw [if_pos rfl, sum_app]
    simp only [sumF, siz, ByteArray.size_append]
    have e : (⟨#[]⟩ : ByteArray).size = 0 := rfl
    simp only [e]; omega
  · rw [opn_at hk hkn hfirst]; unfold put; simp only
    rw [if_neg (by omega)]
    have := sum_set ⟨d.fs[k].nm, d.fs[k].sf, d.fs[k].wt ++ cut d.fuse s⟩ hk
    simp only [siz, ByteArray.size_append] at this
    omega
theorem syn_tot (d : Dk) (nm : ByteArray) : tot (syn d nm).1 = tot d ∧ (syn d nm).1.room = d.room := by
  obtain ⟨l, room, fuse, off⟩ := d
  cases off
  · rcases plc_cases nm l with ⟨hp, hall⟩ | ⟨k, hk, hp, hkn, hfirst⟩
    · rw [syn_none hall]; exact ⟨rfl, rfl⟩
    · rw [syn_at hk hkn hfirst]
      refine ⟨?_, rfl⟩
      have := sum_set ⟨l[k].nm, l[k].sf ++ l[k].wt, ⟨#[]⟩⟩ hk
      have e : (⟨#[]⟩ : ByteArray).size = 0 := rfl
      simp only [siz, ByteArray.size_append, e] at this
      unfold tot; simp only; omega
  · exact ⟨rfl, rfl⟩
theorem pow_tot (d : Dk) : tot (pow d).1 = tot d ∧ (pow d).1.room = d.room := by
  unfold pow; split; exact ⟨rfl, rfl⟩
  split <;> exact ⟨rfl, rfl⟩
theorem lss_tot (d : Dk) {k : Nat} (hk : k < d.fs.length) (h0 : 0 ≤ d.room) (hb : tot d ≤ 1048576) : tot (lss d k) = tot d ∧ 0 ≤ (lss d k).room := by
  have h1 := sum_erase hk
  unfold tot at *
  unfold lss
  simp only [List.getD_eq_getElem?_getD, List.getElem?_eq_getElem hk, Option.getD_some]
  have h2 : siz d.fs[k] = d.fs[k].sf.size + d.fs[k].wt.size := rfl
  rw [wrap_in (by omega)]
  omega
theorem nmd_tot (d : Dk) {k : Nat} (hk : k < d.fs.length) (to : ByteArray) : tot (nmd d k to) = tot d ∧ (nmd d k to).room = d.room := by
  refine ⟨?_, rfl⟩
  have := sum_set ⟨to, d.fs[k].sf, d.fs[k].wt⟩ hk
  unfold tot nmd
  simp only [List.getD_eq_getElem?_getD, List.getElem?_eq_getElem hk, Option.getD_some]
  simp only [siz] at this
  omega
theorem opn_lt {nm : ByteArray} {l : List Fil} (h : (hit nm l).2 = true) : (opn nm l).2 < l.length := by
  rcases plc_cases nm l with ⟨_, hall⟩ | ⟨k, hk, _, hkn, hfirst⟩
  · rw [hit_none hall] at h; cases h
  · rw [opn_at hk hkn hfirst]; exact hk
theorem del_tot (d : Dk) (nm : ByteArray) (h0 : 0 ≤ d.room) (hb : tot d ≤ 1048576) : tot (del d nm).1 = tot d ∧ 0 ≤ (del d nm).1.room := by
  have hp := pow_tot d
  unfold del
  split; exact ⟨rfl, h0⟩
  split; exact ⟨rfl, h0⟩
  split; exact ⟨hp.1, by rw [hp.2]; exact h0⟩
  rename_i _ h2 _
  have hl := opn_lt (nm := nm) (l := d.fs) (by simpa using h2)
  have := lss_tot (pow d).1 (k := (opn nm d.fs).2) (by rw [pow_fs]; exact hl) (by rw [hp.2]; exact h0) (by rw [hp.1]; exact hb)
  exact ⟨this.1.trans hp.1, this.2⟩
theorem ren_tot (d : Dk) (fr to : ByteArray) (h0 : 0 ≤ d.room) (hb : tot d ≤ 1048576) : tot (ren d fr to).1 = tot d ∧ 0 ≤ (ren d fr to).1.room := by
  have hp := pow_tot d
  unfold ren
  split; exact ⟨rfl, h0⟩
  split; exact ⟨rfl, h0⟩
  split; exact ⟨rfl, h0⟩
  split; exact ⟨rfl, h0⟩
  split; exact ⟨hp.1, by rw [hp.2]; exact h0⟩
  rename_i _ _ h3 _ _
  have hl := opn_lt (nm := fr) (l := d.fs) (by simpa using h3)
  have hn := nmd_tot (pow d).1 (k := (opn fr d.fs).2) (by rw [pow_fs]; exact hl) to
  split
  · rename_i h5
    have hl2 := opn_lt (nm := to) (l := d.fs) h5
    have := lss_tot (nmd (pow d).1 (opn fr d.fs).2 to) (k := (opn to d.fs).2) (by rw [nmd_len, pow_fs]; exact hl2) (by rw [hn.2, hp.2]; exact h0) (by rw [hn.1, hp.1]; exact hb)
    exact ⟨this.1.trans (hn.1.trans hp.1), this.2⟩
  · exact ⟨hn.1.trans hp.1, by rw [hn.2, hp.2]; exact h0⟩
theorem crl_tot (ks : List Int) (l : List Fil) (room : Int) (h0 : 0 ≤ room) (hb : room + sumF l ≤ 1048576) : ∀ k, k ≤ l.length → croom ks l room k + sumF (crl ks l k) = room + sumF l ∧ 0 ≤ croom ks l room k
  | 0, _ => by rw [crl_zero]; exact ⟨rfl, h0⟩
  | k + 1, hk => by
    have hkl : k < l.length := by omega
    obtain ⟨h1, h2⟩ := crl_tot ks l room h0 hb k (by omega)
    have hlt : k < (crl ks l k).length := by rw [crl_len]; exact hkl
    have hs := sum_set (crf ks k l[k]) hlt
    have hm := sum_mem hlt
    have hkp := kp_le ks k l[k]
    rw [crl_get ks l k hkl] at hs hm
    have e : (⟨#[]⟩ : ByteArray).size = 0 := rfl
    have e1 : siz (crf ks k l[k]) = l[k].sf.size + kp ks k l[k] := by
      unfold siz crf; simp only [ByteArray.size_append, ByteArray.size_extract, e]; omega
    have e2 : siz l[k] = l[k].sf.size + l[k].wt.size := rfl
    rw [crl_succ ks l k hkl, croom_succ ks l room k hkl, wrap_in (by omega)]
    omega
theorem crs_tot (d : Dk) (ks : List Int) (h0 : 0 ≤ d.room) (hb : tot d ≤ 1048576) : tot (crs d ks) = tot d ∧ 0 ≤ (crs d ks).room := crl_tot ks d.fs d.room h0 hb _ (Nat.le_refl _)
theorem does_tot (d : Dk) (kind num : Int) (nm s : ByteArray) (h0 : 0 ≤ d.room) (hb : tot d ≤ 1048576) : tot (doesM d kind num nm s).1 = tot d ∧ 0 ≤ (doesM d kind num nm s).1.room := by
  unfold doesM
  split; exact appd_tot d nm s h0
  split; exact ⟨(syn_tot d nm).1, by rw [(syn_tot d nm).2]; exact h0⟩
  split; exact ren_tot d nm s h0 hb
  split; exact del_tot d nm h0 hb
  split; exact crs_tot d _ h0 hb
  split <;> exact ⟨rfl, h0⟩
end Dkm
end Go.Proofs.Ytpjadjbniddmgaa
