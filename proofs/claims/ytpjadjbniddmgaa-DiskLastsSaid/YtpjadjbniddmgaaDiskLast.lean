/- What was synced begins its file, whatever comes but renames and deletions: the mathematics. -/
import Derived.Test.YtpjadjbniddmgaaDiskApart
namespace Go.Proofs.Ytpjadjbniddmgaa
open Go.RowKit Dkm
set_option linter.unusedVariables false
namespace Dkm
/-- the file of the name is there, and what is safe of it begins with was. -/
def Lst (nm was : ByteArray) (l : List Fil) : Prop := ∃ k, ∃ hk : k < l.length, l[k].nm = nm ∧ (∀ j, ∀ h : j < l.length, j < k → l[j].nm ≠ nm) ∧ ∃ t, l[k].sf = was ++ t
theorem lst_set {nm was : ByteArray} {l : List Fil} {k : Nat} (h : Lst nm was l) (hk : k < l.length) (g : Fil) (hg : g.nm = l[k].nm) (hs : ∃ t, g.sf = l[k].sf ++ t) : Lst nm was (l.set k g) := by
  obtain ⟨i, hi, h1, h2, t, h3⟩ := h
  refine ⟨i, by simpa using hi, ?_, fun j hj hji => ?_, ?_⟩
  · by_cases e : k = i
    · subst e; simpa [hg] using h1
    · rw [List.getElem_set_ne e]; exact h1
  · have hj' : j < l.length := by simpa using hj
    by_cases e : k = j
    · subst e; simpa [hg] using h2 k hj' hji
    · rw [List.getElem_set_ne e]; exact h2 j hj' hji
  · by_cases e : k = i
    · subst e
      obtain ⟨u, hu⟩ := hs
      refine ⟨t ++ u, ?_⟩
      simp only [List.getElem_set_self]
      rw [hu, h3, ByteArray.append_assoc]
    · exact ⟨t, by rw [List.getElem_set_ne e]; exact h3⟩
theorem lst_snoc {nm was : ByteArray} {l : List Fil} (h : Lst nm was l) (g : Fil) : Lst nm was (l ++ [g]) := by
  obtain ⟨i, hi, h1, h2, t, h3⟩ := h
  refine ⟨i, by simp; omega, by rw [List.getElem_append_left hi]; exact h1, fun j hj hji => by rw [List.getElem_append_left (by omega)]; exact h2 j (by omega) hji, t, by rw [List.getElem_append_left hi]; exact h3⟩
theorem app_nil (a : ByteArray) : ∃ t, a = a ++ t := ⟨⟨#[]⟩, by ext1; simp⟩
theorem appd_last {nm was nm2 s : ByteArray} (d : Dk) (h : Lst nm was d.fs) : Lst nm was (appd d nm2 s).1.fs := by
  unfold appd
  split; exact h
  split; exact h
  split; exact h
  split; exact h
  show Lst nm was (put _ _ _)
  rcases plc_cases nm2 d.fs with ⟨_, hall⟩ | ⟨k, hk, _, hkn, hfirst⟩
  · rw [opn_none hall]; unfold put; rw [if_pos rfl]; exact lst_snoc h _
  · rw [opn_at hk hkn hfirst]; unfold put; simp only
    rw [if_neg (by omega)]
    exact lst_set h hk _ rfl (app_nil _)
theorem syn_last {nm was nm2 : ByteArray} (d : Dk) (h : Lst nm was d.fs) : Lst nm was (syn d nm2).1.fs := by
  obtain ⟨l, room, fuse, off⟩ := d
  cases off
  · rcases plc_cases nm2 l with ⟨hp, hall⟩ | ⟨k, hk, hp, hkn, hfirst⟩
    · rw [syn_none hall]; exact h
    · rw [syn_at hk hkn hfirst]
      exact lst_set h hk _ rfl ⟨l[k].wt, rfl⟩
  · exact h
theorem crl_last {nm was : ByteArray} (ks : List Int) (l : List Fil) (h : Lst nm was l) : ∀ k, k ≤ l.length → Lst nm was (crl ks l k)
  | 0, _ => by rw [crl_zero]; exact h
  | k + 1, hk => by
    have hkl : k < l.length := by omega
    have hlt : k < (crl ks l k).length := by rw [crl_len]; exact hkl
    rw [crl_succ ks l k hkl]
    refine lst_set (crl_last ks l h k (by omega)) hlt _ ?_ ?_
    · rw [crl_get ks l k hkl]; rfl
    · rw [crl_get ks l k hkl]; exact ⟨_, rfl⟩
theorem does_last {nm was : ByteArray} (d : Dk) (kind num : Int) (nm2 s : ByteArray) (h3 : kind ≠ 3) (h4 : kind ≠ 4) (h : Lst nm was d.fs) : Lst nm was (doesM d kind num nm2 s).1.fs := by
  unfold doesM
  split; exact appd_last d h
  split; exact syn_last d h
  split; exact crl_last _ d.fs h _ (Nat.le_refl _)
  split <;> exact h
/-- behind a sync that is OK. -/
theorem syn_lst {nm : ByteArray} (d : Dk) (h : (syn d nm).2 = 0) : ∃ was, redd nm (syn d nm).1.fs = (was, 0) ∧ Lst nm was (syn d nm).1.fs := by
  obtain ⟨l, room, fuse, off⟩ := d
  cases off
  · rcases plc_cases nm l with ⟨hp, hall⟩ | ⟨k, hk, hp, hkn, hfirst⟩
    · rw [syn_none hall] at h; cases h
    · rw [syn_at hk hkn hfirst]
      have hk2 : k < (l.set k ⟨l[k].nm, l[k].sf ++ l[k].wt, ⟨#[]⟩⟩).length := by simpa using hk
      have hg : (l.set k ⟨l[k].nm, l[k].sf ++ l[k].wt, ⟨#[]⟩⟩)[k] = ⟨l[k].nm, l[k].sf ++ l[k].wt, ⟨#[]⟩⟩ := by simp
      have hf : ∀ j, ∀ h : j < (l.set k ⟨l[k].nm, l[k].sf ++ l[k].wt, ⟨#[]⟩⟩).length, j < k → (l.set k ⟨l[k].nm, l[k].sf ++ l[k].wt, ⟨#[]⟩⟩)[j].nm ≠ nm :=
        fun j hj hjk => by rw [List.getElem_set_ne (by omega)]; exact hfirst j (by simpa using hj) hjk
      refine ⟨l[k].sf ++ l[k].wt, ?_, k, hk2, by rw [hg]; exact hkn, hf, ?_⟩
      · show redd nm (l.set k _) = _
        rw [redd_at hk2 (by rw [hg]; exact hkn) hf, hg]
        simp only [Prod.mk.injEq, and_true]
        ext1; simp
      · rw [hg]; exact app_nil _
  · cases h
theorem ext_app (a b : ByteArray) : (a ++ b).extract 0 a.size = a := by
  ext1
  simp
theorem lst_read2 {nm was : ByteArray} {l : List Fil} (h : Lst nm was l) : ∃ s, redd nm l = (s, 0) ∧ was.size ≤ s.size ∧ s.extract 0 was.size = was := by
  obtain ⟨i, hi, h1, h2, t, h3⟩ := h
  refine ⟨was ++ (t ++ l[i].wt), by rw [redd_at hi h1 h2, h3, ByteArray.append_assoc], by rw [ByteArray.size_append]; omega, ext_app _ _⟩
theorem lst_read {nm was : ByteArray} {l : List Fil} (h : Lst nm was l) : ∃ t, redd nm l = (was ++ t, 0) := by
  obtain ⟨i, hi, h1, h2, t, h3⟩ := h
  exact ⟨t ++ l[i].wt, by rw [redd_at hi h1 h2, h3, ByteArray.append_assoc]⟩
end Dkm
end Go.Proofs.Ytpjadjbniddmgaa
