/- A rename gives the one file's bytes the other one's name: the mathematics. -/
import Derived.Test.YtpjadjbniddmgaaDiskApart
namespace Go.Proofs.Ytpjadjbniddmgaa
open Go.RowKit Dkm
set_option linter.unusedVariables false
namespace Dkm
def Uniq (l : List Fil) : Prop := ∀ i j, ∀ hi : i < l.length, ∀ hj : j < l.length, l[i].nm = l[j].nm → i = j
/-- a rename that isn't OK: the same files and room. -/
theorem ren_bad (d : Dk) (fr to : ByteArray) (h : (ren d fr to).2 ≠ 0) : (ren d fr to).1.fs = d.fs ∧ (ren d fr to).1.room = d.room := by
  unfold ren at *
  have hp := pow_fs d
  have hr : (pow d).1.room = d.room := by unfold pow; split; rfl; split <;> rfl
  repeat' split at h
  all_goals (try (exact absurd rfl h))
  all_goals simp_all
theorem find_uniq {l : List Fil} {nm : ByteArray} {i : Nat} (hi : i < l.length) (hn : l[i].nm = nm) (hu : ∀ j, ∀ hj : j < l.length, l[j].nm = nm → j = i) : redd nm l = (l[i].sf ++ l[i].wt, 0) :=
  redd_at hi hn (fun j hj hji e => by have := hu j hj e; omega)
theorem find_none {l : List Fil} {nm : ByteArray} (hu : ∀ j, ∀ hj : j < l.length, l[j].nm ≠ nm) : redd nm l = (⟨#[]⟩, 7) :=
  redd_none (fun f hf => by obtain ⟨i, hi, rfl⟩ := List.getElem_of_mem hf; exact hu i hi)
/-- a rename that is OK, of a disk whose names are unlike each other. -/
theorem ren_good (d : Dk) (fr to : ByteArray) (hu : Uniq d.fs) (h : (ren d fr to).2 = 0) : (redd fr d.fs).2 = 0 ∧ redd to (ren d fr to).1.fs = redd fr d.fs ∧ (fr = to ∨ (redd fr (ren d fr to).1.fs).2 = 7) := by
  obtain ⟨l, room, fuse, off⟩ := d
  have hv : Uniq l := hu
  cases off
  case true => simp [ren] at h
  cases hok : nmOk to
  · simp [ren, hok] at h
  rcases plc_cases fr l with ⟨hp, hall⟩ | ⟨k, hk, hp, hkn, hfirst⟩
  · simp [ren, hok, hit_none hall] at h
  by_cases he : fr = to
  · subst he
    rw [show ren ⟨l, room, fuse, false⟩ fr fr = (⟨l, room, fuse, false⟩, 0) by simp [ren, hok, hit_at hk hkn hfirst]]
    exact ⟨by rw [redd_at hk hkn hfirst], rfl, .inl rfl⟩
  by_cases hz : fuse = 0
  · subst hz
    simp [ren, hok, hit_at hk hkn hfirst, he, pow_zero] at h
  obtain ⟨f2, hpw⟩ : ∃ f2, pow ⟨l, room, fuse, false⟩ = (⟨l, room, f2, false⟩, true) := by
    rcases Int.lt_or_gt_of_ne hz with h | h
    · exact ⟨fuse, pow_neg _ _ _ _ h⟩
    · exact ⟨fuse - 1, pow_pos _ _ _ _ h⟩
  have hg : ∀ (j : Nat) (hj : j < (l.set k ⟨to, l[k].sf, l[k].wt⟩).length), (l.set k ⟨to, l[k].sf, l[k].wt⟩)[j] = if k = j then ⟨to, l[k].sf, l[k].wt⟩ else l[j]'(by simpa using hj) := fun j hj => List.getElem_set ..
  have hrd := redd_at hk hkn hfirst
  rcases plc_cases to l with ⟨hp2, hall2⟩ | ⟨o, ho, hp2, hon, hfirst2⟩
  · rw [show ren ⟨l, room, fuse, false⟩ fr to = (nmd ⟨l, room, f2, false⟩ k to, 0) by simp [ren, hok, hit_at hk hkn hfirst, opn_at hk hkn hfirst, he, hpw, hit_none hall2], nmd_at hk]
    have hk2 : k < (l.set k ⟨to, l[k].sf, l[k].wt⟩).length := by simpa using hk
    refine ⟨by simp only [hrd], ?_, .inr ?_⟩
    · show redd to (l.set k _) = redd fr l
      rw [hrd, find_uniq hk2 (by rw [hg, if_pos rfl]) (fun j hj e => by
        rw [hg] at e
        split at e
        · omega
        · exact absurd e (hall2 _ (List.getElem_mem _)))]
      rw [hg, if_pos rfl]
    · show (redd fr (l.set k _)).2 = 7
      rw [find_none (fun j hj e => by
        rw [hg] at e
        split at e
        · exact he e.symm
        · rename_i hne
          exact hne (hv k j hk (by simpa using hj) (hkn.trans e.symm)))]
  · have hne : o ≠ k := by rintro rfl; exact he (hkn.symm.trans hon)
    have ho2 : o < (l.set k ⟨to, l[k].sf, l[k].wt⟩).length := by simpa using ho
    rw [show ren ⟨l, room, fuse, false⟩ fr to = (lss (nmd ⟨l, room, f2, false⟩ k to) o, 0) by simp [ren, hok, hit_at hk hkn hfirst, opn_at hk hkn hfirst, he, hpw, hit_at ho hon hfirst2, opn_at ho hon hfirst2], nmd_at hk, lss_at ho2]
    have hel : ∀ (j : Nat) (hj : j < ((l.set k ⟨to, l[k].sf, l[k].wt⟩).eraseIdx o).length), ((l.set k ⟨to, l[k].sf, l[k].wt⟩).eraseIdx o)[j] = if h : j < o then (l.set k ⟨to, l[k].sf, l[k].wt⟩)[j]'(by omega) else (l.set k ⟨to, l[k].sf, l[k].wt⟩)[j + 1]'(by rw [List.length_eraseIdx, if_pos ho2] at hj; omega) := fun j hj => List.getElem_eraseIdx ..
    have hlen : ((l.set k ⟨to, l[k].sf, l[k].wt⟩).eraseIdx o).length = l.length - 1 := by rw [List.length_eraseIdx, if_pos ho2, List.length_set]
    refine ⟨by simp only [hrd], ?_, .inr ?_⟩
    · show redd to ((l.set k _).eraseIdx o) = redd fr l
      rw [hrd]
      obtain ⟨i, hi, hval⟩ : ∃ i, ∃ hi : i < ((l.set k ⟨to, l[k].sf, l[k].wt⟩).eraseIdx o).length, ((l.set k ⟨to, l[k].sf, l[k].wt⟩).eraseIdx o)[i] = ⟨to, l[k].sf, l[k].wt⟩ ∧ (if i < o then i else i + 1) = k := by
        by_cases hko : k < o
        · refine ⟨k, by omega, ?_, by rw [if_pos hko]⟩
          rw [hel, dif_pos hko, hg, if_pos rfl]
        · refine ⟨k - 1, by omega, ?_, by rw [if_neg (by omega)]; omega⟩
          rw [hel, dif_neg (by omega), hg, if_pos (by omega)]
      rw [find_uniq hi (by rw [hval.1]) (fun j hj e => by
        rw [hel] at e
        split at e
        · rename_i hjo
          rw [hg] at e
          split at e
          · have := hval.2; split at this <;> omega
          · have := hv j o (by omega) ho (e.trans hon.symm); omega
        · rename_i hjo
          rw [hg] at e
          split at e
          · have := hval.2; split at this <;> omega
          · have := hv (j + 1) o (by omega) ho (e.trans hon.symm); omega), hval.1]
    · show (redd fr ((l.set k _).eraseIdx o)).2 = 7
      rw [find_none (fun j hj e => by
        rw [hel] at e
        split at e
        · rw [hg] at e
          split at e
          · exact he e.symm
          · rename_i hne2; exact hne2 (hv k j hk (by omega) (hkn.trans e.symm))
        · rw [hg] at e
          split at e
          · exact he e.symm
          · rename_i hne2; exact hne2 (hv k (j + 1) hk (by omega) (hkn.trans e.symm)))]
end Dkm
end Go.Proofs.Ytpjadjbniddmgaa
