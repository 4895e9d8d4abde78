/- Contracts: Delete and Rename, whatever the disk. -/
import Derived.Test.YtpjadjbniddmgaaDiskRen
namespace Go.Proofs.Ytpjadjbniddmgaa
open Go.RowKit Dkm
set_option linter.unusedVariables false

theorem chg_none (p fuse : Int) (h : p < 0) : chg p fuse false = (fuse, false, 7) := by simp [chg, h]
theorem chg_off (p fuse : Int) : chg p fuse true = (fuse, true, 6) := by simp [chg]
theorem chg_zero (k : Nat) : chg k 0 false = (0, true, 6) := by unfold chg; rw [if_neg (by simp), if_pos (by simp)]
theorem chg_pos (k : Nat) (fuse : Int) (h : 0 < fuse) : chg k fuse false = (fuse - 1, false, 0) := by unfold chg; rw [if_neg (by simp), if_neg (by simp; omega), if_pos h]
theorem chg_neg (k : Nat) (fuse : Int) (h : fuse < 0) : chg k fuse false = (fuse, false, 0) := by unfold chg; rw [if_neg (by simp), if_neg (by simp; omega), if_neg (by omega)]
theorem pow_zero (l : List Fil) (room : Int) (off : Bool) : pow ⟨l, room, 0, off⟩ = (⟨l, room, 0, true⟩, false) := by simp [pow]
theorem pow_pos (l : List Fil) (room fuse : Int) (off : Bool) (h : 0 < fuse) : pow ⟨l, room, fuse, off⟩ = (⟨l, room, fuse - 1, off⟩, true) := by
  unfold pow; simp only; rw [if_neg (by omega), if_pos h]
theorem pow_neg (l : List Fil) (room fuse : Int) (off : Bool) (h : fuse < 0) : pow ⟨l, room, fuse, off⟩ = (⟨l, room, fuse, off⟩, true) := by
  unfold pow; simp only; rw [if_neg (by omega), if_neg (by omega)]
theorem lss_at {l : List Fil} {room fuse : Int} {off : Bool} {k : Nat} (hk : k < l.length) : lss ⟨l, room, fuse, off⟩ k = ⟨l.eraseIdx k, wrap64 (room + ((l[k].sf.size + l[k].wt.size : Nat) : Int)), fuse, off⟩ := by
  simp [lss, hk]
theorem nmd_at {l : List Fil} {room fuse : Int} {off : Bool} {k : Nat} (hk : k < l.length) (to : ByteArray) : nmd ⟨l, room, fuse, off⟩ k to = ⟨l.set k ⟨to, l[k].sf, l[k].wt⟩, room, fuse, off⟩ := by
  simp [nmd, hk]

theorem del_any (nm : ByteArray) (A : Option Addr) (n c : Nat) (d : Dk) (w : World) (hd : Dsk w A n c d.fs) (hs : ∀ f ∈ d.fs, f.sf.size + f.wt.size ≤ maxLen) (hfu : d.fuse ≤ 9223372036854775807) :
    Calls Try.prog 25 #[dkv A n c d.room d.fuse d.off, .string nm] w fun e w' => RetDE w (del d nm).1 (del d nm).2 e w' := by
  obtain ⟨l, room, fuse, off⟩ := d
  simp only at hd hs hfu ⊢
  cases off
  · rcases plc_cases nm l with ⟨hp, hall⟩ | ⟨k, hk, hp, hkn, hfirst⟩
    · rw [show del ⟨l, room, fuse, false⟩ nm = (⟨l, room, fuse, false⟩, 7) by simp [del, hit_none hall]]
      exact delete_no nm A n c room fuse false l w hd hfu _ hp fuse 7 false (chg_none _ _ (by omega)) (by omega)
    · rcases Int.lt_trichotomy fuse 0 with h2 | h2 | h2
      · rw [show del ⟨l, room, fuse, false⟩ nm = (lss ⟨l, room, fuse, false⟩ k, 0) by simp [del, hit_at hk hkn hfirst, opn_at hk hkn hfirst, pow_neg _ _ _ _ h2], lss_at hk]
        exact delete_yes nm A n c room fuse l w hd hfu k hk hp fuse (chg_neg k fuse h2) (hs _ (List.getElem_mem hk))
      · subst h2
        rw [show del ⟨l, room, 0, false⟩ nm = (⟨l, room, 0, true⟩, 6) by simp [del, hit_at hk hkn hfirst, pow_zero]]
        exact delete_no nm A n c room 0 false l w hd hfu _ hp 0 6 true (chg_zero k) (by omega)
      · rw [show del ⟨l, room, fuse, false⟩ nm = (lss ⟨l, room, fuse - 1, false⟩ k, 0) by simp [del, hit_at hk hkn hfirst, opn_at hk hkn hfirst, pow_pos _ _ _ _ h2], lss_at hk]
        exact delete_yes nm A n c room fuse l w hd hfu k hk hp (fuse - 1) (chg_pos k fuse h2) (hs _ (List.getElem_mem hk))
  · exact delete_no nm A n c room fuse true l w hd hfu _ rfl fuse 6 true (chg_off _ _) (by omega)

theorem ren_any (fr to : ByteArray) (A : Option Addr) (n c : Nat) (d : Dk) (w : World) (hd : Dsk w A n c d.fs) (hs : ∀ f ∈ d.fs, f.sf.size + f.wt.size ≤ maxLen) (hfu : d.fuse ≤ 9223372036854775807) :
    Calls Try.prog 23 #[dkv A n c d.room d.fuse d.off, .string fr, .string to] w fun e w' => RetDE w (ren d fr to).1 (ren d fr to).2 e w' := by
  obtain ⟨l, room, fuse, off⟩ := d
  simp only at hd hs hfu ⊢
  cases off
  · cases hok : nmOk to
    · rw [show ren ⟨l, room, fuse, false⟩ fr to = (⟨l, room, fuse, false⟩, 1) by simp [ren, hok]]
      exact ren_arg fr to A n c room fuse l w hd _ _ rfl rfl hok
    · rcases plc_cases fr l with ⟨hp, hall⟩ | ⟨k, hk, hp, hkn, hfirst⟩
      · rw [show ren ⟨l, room, fuse, false⟩ fr to = (⟨l, room, fuse, false⟩, 7) by simp [ren, hok, hit_none hall]]
        exact ren_no1 fr to A n c room fuse l w hd _ _ hp rfl hok (by omega) hfu fuse 7 false (chg_none _ _ (by omega)) (by omega)
      · by_cases he : fr = to
        · rw [show ren ⟨l, room, fuse, false⟩ fr to = (⟨l, room, fuse, false⟩, 0) by subst he; simp [ren, hok, hit_at hk hkn hfirst]]
          exact ren_same fr to A n c room fuse l w hd _ _ hp rfl hok (by omega) he
        · by_cases hz : fuse = 0
          · subst hz
            rw [show ren ⟨l, room, 0, false⟩ fr to = (⟨l, room, 0, true⟩, 6) by simp [ren, hok, hit_at hk hkn hfirst, he, pow_zero]]
            exact ren_no2 fr to A n c room 0 l w hd _ _ hp rfl hok (by omega) he hfu 0 6 true (chg_zero k) (by omega)
          · obtain ⟨f2, hc, hpw⟩ : ∃ f2, chg k fuse false = (f2, false, 0) ∧ pow ⟨l, room, fuse, false⟩ = (⟨l, room, f2, false⟩, true) := by
              rcases Int.lt_or_gt_of_ne hz with h | h
              · exact ⟨fuse, chg_neg k fuse h, pow_neg _ _ _ _ h⟩
              · exact ⟨fuse - 1, chg_pos k fuse h, pow_pos _ _ _ _ h⟩
            rcases plc_cases to l with ⟨hp2, hall2⟩ | ⟨o, ho, hp2, hon, hfirst2⟩
            · rw [show ren ⟨l, room, fuse, false⟩ fr to = (nmd ⟨l, room, f2, false⟩ k to, 0) by simp [ren, hok, hit_at hk hkn hfirst, opn_at hk hkn hfirst, he, hpw, hit_none hall2], nmd_at hk]
              exact ren_plain fr to A n c room fuse l w hd _ k hk hp hp2 hok he hfu f2 hc (by omega)
            · have hne : o ≠ k := by rintro rfl; exact he (hkn.symm.trans hon)
              have ho2 : o < (l.set k ⟨to, l[k].sf, l[k].wt⟩).length := by simpa using ho
              have hge : (l.set k ⟨to, l[k].sf, l[k].wt⟩)[o] = l[o] := List.getElem_set_ne (by omega) _
              rw [show ren ⟨l, room, fuse, false⟩ fr to = (lss (nmd ⟨l, room, f2, false⟩ k to) o, 0) by simp [ren, hok, hit_at hk hkn hfirst, opn_at hk hkn hfirst, he, hpw, hit_at ho hon hfirst2, opn_at ho hon hfirst2], nmd_at hk, lss_at ho2, hge]
              exact ren_over fr to A n c room fuse l w hd o k hk ho hp hp2 hok he hfu f2 hc (hs _ (List.getElem_mem ho)) hne _ rfl
  · exact ren_off fr to A n c room fuse l w hd _ _ rfl rfl
end Go.Proofs.Ytpjadjbniddmgaa
