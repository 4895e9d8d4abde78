/- Contracts: the document's Append, Sync, all cases together. -/
import Derived.Test.YtpjadjbniddmgaaDiskRef9
namespace Go.Proofs.Ytpjadjbniddmgaa
open Go.RowKit Dkm
set_option linter.unusedVariables false

theorem ref_sync_any (nm : ByteArray) (A : Option Addr) (n c : Nat) (d : Dk) (w : World) (hd : Dsk w A n c d.fs) (hs : ∀ f ∈ d.fs, f.sf.size + f.wt.size ≤ maxLen) :
    Calls Try.prog 15 #[dkv A n c d.room d.fuse d.off, .string nm] w fun e w' => RetDK w (syn d nm).1 (syn d nm).2 e w' := by
  obtain ⟨l, room, fuse, off⟩ := d
  simp only at hd hs ⊢
  cases off with
  | true =>
    rw [show syn ⟨l, room, fuse, true⟩ nm = (⟨l, room, fuse, true⟩, 6) from rfl]
    exact ref_sync_off nm A n c room fuse l w hd
  | false =>
    rcases plc_cases nm l with ⟨hp, hall⟩ | ⟨k, hk, hp, hkn, hfirst⟩
    · rw [syn_none hall]
      exact ref_sync_none nm A n c room fuse l w hd _ hp (by omega)
    · rw [syn_at hk hkn hfirst]
      exact ref_sync_yes nm A n c room fuse l w hd k hk hp (hs _ (List.getElem_mem hk))

theorem set_last {l : List Fil} {f g : Fil} {n : Nat} (h : l.length = n) : (l ++ [f]).set n g = l ++ [g] := by
  subst h
  rw [List.set_append_right _ _ (Nat.le_refl _)]
  simp

theorem ref_append_any (nm s : ByteArray) (A : Option Addr) (n c : Nat) (d : Dk) (w : World) (hd : Dsk w A n c d.fs) (hf : ∀ f ∈ d.fs, f.sf.size + f.wt.size ≤ 2305843009213693952) (hs : s.size ≤ 2305843009213693952)
    (hr2 : d.room ≤ 9223372036854775807) (hfu : d.fuse ≤ 9223372036854775807) :
    Calls Try.prog 13 #[dkv A n c d.room d.fuse d.off, .string nm, .string s] w fun e w' => RetDK w (appd d nm s).1 (appd d nm s).2 e w' := by
  obtain ⟨l, room, fuse, off⟩ := d
  simp only at hd hf hr2 hfu ⊢
  have hlen := hd.len
  cases off with
  | true =>
    rw [show appd ⟨l, room, fuse, true⟩ nm s = (⟨l, room, fuse, true⟩, 6) from rfl]
    exact ref_app_off nm s A n c room fuse l w hd
  | false =>
    by_cases hn : nmOk nm = true
    · have key : ∀ (f : Fil) (k : Nat), opn nm l = (f, k) → ¬ ((k = l.length ∧ 64 ≤ l.length) ∨ room < s.size) → ¬ 65536 < f.sf.size + f.wt.size + s.size →
          appd ⟨l, room, fuse, false⟩ nm s = (⟨put l k ⟨f.nm, f.sf, f.wt ++ cut fuse s⟩, room - (cut fuse s).size, if 0 ≤ fuse then fuse - (cut fuse s).size else fuse, short fuse s⟩, if short fuse s then 6 else 0) := by
        intro f k hop h1 h2
        unfold appd; simp only [hn, hop]; rw [if_neg (by simp), if_neg (by simp), if_neg h1, if_neg h2]
      have kneg : fuse < 0 → cut fuse s = s ∧ short fuse s = false := fun h => by
        have e1 : short fuse s = false := by unfold short; simp; omega
        exact ⟨by unfold cut; rw [e1]; rfl, e1⟩
      have kfit : (s.size : Int) ≤ fuse → cut fuse s = s ∧ short fuse s = false := fun h => by
        have e1 : short fuse s = false := by unfold short; simp; omega
        exact ⟨by unfold cut; rw [e1]; rfl, e1⟩
      have ksh : ∀ q : Nat, fuse = q → q < s.size → cut fuse s = s.extract 0 q ∧ short fuse s = true ∧ (s.extract 0 q).size = q := fun q e h => by
        subst e
        have e1 : short (q : Int) s = true := by unfold short; simp; omega
        exact ⟨by unfold cut; rw [e1]; simp, e1, by simp; omega⟩
      rcases plc_cases nm l with ⟨hp, hall⟩ | ⟨k, hk, hp, hkn, hfirst⟩
      · have hop := opn_none hall
        by_cases hful : 64 ≤ l.length ∨ room < s.size
        · rw [show appd ⟨l, room, fuse, false⟩ nm s = (⟨l, room, fuse, false⟩, 5) by unfold appd; simp only [hn, hop]; rw [if_neg (by simp), if_neg (by simp), if_pos (by rcases hful with h | h; exact .inl ⟨by simp, h⟩; exact .inr h)]]
          exact ref_app_full nm s A n c room fuse l w hd hn _ hp (by omega)
        · by_cases hb : 65536 < s.size
          · rw [show appd ⟨l, room, fuse, false⟩ nm s = (⟨l, room, fuse, false⟩, 4) by unfold appd; simp only [hn, hop]; rw [if_neg (by simp), if_neg (by simp), if_neg (by omega), if_pos (by rw [show (⟨#[]⟩ : ByteArray).size = 0 from rfl]; omega)]]
            exact ref_app_big_none nm s A n c room fuse l w hd hn _ hp (by omega) (by omega) (by omega) hs hb
          · rw [key _ _ hop (by omega) (by rw [show (⟨#[]⟩ : ByteArray).size = 0 from rfl]; omega)]
            have hput : ∀ g, put l l.length g = (l ++ [(⟨nm, ⟨#[]⟩, ⟨#[]⟩⟩ : Fil)]).set n g := fun g => by rw [set_last hlen]; unfold put; rw [if_pos rfl]
            rw [hput]
            by_cases h0 : fuse < 0
            · obtain ⟨e1, e2⟩ := kneg h0
              rw [e1, e2, if_neg (by omega), if_neg (by simp)]
              exact ref_app_none_neg nm s A n c room fuse l w hd hn _ hp (by omega) (by omega) (by omega) hs h0 hr2 (by omega)
            · by_cases h1 : (s.size : Int) ≤ fuse
              · obtain ⟨e1, e2⟩ := kfit h1
                rw [e1, e2, if_pos (by omega), if_neg (by simp)]
                exact ref_app_none_fits nm s A n c room fuse l w hd hn _ hp (by omega) (by omega) (by omega) hs h1 hfu hr2 (by omega)
              · obtain ⟨q, rfl⟩ : ∃ q : Nat, fuse = q := ⟨fuse.toNat, by omega⟩
                obtain ⟨e1, e2, e3⟩ := ksh q rfl (by omega)
                rw [e1, e2, e3, if_pos (by omega), if_pos rfl, Int.sub_self]
                exact ref_app_none_short nm s A n c room q l w hd hn _ hp (by omega) (by omega) (by omega) hs (by omega) hr2 (by omega)
      · have hop := opn_at hk hkn hfirst
        have hz := hf _ (List.getElem_mem hk)
        by_cases hful : room < s.size
        · rw [show appd ⟨l, room, fuse, false⟩ nm s = (⟨l, room, fuse, false⟩, 5) by unfold appd; simp only [hn, hop]; rw [if_neg (by simp), if_neg (by simp), if_pos (.inr hful)]]
          exact ref_app_full nm s A n c room fuse l w hd hn _ hp (.inr hful)
        · by_cases hb : 65536 < l[k].sf.size + l[k].wt.size + s.size
          · rw [show appd ⟨l, room, fuse, false⟩ nm s = (⟨l, room, fuse, false⟩, 4) by unfold appd; simp only [hn, hop]; rw [if_neg (by simp), if_neg (by simp), if_neg (by omega), if_pos hb]]
            exact ref_app_big_at nm s A n c room fuse l w hd hn k hk (by omega) hp (by omega) hs hz hb
          · rw [key _ _ hop (by omega) hb]
            have hput : ∀ g, put l k g = l.set k g := fun g => by unfold put; rw [if_neg (by omega)]
            rw [hput]
            by_cases h0 : fuse < 0
            · obtain ⟨e1, e2⟩ := kneg h0
              rw [e1, e2, if_neg (by omega), if_neg (by simp)]
              exact ref_app_at_neg nm s A n c room fuse l w hd hn k hk (by omega) hp (by omega) hs hz h0 hr2 (by omega)
            · by_cases h1 : (s.size : Int) ≤ fuse
              · obtain ⟨e1, e2⟩ := kfit h1
                rw [e1, e2, if_pos (by omega), if_neg (by simp)]
                exact ref_app_at_fits nm s A n c room fuse l w hd hn k hk (by omega) hp (by omega) hs hz h1 hfu hr2 (by omega)
              · obtain ⟨q, rfl⟩ : ∃ q : Nat, fuse = q := ⟨fuse.toNat, by omega⟩
                obtain ⟨e1, e2, e3⟩ := ksh q rfl (by omega)
                rw [e1, e2, e3, if_pos (by omega), if_pos rfl, Int.sub_self]
                exact ref_app_at_short nm s A n c room q l w hd hn k hk (by omega) hp (by omega) hs hz (by omega) hr2 (by omega)
    · rw [show appd ⟨l, room, fuse, false⟩ nm s = (⟨l, room, fuse, false⟩, 1) by unfold appd; rw [if_neg (by simp), if_pos (by simpa using hn)]]
      exact ref_app_arg nm s A n c room fuse l w hd (by simpa using hn)
end Go.Proofs.Ytpjadjbniddmgaa
