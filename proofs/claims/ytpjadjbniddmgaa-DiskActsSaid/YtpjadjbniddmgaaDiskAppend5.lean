/- Contract: Append, all cases together. -/
import Derived.Test.YtpjadjbniddmgaaDiskAppend4
namespace Go.Proofs.Ytpjadjbniddmgaa
open Go.RowKit Dkm
set_option linter.unusedVariables false

theorem append_any (nm s : ByteArray) (A : Option Addr) (n c : Nat) (d : Dk) (w : World) (hd : Dsk w A n c d.fs) (hf : ∀ f ∈ d.fs, f.sf.size + f.wt.size ≤ 2305843009213693952) (hs : s.size ≤ 2305843009213693952)
    (hr2 : d.room ≤ 9223372036854775807) (hfu : d.fuse ≤ 9223372036854775807) :
    Calls Try.prog 12 #[dkv A n c d.room d.fuse d.off, .string nm, .string s] w fun e w' => RetDE w (appd d nm s).1 (appd d nm s).2 e w' := by
  obtain ⟨l, room, fuse, off⟩ := d
  simp only at hd hf hr2 hfu ⊢
  have hlen := hd.len
  rcases hop : opn nm l with ⟨f, k⟩
  have hk : k ≤ n := by have := opn_le nm l; rw [hop] at this; simp only at this; omega
  have hff : f.sf.size + f.wt.size ≤ 2305843009213693952 := by
    rcases plc_cases nm l with ⟨_, h⟩ | ⟨j, hj, _, hn, hfi⟩
    · rw [opn_none h] at hop
      injection hop with h1 h2
      rw [← h1]; show (⟨#[]⟩ : ByteArray).size + (⟨#[]⟩ : ByteArray).size ≤ _; decide
    · rw [opn_at hj hn hfi] at hop
      injection hop with h1 h2
      rw [← h1]; exact hf _ (List.getElem_mem hj)
  cases off with
  | true =>
    rw [show appd ⟨l, room, fuse, true⟩ nm s = (⟨l, room, fuse, true⟩, 6) from rfl]
    exact append_off nm s A n c room fuse l w hd f k hop hk hff hs
  | false =>
    by_cases hn : nmOk nm = true
    · by_cases hful : (k = l.length ∧ 64 ≤ l.length) ∨ room < s.size
      · rw [show appd ⟨l, room, fuse, false⟩ nm s = (⟨l, room, fuse, false⟩, 5) by unfold appd; simp only [hn, hop]; rw [if_neg (by simp), if_neg (by simp), if_pos hful]]
        by_cases h1 : k = n
        · by_cases h2 : 64 ≤ n
          · exact append_full1 nm s A n c room fuse l w hd f k hop hk hff hs hn h1 h2
          · exact append_full2_eq nm s A n c room fuse l w hd f k hop hk hff hs hn h1 (by omega) (by omega)
        · exact append_full2_lt nm s A n c room fuse l w hd f k hop hk hff hs hn (by omega) (by omega)
      · by_cases hb : 65536 < f.sf.size + f.wt.size + s.size
        · rw [show appd ⟨l, room, fuse, false⟩ nm s = (⟨l, room, fuse, false⟩, 4) by unfold appd; simp only [hn, hop]; rw [if_neg (by simp), if_neg (by simp), if_neg hful, if_pos hb]]
          by_cases h1 : k = n
          · exact append_big_eq nm s A n c room fuse l w hd f k hop hk hff hs hn h1 (by omega) (by omega) hb
          · exact append_big_lt nm s A n c room fuse l w hd f k hop hk hff hs hn (by omega) (by omega) hb
        · have e : appd ⟨l, room, fuse, false⟩ nm s = (⟨put l k ⟨f.nm, f.sf, f.wt ++ cut fuse s⟩, room - (cut fuse s).size, if 0 ≤ fuse then fuse - (cut fuse s).size else fuse, short fuse s⟩, if short fuse s then 6 else 0) := by
            unfold appd; simp only [hn, hop]; rw [if_neg (by simp), if_neg (by simp), if_neg hful, if_neg hb]
          rw [e]; clear e
          by_cases hsh : 0 ≤ fuse ∧ fuse < s.size
          · have e1 : short fuse s = true := by unfold short; simpa using hsh
            obtain ⟨q, rfl⟩ : ∃ q : Nat, fuse = q := ⟨fuse.toNat, by omega⟩
            have e2 : cut (q : Int) s = s.extract 0 q := by unfold cut; rw [e1]; simp
            rw [e1, e2, if_pos (by omega), if_pos rfl]
            by_cases h1 : k = n
            · rw [show put l k ⟨f.nm, f.sf, f.wt ++ s.extract 0 q⟩ = l ++ [⟨f.nm, f.sf, f.wt ++ s.extract 0 q⟩] by unfold put; rw [if_pos (by omega)]]
              exact append_short_eq nm s A n c room q l w hd f k hop hk hff hs hn h1 (by omega) (by omega) hr2 (by omega) q rfl (by omega)
            · rw [show put l k ⟨f.nm, f.sf, f.wt ++ s.extract 0 q⟩ = l.set k ⟨f.nm, f.sf, f.wt ++ s.extract 0 q⟩ by unfold put; rw [if_neg (by omega)]]
              exact append_short_lt nm s A n c room q l w hd f k hop hk hff hs hn (by omega) (by omega) hr2 (by omega) q rfl (by omega)
          · have e1 : short fuse s = false := by unfold short; simpa using hsh
            have e2 : cut fuse s = s := by unfold cut; rw [e1]; rfl
            have e3 : (if false = true then (6 : Int) else 0) = 0 := rfl
            rw [e1, e2, e3]
            by_cases h0 : 0 ≤ fuse
            · rw [if_pos h0]
              by_cases h1 : k = n
              · rw [show put l k ⟨f.nm, f.sf, f.wt ++ s⟩ = l ++ [⟨f.nm, f.sf, f.wt ++ s⟩] by unfold put; rw [if_pos (by omega)]]
                exact append_done_eq_fits nm s A n c room fuse l w hd f k hop hk hff hs hn h1 (by omega) (by omega) hr2 (by omega) (by omega) hfu
              · rw [show put l k ⟨f.nm, f.sf, f.wt ++ s⟩ = l.set k ⟨f.nm, f.sf, f.wt ++ s⟩ by unfold put; rw [if_neg (by omega)]]
                exact append_done_lt_fits nm s A n c room fuse l w hd f k hop hk hff hs hn (by omega) (by omega) hr2 (by omega) (by omega) hfu
            · rw [if_neg h0]
              by_cases h1 : k = n
              · rw [show put l k ⟨f.nm, f.sf, f.wt ++ s⟩ = l ++ [⟨f.nm, f.sf, f.wt ++ s⟩] by unfold put; rw [if_pos (by omega)]]
                exact append_done_eq_neg nm s A n c room fuse l w hd f k hop hk hff hs hn h1 (by omega) (by omega) hr2 (by omega) (by omega)
              · rw [show put l k ⟨f.nm, f.sf, f.wt ++ s⟩ = l.set k ⟨f.nm, f.sf, f.wt ++ s⟩ by unfold put; rw [if_neg (by omega)]]
                exact append_done_lt_neg nm s A n c room fuse l w hd f k hop hk hff hs hn (by omega) (by omega) hr2 (by omega) (by omega)
    · have hn' : nmOk nm = false := by simpa using hn
      rw [show appd ⟨l, room, fuse, false⟩ nm s = (⟨l, room, fuse, false⟩, 1) by unfold appd; rw [if_neg (by simp), if_pos hn']]
      exact append_arg nm s A n c room fuse l w hd f k hop hk hff hs hn'
end Go.Proofs.Ytpjadjbniddmgaa
