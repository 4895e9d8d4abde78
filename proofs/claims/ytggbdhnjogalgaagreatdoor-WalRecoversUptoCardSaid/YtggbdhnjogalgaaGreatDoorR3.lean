/- DiskAppend5, DiskShown, DiskDoes, DiskDoes2, DiskInv, WalDisk, DiskApart, DiskWhole, DiskUniq, PresM, Tab, DiskRef, DiskRef2, DiskRef3, WalName, WalPut, DiskRef4, DiskRef7, DiskRef8, Held, HeldL, App: merged. -/
import Derived.Test.YtggbdhnjogalgaaGreatDoorR2
import Derived.Test.YtggbdhnjogalgaaGreatDoorR1
import Derived.Lib.SlicesCompact
import Derived.Lib.AtoiAllCases
import Derived.Lib.Strings
import Derived.Lib.LaidTab
import Derived.Lib.AppendIntMem
import Derived.Test.YtggbdhnjogalgaaGreatDoorShelf
import Derived.Lib.ItoaMem
import Derived.Deep.RegionHeld3
import Derived.Outline
import Derived.Maps.AppendAt
import Derived.Laws.AppendOwnNone
/- Contract: Append, all cases together. -/
namespace Go.Proofs.YtggbdhnjogalgaaGreatDoor
set_option maxRecDepth 100000
open Go.RowKit Dkm
set_option linter.unusedVariables false

theorem append_any (nm s : ByteArray) (A : Option Addr) (n c : Nat) (d : Dk) (w : World) (hd : Dsk w A n c d.fs) (hf : ∀ f ∈ d.fs, f.sf.size + f.wt.size ≤ 2305843009213693952) (hs : s.size ≤ 2305843009213693952)
    (hr2 : d.room ≤ 9223372036854775807) (hfu : d.fuse ≤ 9223372036854775807) :
    Calls Tryz.prog 33 #[dkv A n c d.room d.fuse d.off, .string nm, .string s] w fun e w' => RetDE w (appd d nm s).1 (appd d nm s).2 e w' := by
  obtain ⟨l, room, fuse, off⟩ := d
  simp only at hd hf hr2 hfu ⊢
  have hlen := hd.len
  rcases hop : opn nm l with ⟨f, k⟩
  have hk : k ≤ n := by have := opn_le nm l; rw [hop] at this; simp only at this; omega
  have hff : f.sf.size + f.wt.size ≤ 2305843009213693952 := by
    rcases plc_cases nm l with ⟨_, h⟩ | ⟨j, hj, _, hn, hfi⟩
    · rw [opn_none h] at hop
      injection hop with h1 h2
      rw [← h1]; show (⟨#[]⟩ : ByteArray).size + (⟨#[]⟩ : ByteArray).size ≤ _; decide
    · rw [opn_at hj hn hfi] at hop
      injection hop with h1 h2
      rw [← h1]; exact hf _ (List.getElem_mem hj)
  cases off with
  | true =>
    rw [show appd ⟨l, room, fuse, true⟩ nm s = (⟨l, room, fuse, true⟩, 6) from rfl]
    exact append_off nm s A n c room fuse l w hd f k hop hk hff hs
  | false =>
    by_cases hn : nmOk nm = true
    · by_cases hful : (k = l.length ∧ 64 ≤ l.length) ∨ room < s.size
      · rw [show appd ⟨l, room, fuse, false⟩ nm s = (⟨l, room, fuse, false⟩, 5) by unfold appd; simp only [hn, hop]; rw [if_neg (by simp), if_neg (by simp), if_pos hful]]
        by_cases h1 : k = n
        · by_cases h2 : 64 ≤ n
          · exact append_full1 nm s A n c room fuse l w hd f k hop hk hff hs hn h1 h2
          · exact append_full2_eq nm s A n c room fuse l w hd f k hop hk hff hs hn h1 (by omega) (by omega)
        · exact append_full2_lt nm s A n c room fuse l w hd f k hop hk hff hs hn (by omega) (by omega)
      · by_cases hb : 65536 < f.sf.size + f.wt.size + s.size
        · rw [show appd ⟨l, room, fuse, false⟩ nm s = (⟨l, room, fuse, false⟩, 4) by unfold appd; simp only [hn, hop]; rw [if_neg (by simp), if_neg (by simp), if_neg hful, if_pos hb]]
          by_cases h1 : k = n
          · exact append_big_eq nm s A n c room fuse l w hd f k hop hk hff hs hn h1 (by omega) (by omega) hb
          · exact append_big_lt nm s A n c room fuse l w hd f k hop hk hff hs hn (by omega) (by omega) hb
        · have e : appd ⟨l, room, fuse, false⟩ nm s = (⟨put l k ⟨f.nm, f.sf, f.wt ++ cut fuse s⟩, room - (cut fuse s).size, if 0 ≤ fuse then fuse - (cut fuse s).size else fuse, short fuse s⟩, if short fuse s then 6 else 0) := by
            unfold appd; simp only [hn, hop]; rw [if_neg (by simp), if_neg (by simp), if_neg hful, if_neg hb]
          rw [e]; clear e
          by_cases hsh : 0 ≤ fuse ∧ fuse < s.size
          · have e1 : short fuse s = true := by unfold short; simpa using hsh
            obtain ⟨q, rfl⟩ : ∃ q : Nat, fuse = q := ⟨fuse.toNat, by omega⟩
            have e2 : cut (q : Int) s = s.extract 0 q := by unfold cut; rw [e1]; simp
            rw [e1, e2, if_pos (by omega), if_pos rfl]
            by_cases h1 : k = n
            · rw [show put l k ⟨f.nm, f.sf, f.wt ++ s.extract 0 q⟩ = l ++ [⟨f.nm, f.sf, f.wt ++ s.extract 0 q⟩] by unfold put; rw [if_pos (by omega)]]
              exact append_short_eq nm s A n c room q l w hd f k hop hk hff hs hn h1 (by omega) (by omega) hr2 (by omega) q rfl (by omega)
            · rw [show put l k ⟨f.nm, f.sf, f.wt ++ s.extract 0 q⟩ = l.set k ⟨f.nm, f.sf, f.wt ++ s.extract 0 q⟩ by unfold put; rw [if_neg (by omega)]]
              exact append_short_lt nm s A n c room q l w hd f k hop hk hff hs hn (by omega) (by omega) hr2 (by omega) q rfl (by omega)
          · have e1 : short fuse s = false := by unfold short; simpa using hsh
            have e2 : cut fuse s = s := by unfold cut; rw [e1]; rfl
            have e3 : (if false = true then (6 : Int) else 0) = 0 := rfl
            rw [e1, e2, e3]
            by_cases h0 : 0 ≤ fuse
            · rw [if_pos h0]
              by_cases h1 : k = n
              · rw [show put l k ⟨f.nm, f.sf, f.wt ++ s⟩ = l ++ [⟨f.nm, f.sf, f.wt ++ s⟩] by unfold put; rw [if_pos (by omega)]]
                exact append_done_eq_fits nm s A n c room fuse l w hd f k hop hk hff hs hn h1 (by omega) (by omega) hr2 (by omega) (by omega) hfu
              · rw [show put l k ⟨f.nm, f.sf, f.wt ++ s⟩ = l.set k ⟨f.nm, f.sf, f.wt ++ s⟩ by unfold put; rw [if_neg (by omega)]]
                exact append_done_lt_fits nm s A n c room fuse l w hd f k hop hk hff hs hn (by omega) (by omega) hr2 (by omega) (by omega) hfu
            · rw [if_neg h0]
              by_cases h1 : k = n
              · rw [show put l k ⟨f.nm, f.sf, f.wt ++ s⟩ = l ++ [⟨f.nm, f.sf, f.wt ++ s⟩] by unfold put; rw [if_pos (by omega)]]
                exact append_done_eq_neg nm s A n c room fuse l w hd f k hop hk hff hs hn h1 (by omega) (by omega) hr2 (by omega) (by omega)
              · rw [show put l k ⟨f.nm, f.sf, f.wt ++ s⟩ = l.set k ⟨f.nm, f.sf, f.wt ++ s⟩ by unfold put; rw [if_neg (by omega)]]
                exact append_done_lt_neg nm s A n c room fuse l w hd f k hop hk hff hs hn (by omega) (by omega) hr2 (by omega) (by omega)
    · have hn' : nmOk nm = false := by simpa using hn
      rw [show appd ⟨l, room, fuse, false⟩ nm s = (⟨l, room, fuse, false⟩, 1) by unfold appd; rw [if_neg (by simp), if_pos hn']]
      exact append_arg nm s A n c room fuse l w hd f k hop hk hff hs hn'
end Go.Proofs.YtggbdhnjogalgaaGreatDoor

/- The document's example of chapter 3. -/
namespace Go.Proofs.YtggbdhnjogalgaaGreatDoor
set_option maxRecDepth 100000
open Go.RowKit Dkm
set_option linter.unusedVariables false

theorem dsk_nil (w : World) : Dsk w none 0 0 [] := ⟨Holds.none_ _ _ _ _, fun _ => ⟨rfl, rfl⟩, Nat.le_refl _, Nat.zero_le _, by omega⟩
theorem Own.few {w : World} {base : Nat} {A : Option Addr} {n c : Nat} {l : List Fil} (h : Own w base A n c l) (hl : l.length ≤ 1000) : Dsk w A n c l := h.dsk (by have := h.len; omega)

/-- a disk in a variable's box, in a world W. -/
structure DV (W : World) (B : Nat) (A : Option Addr) (n c : Nat) (d : Dk) : Prop where
  box : Bx W B [.slice A n c, .int .i64 d.room, .int .i64 d.fuse, .bool d.off]
  dsk : Dsk W A n c d.fs
theorem DV.q {W W' : World} {B : Nat} {A : Option Addr} {n c : Nat} {d : Dk} (h : DV W B A n c d) (hq : Q W W') : DV W' B A n c d := ⟨h.box.q hq, h.dsk.q hq⟩
/-- a new variable. -/
theorem DV.new {W : World} {A : Option Addr} {n c : Nat} {d : Dk} (h : Dsk W A n c d.fs) : DV (W.alloc (.cells #[.slice A n c, .int .i64 d.room, .int .i64 d.fuse, .bool d.off] 24)) W.heap.size A n c d :=
  ⟨Bx.new W [.slice A n c, .int .i64 d.room, .int .i64 d.fuse, .bool d.off] 24, h.q ((Q.refl _).alloc _)⟩
/-- what a call returned is stored into the variable. -/
theorem DV.put {W W' : World} {B : Nat} {A A' : Option Addr} {n c n' c' : Nat} {d d' : Dk} (h : DV W B A n c d) (hq : Q W W') (ho : Own W' W.heap.size A' n' c' d'.fs) (hn : n' * 48 ≤ 140737488355328) :
    DV ((((W'.setCell ⟨B, 0, none⟩ (.slice A' n' c')).setCell ⟨B, 1, none⟩ (.int .i64 d'.room)).setCell ⟨B, 2, none⟩ (.int .i64 d'.fuse)).setCell ⟨B, 3, none⟩ (.bool d'.off)) B A' n' c' d' :=
  ⟨(h.box.q hq).put4 _ _ _ _, (ho.set4 h.box.lt _ _ _ _).dsk hn⟩
theorem DV.get {W : World} {B : Nat} {A : Option Addr} {n c : Nat} {d : Dk} (h : DV W B A n c d) : (W.cell? ⟨B, 0, none⟩ = some (.slice A n c) ∧ W.cell? ⟨B, 1, none⟩ = some (.int .i64 d.room) ∧ W.cell? ⟨B, 2, none⟩ = some (.int .i64 d.fuse) ∧ W.cell? ⟨B, 3, none⟩ = some (.bool d.off)) ∧
    W.frozen? ⟨B, 0, none⟩ = false ∧ W.frozen? ⟨B, 1, none⟩ = false ∧ W.frozen? ⟨B, 2, none⟩ = false ∧ W.frozen? ⟨B, 3, none⟩ = false := h.box.get4

theorem ints_lit1 (w : World) (x : Int) : Ints (w.alloc (.cells #[.int .i64 x] 3)) (some ⟨w.heap.size, 0, none⟩) 1 [x] := by
  refine ⟨rfl, fun j u hj => ?_⟩
  have hj0 : j = 0 := by
    have := (List.getElem?_eq_some_iff.1 hj).1; simp at this; exact this
  subst hj0
  simp only [List.map_cons, List.map_nil, List.getElem?_cons_zero, Option.some.injEq] at hj
  subst hj
  exact ⟨⟨w.heap.size, 0, none⟩, rfl, by simp, by simp [Addr.add]⟩

end Go.Proofs.YtggbdhnjogalgaaGreatDoor

/- Contracts: the law's 'does': one act. -/
namespace Go.Proofs.YtggbdhnjogalgaaGreatDoor
set_option maxRecDepth 100000
open Go.RowKit Dkm
set_option linter.unusedVariables false

namespace Dkm
theorem lss_len (d : Dk) (k : Nat) : (lss d k).fs.length ≤ d.fs.length := by unfold lss; simp [List.length_eraseIdx]; split <;> omega
theorem pow_fs (d : Dk) : (pow d).1.fs = d.fs := by unfold pow; split; rfl; split <;> rfl
theorem del_len (d : Dk) (nm : ByteArray) : (del d nm).1.fs.length ≤ d.fs.length := by
  unfold del
  split; exact Nat.le_refl _
  split; exact Nat.le_refl _
  split
  · rw [pow_fs]; exact Nat.le_refl _
  · exact Nat.le_trans (lss_len _ _) (by rw [pow_fs]; exact Nat.le_refl _)
theorem nmd_len (d : Dk) (k : Nat) (to : ByteArray) : (nmd d k to).fs.length = d.fs.length := by unfold nmd; simp
theorem ren_len (d : Dk) (fr to : ByteArray) : (ren d fr to).1.fs.length ≤ d.fs.length := by
  unfold ren
  split; exact Nat.le_refl _
  split; exact Nat.le_refl _
  split; exact Nat.le_refl _
  split; exact Nat.le_refl _
  split
  · rw [pow_fs]; exact Nat.le_refl _
  split
  · exact Nat.le_trans (lss_len _ _) (by rw [nmd_len, pow_fs]; exact Nat.le_refl _)
  · rw [nmd_len, pow_fs]; exact Nat.le_refl _
theorem appd_few (d : Dk) (nm s : ByteArray) : (appd d nm s).1.fs.length ≤ max d.fs.length 64 := by
  have h := appd_len d nm s
  by_cases h1 : d.fs.length < 64
  · omega
  · unfold appd
    split; exact Nat.le_max_left _ _
    split; exact Nat.le_max_left _ _
    split; exact Nat.le_max_left _ _
    split; exact Nat.le_max_left _ _
    rename_i _ _ h3 _
    show (put _ _ _).length ≤ _
    unfold put
    split
    · exact absurd (Or.inl ⟨by assumption, by omega⟩) h3
    · simp only [List.length_set]; exact Nat.le_max_left _ _
end Dkm

theorem Own.far_ {w : World} {base : Nat} {A : Option Addr} {n c : Nat} {l : List Fil} (h : Own w base A n c l) : ∀ ad, A = some ad → base ≤ ad.block := by
  intro ad e
  rcases h.parts with ⟨rfl, _⟩ | ⟨g, cur, rfl, hb, _⟩
  · cases e
  · injection e with e; subst e; exact hb
theorem Holds.away {w : World} {B k : Nat} {A : Option Addr} {n : Nat} {xs : List Value} (h : Holds w B k A n xs) {b : Nat} (ha : ∀ ad, A = some ad → ad.block ≠ b) (o : Nat) (u : Value) : Holds (w.setCell ⟨b, o, none⟩ u) B k A n xs :=
  ⟨h.1, fun j v hj => by
    obtain ⟨ad, e, hb, hc⟩ := h.2 j v hj
    exact ⟨ad, e, hb, (World.cell?_setCell_other _ _ _ _ (by intro x; have := congrArg Addr.block x; rw [addr_block] at this; exact ha ad e this.symm)).trans hc⟩⟩
theorem Dsk.away {w : World} {A : Option Addr} {n c : Nat} {l : List Fil} (h : Dsk w A n c l) {b : Nat} (ha : ∀ ad, A = some ad → ad.block ≠ b) (o : Nat) (u : Value) : Dsk (w.setCell ⟨b, o, none⟩ u) A n c l :=
  ⟨by have := Holds.away h.files ha o u; rw [show w.heap.size = (w.setCell ⟨b, o, none⟩ u).heap.size by simp [World.setCell]] at this; exact this, h.nil, h.le, h.cap, h.few⟩

end Go.Proofs.YtggbdhnjogalgaaGreatDoor

/- Contracts: the law's 'does', case by case. -/
namespace Go.Proofs.YtggbdhnjogalgaaGreatDoor
set_option maxRecDepth 100000
open Go.RowKit Dkm
set_option linter.unusedVariables false

end Go.Proofs.YtggbdhnjogalgaaGreatDoor

/- What stays, whatever acts come: sizes, numbers, room; and 'does' whole. -/
namespace Go.Proofs.YtggbdhnjogalgaaGreatDoor
set_option maxRecDepth 100000
open Go.RowKit Dkm
set_option linter.unusedVariables false

namespace Dkm
theorem erase_sum {B : Nat} {l : List Fil} (h : ∀ f ∈ l, f.sf.size + f.wt.size ≤ B) (k : Nat) : ∀ f ∈ l.eraseIdx k, f.sf.size + f.wt.size ≤ B := fun f hf => h f (List.mem_of_mem_eraseIdx hf)
theorem lss_sum {B : Nat} (d : Dk) (k : Nat) (h : ∀ f ∈ d.fs, f.sf.size + f.wt.size ≤ B) : ∀ f ∈ (lss d k).fs, f.sf.size + f.wt.size ≤ B := erase_sum h k
theorem nmd_sum {B : Nat} (d : Dk) (k : Nat) (to : ByteArray) (h : ∀ f ∈ d.fs, f.sf.size + f.wt.size ≤ B) : ∀ f ∈ (nmd d k to).fs, f.sf.size + f.wt.size ≤ B := by
  unfold nmd
  by_cases hk : k < d.fs.length
  · refine set_sum h ?_
    simp only [List.getD_eq_getElem?_getD, List.getElem?_eq_getElem hk, Option.getD_some]
    exact h _ (List.getElem_mem hk)
  · show ∀ f ∈ d.fs.set k _, _
    rw [List.set_eq_of_length_le (by omega)]; exact h
theorem pow_sum {B : Nat} (d : Dk) (h : ∀ f ∈ d.fs, f.sf.size + f.wt.size ≤ B) : ∀ f ∈ (pow d).1.fs, f.sf.size + f.wt.size ≤ B := by rw [pow_fs]; exact h
theorem del_sum {B : Nat} (d : Dk) (nm : ByteArray) (h : ∀ f ∈ d.fs, f.sf.size + f.wt.size ≤ B) : ∀ f ∈ (del d nm).1.fs, f.sf.size + f.wt.size ≤ B := by
  unfold del
  split; exact h
  split; exact h
  split; exact pow_sum d h
  exact lss_sum _ _ (pow_sum d h)
theorem ren_sum {B : Nat} (d : Dk) (fr to : ByteArray) (h : ∀ f ∈ d.fs, f.sf.size + f.wt.size ≤ B) : ∀ f ∈ (ren d fr to).1.fs, f.sf.size + f.wt.size ≤ B := by
  unfold ren
  split; exact h
  split; exact h
  split; exact h
  split; exact h
  split; exact pow_sum d h
  split
  · exact lss_sum _ _ (nmd_sum _ _ _ (pow_sum d h))
  · exact nmd_sum _ _ _ (pow_sum d h)
/-- an int. -/
def In64 (x : Int) : Prop := -9223372036854775808 ≤ x ∧ x ≤ 9223372036854775807
theorem appd_rng (d : Dk) (nm s : ByteArray) (h1 : In64 d.room) (h2 : In64 d.fuse) : In64 (appd d nm s).1.room ∧ In64 (appd d nm s).1.fuse := by
  unfold appd
  split; exact ⟨h1, h2⟩
  split; exact ⟨h1, h2⟩
  split; exact ⟨h1, h2⟩
  split; exact ⟨h1, h2⟩
  rename_i _ _ h3 _
  have hc := cut_size d.fuse s
  unfold In64 at *
  have h4 : ¬ d.room < s.size := fun h => h3 (.inr h)
  have h5 : 0 ≤ d.fuse → (cut d.fuse s).size ≤ d.fuse.toNat ∨ ¬ short d.fuse s := by
    intro h0
    by_cases hsh : short d.fuse s
    · left; unfold cut; rw [if_pos hsh, ByteArray.size_extract]; omega
    · exact .inr hsh
  have h6 : 0 ≤ d.fuse → ((cut d.fuse s).size : Int) ≤ d.fuse := by
    intro h0
    rcases h5 h0 with h | h
    · omega
    · unfold cut; rw [if_neg h]
      unfold short at h
      simp only [decide_eq_true_eq] at h
      omega
  simp only
  refine ⟨by omega, ?_⟩
  split
  · have := h6 (by assumption); omega
  · exact h2
theorem pow_rng (d : Dk) (h1 : In64 d.room) (h2 : In64 d.fuse) : In64 (pow d).1.room ∧ In64 (pow d).1.fuse := by
  unfold pow
  split; exact ⟨h1, h2⟩
  split
  · exact ⟨h1, by unfold In64 at *; simp only; omega⟩
  · exact ⟨h1, h2⟩
theorem lss_rng (d : Dk) (k : Nat) (h2 : In64 d.fuse) : In64 (lss d k).room ∧ In64 (lss d k).fuse := ⟨wrap_rng _, h2⟩
theorem del_rng (d : Dk) (nm : ByteArray) (h1 : In64 d.room) (h2 : In64 d.fuse) : In64 (del d nm).1.room ∧ In64 (del d nm).1.fuse := by
  have hp := pow_rng d h1 h2
  unfold del
  split; exact ⟨h1, h2⟩
  split; exact ⟨h1, h2⟩
  split; exact hp
  exact lss_rng _ _ hp.2
theorem ren_rng (d : Dk) (fr to : ByteArray) (h1 : In64 d.room) (h2 : In64 d.fuse) : In64 (ren d fr to).1.room ∧ In64 (ren d fr to).1.fuse := by
  have hp := pow_rng d h1 h2
  unfold ren
  split; exact ⟨h1, h2⟩
  split; exact ⟨h1, h2⟩
  split; exact ⟨h1, h2⟩
  split; exact ⟨h1, h2⟩
  split; exact hp
  split
  · exact lss_rng _ _ hp.2
  · exact hp
theorem syn_rng (d : Dk) (nm : ByteArray) (h1 : In64 d.room) (h2 : In64 d.fuse) : In64 (syn d nm).1.room ∧ In64 (syn d nm).1.fuse := by
  unfold syn
  split; exact ⟨h1, h2⟩
  split <;> exact ⟨h1, h2⟩
end Dkm
end Go.Proofs.YtggbdhnjogalgaaGreatDoor

/- What the calls of chapter 4 make of a disk, in plain mathematics. -/
namespace Go.Proofs.YtggbdhnjogalgaaGreatDoor
set_option maxRecDepth 100000
open Dkm
set_option linter.unusedVariables false
namespace Wm

def sealB (r : ByteArray) : ByteArray := ⟨(sld r.data.toList).toArray⟩
theorem sealB_size (r : ByteArray) : (sealB r).size = (sld r.data.toList).length := by show (sld r.data.toList).toArray.size = _; simp
/-- Put behind its checks, the segment not full. -/
def putA (d : Dk) (seg : Int) (rec : ByteArray) : Dk × Int × Int := ((appd d (namB seg) (sealB rec)).1, seg, (appd d (namB seg) (sealB rec)).2)
/-- Put behind its checks. -/
def putB (d : Dk) (seg : Int) (rec : ByteArray) : Dk × Int × Int :=
  if (redd (namB seg) d.fs).1.size < 256 then putA d seg rec
  else if (syn d (namB seg)).2 ≠ 0 then ((syn d (namB seg)).1, seg, (syn d (namB seg)).2)
  else if seg = 1000000 then ((syn d (namB seg)).1, seg, 5)
  else putA (syn d (namB seg)).1 (seg + 1) rec
def putM (d : Dk) (seg : Int) (rec : ByteArray) : Dk × Int × Int :=
  if ¬ segOk seg then (d, seg, 1) else if 2048 < rec.size then (d, seg, 4) else putB d seg rec
def syncM (d : Dk) (seg : Int) : Dk × Int := if (hit (namB seg) d.fs).2 then syn d (namB seg) else (d, 0)

/-- the steps of a cut, up to the rename. -/
def cut1 (d : Dk) : Dk × Int := if (hit freshB d.fs).2 then del d freshB else (d, 0)
def cut2 (d : Dk) (s : ByteArray) : Dk × Int := if (cut1 d).2 = 0 then appd (cut1 d).1 freshB s else cut1 d
def cut3 (d : Dk) (s : ByteArray) : Dk × Int := if (cut2 d s).2 = 0 then syn (cut2 d s).1 freshB else cut2 d s
def cut4 (d : Dk) (seg : Int) (s : ByteArray) : Dk × Int := if (cut3 d s).2 = 0 then ren (cut3 d s).1 freshB (namB seg) else cut3 d s
/-- each segment from seg on is deleted, up to the first one that isn't there. -/
def dels : Nat → Dk → Int → Dk × Int
  | 0, d, _ => (d, 0)
  | n + 1, d, seg => if segOk seg ∧ (hit (namB seg) d.fs).2 then (if (del d (namB seg)).2 = 0 then dels n (del d (namB seg)).1 (seg + 1) else del d (namB seg)) else (d, 0)
def fuelOf (seg : Int) : Nat := (1000001 - seg).toNat
def cutM (d : Dk) (seg : Int) (s : ByteArray) : Dk × Int :=
  if (cut4 d seg s).2 = 0 then dels (fuelOf (seg + 1)) (cut4 d seg s).1 (seg + 1) else cut4 d seg s

/-- what Recover tells: the disk, the records, the segment, the errno. -/
def recF : Nat → Dk → Int → Int → List (List UInt8) → Int → Dk × List (List UInt8) × Int × Int
  | 0, d, _, _, rs, last => (d, rs, last, 0)
  | n + 1, d, from_, seg, rs, last =>
    if ¬ segOk seg then (d, rs, last, 0)
    else if (redd (namB seg) d.fs).2 ≠ 0 then (d, rs, last, 0)
    else if (scn (redd (namB seg) d.fs).1.data.toList).2 = [] then recF n d from_ (seg + 1) (rs ++ (scn (redd (namB seg) d.fs).1.data.toList).1) seg
    else if (cutM d seg ⟨(flat (scn (redd (namB seg) d.fs).1.data.toList).1).toArray⟩).2 ≠ 0 then ((cutM d seg ⟨(flat (scn (redd (namB seg) d.fs).1.data.toList).1).toArray⟩).1, [], from_, (cutM d seg ⟨(flat (scn (redd (namB seg) d.fs).1.data.toList).1).toArray⟩).2)
    else ((cutM d seg ⟨(flat (scn (redd (namB seg) d.fs).1.data.toList).1).toArray⟩).1, rs ++ (scn (redd (namB seg) d.fs).1.data.toList).1, seg, 0)
def recM (d : Dk) (from_ : Int) : Dk × List (List UInt8) × Int × Int :=
  if ¬ segOk from_ then (d, [], from_, 1) else recF (fuelOf from_) d from_ from_ [] from_

/-- Drop's deletions, segment by segment. -/
def drops : List Int → Dk → Dk × Int
  | [], d => (d, 0)
  | k :: ks, d => if (del d (namB k)).2 = 0 then drops ks (del d (namB k)).1 else del d (namB k)

/-! ### Sizes and ranges are kept -/
structure Bnd (B : Nat) (d : Dk) : Prop where
  sum : ∀ f ∈ d.fs, f.sf.size + f.wt.size ≤ B
  few : d.fs.length * 48 ≤ 140737488355328
  room : In64 d.room
  fuse : In64 d.fuse
theorem Bnd.appd {B : Nat} {d : Dk} (h : Bnd B d) (hB : 65536 ≤ B) (nm s : ByteArray) : Bnd B (appd d nm s).1 := ⟨appd_sum d nm s hB h.sum, by have h1 := appd_few d nm s; have h2 := h.few; omega, (appd_rng d nm s h.room h.fuse).1, (appd_rng d nm s h.room h.fuse).2⟩
theorem Bnd.syn {B : Nat} {d : Dk} (h : Bnd B d) (nm : ByteArray) : Bnd B (syn d nm).1 := ⟨syn_sum d nm h.sum, by rw [syn_len]; exact h.few, (syn_rng d nm h.room h.fuse).1, (syn_rng d nm h.room h.fuse).2⟩
theorem Bnd.del {B : Nat} {d : Dk} (h : Bnd B d) (nm : ByteArray) : Bnd B (del d nm).1 := ⟨del_sum d nm h.sum, by have h1 := del_len d nm; have h2 := h.few; omega, (del_rng d nm h.room h.fuse).1, (del_rng d nm h.room h.fuse).2⟩
theorem Bnd.ren {B : Nat} {d : Dk} (h : Bnd B d) (a b : ByteArray) : Bnd B (ren d a b).1 := ⟨ren_sum d a b h.sum, by have h1 := ren_len d a b; have h2 := h.few; omega, (ren_rng d a b h.room h.fuse).1, (ren_rng d a b h.room h.fuse).2⟩
theorem Bnd.cut1 {B : Nat} {d : Dk} (h : Bnd B d) : Bnd B (cut1 d).1 := by unfold Wm.cut1; split; exact h.del _; exact h
theorem Bnd.cut2 {B : Nat} {d : Dk} (h : Bnd B d) (hB : 65536 ≤ B) (s : ByteArray) : Bnd B (cut2 d s).1 := by unfold Wm.cut2; split; exact h.cut1.appd hB _ _; exact h.cut1
theorem Bnd.cut3 {B : Nat} {d : Dk} (h : Bnd B d) (hB : 65536 ≤ B) (s : ByteArray) : Bnd B (cut3 d s).1 := by unfold Wm.cut3; split; exact (h.cut2 hB s).syn _; exact h.cut2 hB s
theorem Bnd.cut4 {B : Nat} {d : Dk} (h : Bnd B d) (hB : 65536 ≤ B) (seg : Int) (s : ByteArray) : Bnd B (cut4 d seg s).1 := by unfold Wm.cut4; split; exact (h.cut3 hB s).ren _ _; exact h.cut3 hB s
theorem Bnd.dels {B : Nat} : ∀ (n : Nat) {d : Dk} (seg : Int), Bnd B d → Bnd B (dels n d seg).1
  | 0, _, _, h => h
  | n + 1, d, seg, h => by
    unfold Wm.dels
    split
    · split
      · exact Bnd.dels n _ (h.del _)
      · exact h.del _
    · exact h
theorem Bnd.cutM {B : Nat} {d : Dk} (h : Bnd B d) (hB : 65536 ≤ B) (seg : Int) (s : ByteArray) : Bnd B (cutM d seg s).1 := by unfold Wm.cutM; split; exact Bnd.dels _ _ (h.cut4 hB seg s); exact h.cut4 hB seg s
theorem Bnd.putA {B : Nat} {d : Dk} (h : Bnd B d) (hB : 65536 ≤ B) (seg : Int) (r : ByteArray) : Bnd B (putA d seg r).1 := h.appd hB _ _
theorem Bnd.putM {B : Nat} {d : Dk} (h : Bnd B d) (hB : 65536 ≤ B) (seg : Int) (r : ByteArray) : Bnd B (putM d seg r).1 := by
  unfold Wm.putM
  split; exact h
  split; exact h
  unfold Wm.putB
  split; exact h.putA hB _ _
  split; exact h.syn _
  split; exact h.syn _
  exact (h.syn _).putA hB _ _
theorem Bnd.syncM {B : Nat} {d : Dk} (h : Bnd B d) (seg : Int) : Bnd B (syncM d seg).1 := by unfold Wm.syncM; split; exact h.syn _; exact h
end Wm
end Go.Proofs.YtggbdhnjogalgaaGreatDoor

/- What is done with one file changes no other one: the mathematics. -/
namespace Go.Proofs.YtggbdhnjogalgaaGreatDoor
set_option maxRecDepth 100000
open Go.RowKit Dkm
set_option linter.unusedVariables false
namespace Dkm
theorem find_del (o : ByteArray) (a b : List Fil) (f : Fil) (hf : f.nm ≠ o) : (a ++ f :: b).find? (fun x => decide (x.nm = o)) = (a ++ b).find? (fun x => decide (x.nm = o)) := by
  simp [List.find?_append, hf]
theorem hit_erase {o : ByteArray} {l : List Fil} {k : Nat} (hk : k < l.length) (h1 : l[k].nm ≠ o) : hit o (l.eraseIdx k) = hit o l := by
  have e2 : l = l.take k ++ l[k] :: l.drop (k + 1) := by rw [← List.drop_eq_getElem_cons hk, List.take_append_drop]
  have : (l.eraseIdx k).find? (fun x => decide (x.nm = o)) = l.find? (fun x => decide (x.nm = o)) := by
    rw [List.eraseIdx_eq_take_drop_succ]; conv => rhs; rw [e2]
    exact (find_del o _ _ _ h1).symm
  unfold hit; rw [this]
theorem lss_apart {o : ByteArray} (d : Dk) {k : Nat} (hk : k < d.fs.length) (h : d.fs[k].nm ≠ o) : hit o (lss d k).fs = hit o d.fs := hit_erase hk h
theorem del_apart {o nm : ByteArray} (d : Dk) (h : o ≠ nm) : hit o (del d nm).1.fs = hit o d.fs := by
  unfold del
  split; rfl
  split; rfl
  split; rw [pow_fs]
  rename_i _ h2 _
  rcases plc_cases nm d.fs with ⟨_, hall⟩ | ⟨k, hk, _, hkn, hfirst⟩
  · rw [hit_none hall] at h2; exact absurd rfl h2
  · rw [opn_at hk hkn hfirst]
    have e := pow_fs d
    exact (lss_apart (pow d).1 (k := k) (by rw [e]; exact hk) (by simp only [e]; exact fun e => h (e.symm.trans hkn))).trans (by rw [e])
end Dkm
end Go.Proofs.YtggbdhnjogalgaaGreatDoor

/- A rename gives the one file's bytes the other one's name: the mathematics. -/
namespace Go.Proofs.YtggbdhnjogalgaaGreatDoor
set_option maxRecDepth 100000
open Go.RowKit Dkm
set_option linter.unusedVariables false
namespace Dkm
end Dkm
end Go.Proofs.YtggbdhnjogalgaaGreatDoor

/- Disks whose files have names unlike each other: what each call leaves under each name. -/
namespace Go.Proofs.YtggbdhnjogalgaaGreatDoor
set_option maxRecDepth 100000
open Dkm
set_option linter.unusedVariables false
set_option linter.unusedSimpArgs false
namespace Du

theorem hit_some {nm : ByteArray} {l : List Fil} (h : (hit nm l).2 = true) : ∃ k, ∃ hk : k < l.length, l[k].nm = nm ∧ (∀ j, ∀ h : j < l.length, j < k → l[j].nm ≠ nm) ∧ hit nm l = (l[k], true) ∧ opn nm l = (l[k], k) := by
  rcases plc_cases nm l with ⟨_, hall⟩ | ⟨k, hk, _, hkn, hf⟩
  · rw [hit_none hall] at h; cases h
  · exact ⟨k, hk, hkn, hf, hit_at hk hkn hf, opn_at hk hkn hf⟩
theorem hit_no {nm : ByteArray} {l : List Fil} (h : (hit nm l).2 = false) : ∀ f ∈ l, f.nm ≠ nm := by
  rcases plc_cases nm l with ⟨_, hall⟩ | ⟨k, hk, _, hkn, hf⟩
  · exact hall
  · rw [hit_at hk hkn hf] at h; cases h
end Du
end Go.Proofs.YtggbdhnjogalgaaGreatDoor

/- The numbers of the segments that are there: plain mathematics. -/
namespace Go.Proofs.YtggbdhnjogalgaaGreatDoor
set_option maxRecDepth 100000
open Dkm Wm Du
set_option linter.unusedVariables false
set_option linter.unusedSimpArgs false

/-- the number that a file's name tells, if it is a segment's. -/
def numOf (nm : ByteArray) : Option Int :=
  match Lib.atoiAll (Lib.trimPrefix nm.data.toList [119]) with
  | .ok v => if nm = namB v then some v else none
  | _ => none
def rawN (fs : List Fil) : List Int := fs.filterMap fun f => numOf f.nm
def prsN (fs : List Fil) : List Int := Lib.compact ((rawN fs).mergeSort fun x y => decide (x ≤ y))
theorem rawN_snoc (fs : List Fil) {k : Nat} (hk : k < fs.length) : rawN (fs.take (k + 1)) = rawN (fs.take k) ++ (numOf fs[k].nm).toList := by
  unfold rawN
  rw [List.take_succ_eq_append_getElem hk, List.filterMap_append]
  cases h : numOf fs[k].nm <;> simp [h]

theorem parse_digits : ∀ (l : List UInt8) (acc : Nat), (∀ c ∈ l, Dm.isD c = true) → acc * 10 ^ l.length + Dm.val l < 1000000000 → Lib.parseUint10 acc l = .ok (acc * 10 ^ l.length + Dm.val l)
  | [], acc, _, _ => by simp [Lib.parseUint10, Dm.val]
  | c :: r, acc, h, hb => by
    have hc := h c (by simp)
    have hd : 48 ≤ c.toNat ∧ c.toNat ≤ 57 := by
      unfold Dm.isD at hc; simp at hc; omega
    have hdv : Dm.dv c = c.toNat - 48 := rfl
    rw [Dm.val_cons, List.length_cons, Nat.pow_succ] at hb
    have e : acc * (10 ^ r.length * 10) + (Dm.dv c * 10 ^ r.length + Dm.val r) = (acc * 10 + Dm.dv c) * 10 ^ r.length + Dm.val r := by
      rw [Nat.add_mul, Nat.mul_assoc, Nat.mul_comm 10 (10 ^ r.length)]; omega
    rw [e] at hb
    have hp : 1 ≤ 10 ^ r.length := Nat.one_le_pow _ _ (by omega)
    have hle : acc * 10 + Dm.dv c ≤ (acc * 10 + Dm.dv c) * 10 ^ r.length := Nat.le_mul_of_pos_right _ hp
    simp only [Lib.parseUint10]
    rw [if_pos hd, if_neg (by omega), if_neg (by omega), ← hdv, parse_digits r _ (fun x hx => h x (by simp [hx])) hb, Dm.val_cons, List.length_cons, Nat.pow_succ, e]
theorem atoi_dg (n : Nat) (h : n < 1000000000) : Lib.atoiAll (Dm.dg n) = .ok (n : Int) := by
  have hall := Dm.all_dg n
  have hv := Dm.val_dg n
  have hp := parse_digits (Dm.dg n) 0 hall (by rw [hv]; omega)
  rw [hv, Nat.zero_mul, Nat.zero_add] at hp
  cases hd : Dm.dg n with
  | nil => exact absurd hd (Dm.dg_ne n)
  | cons c r =>
    rw [hd] at hall hp
    have hc := hall c (by simp)
    have hd2 : 48 ≤ c.toNat ∧ c.toNat ≤ 57 := by unfold Dm.isD at hc; simp at hc; omega
    rw [Lib.atoiAll_plain c r (by omega) (by omega)]
    unfold Lib.parseMag
    rw [if_neg (by simp), hp]
    simp only [Lib.signless]
    rw [if_neg (by omega)]
theorem num_iff (nm : ByteArray) (v : Int) : numOf nm = some v ↔ segOk v ∧ nm = namB v := by
  constructor
  · intro h
    unfold numOf at h
    split at h
    · rename_i x hx
      split at h
      · rename_i hn
        injection h with h
        subst h
        refine ⟨?_, hn⟩
        by_cases hs : segOk x
        · exact hs
        · rw [namB_no hs] at hn
          subst hn
          cases hx
      · cases h
    · cases h
  · rintro ⟨h1, rfl⟩
    have h2 := h1.1
    have h3 := h1.2
    have e : Lib.trimPrefix (namB v).data.toList [119] = Dm.dg v.toNat := by
      rw [namB_list, nam_ok h1]; rfl
    unfold numOf
    rw [e, atoi_dg v.toNat (by omega)]
    have e2 : ((v.toNat : Nat) : Int) = v := by omega
    simp only [e2, if_true]

theorem compact_go (zs : List Int) (hs : zs.Pairwise (· ≤ ·)) : ∀ m, m ≤ zs.length → (Lib.compactUpTo zs.toArray m).Pairwise (· < ·) ∧ (∀ x, x ∈ Lib.compactUpTo zs.toArray m ↔ x ∈ zs.take m) ∧ ∀ x ∈ Lib.compactUpTo zs.toArray m, ∀ j (h : j < zs.length), m ≤ j + 1 → x ≤ zs[j]
  | 0, _ => by simp [Lib.compactUpTo]
  | m + 1, hm => by
    obtain ⟨h1, h2, h3⟩ := compact_go zs hs m (by omega)
    have hml : m < zs.length := by omega
    have hg : ∀ j (h : j < zs.length), zs.toArray[j]! = zs[j] := fun j h => by rw [getElem!_pos zs.toArray j (by simpa using h)]; simp
    have hle : ∀ i j (hi : i < zs.length) (hj : j < zs.length), i ≤ j → zs[i] ≤ zs[j] := fun i j hi hj hij => by
      rcases Nat.lt_or_eq_of_le hij with h | h
      · exact List.pairwise_iff_getElem.1 hs i j hi hj h
      · subst h; exact Int.le_refl _
    rw [Lib.compactUpTo_succ, List.take_succ_eq_append_getElem hml]
    cases hk : Lib.keeps zs.toArray m with
    | true =>
      simp only [if_true]
      rw [hg m hml]
      refine ⟨List.pairwise_append.2 ⟨h1, by simp, fun x hx y hy => ?_⟩, fun x => by rw [List.mem_append, List.mem_append, h2], fun x hx j hj hmj => ?_⟩
      · rw [List.mem_singleton] at hy
        subst hy
        unfold Lib.keeps at hk
        rw [decide_eq_true_eq] at hk
        rcases hk with h0 | h0
        · subst h0; simp [Lib.compactUpTo] at hx
        · by_cases hm0 : m = 0
          · subst hm0; simp [Lib.compactUpTo] at hx
          · rw [hg m hml, hg (m - 1) (by omega)] at h0
            have a1 := h3 x hx (m - 1) (by omega) (by omega)
            have a2 := hle (m - 1) m (by omega) hml (by omega)
            omega
      · rw [List.mem_append] at hx
        rcases hx with hx | hx
        · exact h3 x hx j hj (by omega)
        · rw [List.mem_singleton] at hx; subst hx; exact hle m j hml hj (by omega)
    | false =>
      simp only [Bool.false_eq_true, if_false, List.append_nil]
      refine ⟨h1, fun x => ?_, fun x hx j hj hmj => h3 x hx j hj (by omega)⟩
      rw [h2, List.mem_append, List.mem_singleton]
      refine ⟨.inl, fun hx => ?_⟩
      rcases hx with hx | hx
      · exact hx
      · unfold Lib.keeps at hk
        rw [decide_eq_false_iff_not] at hk
        have hm0 : m ≠ 0 := fun e => hk (.inl e)
        have hq : zs.toArray[m]! = zs.toArray[m - 1]! := by
          by_cases e : zs.toArray[m]! = zs.toArray[m - 1]!
          · exact e
          · exact absurd (.inr e) hk
        rw [hg m hml, hg (m - 1) (by omega)] at hq
        rw [hx, hq]
        exact List.mem_take_iff_getElem.2 ⟨m - 1, by omega, rfl⟩
theorem compact_sorted (zs : List Int) (hs : zs.Pairwise (· ≤ ·)) : (Lib.compact zs).Pairwise (· < ·) ∧ ∀ x, x ∈ Lib.compact zs ↔ x ∈ zs := by
  obtain ⟨h1, h2, _⟩ := compact_go zs hs zs.length (Nat.le_refl _)
  rw [List.take_length] at h2
  exact ⟨h1, h2⟩
theorem hit_mem (nm : ByteArray) (fs : List Fil) : (hit nm fs).2 = true ↔ ∃ f ∈ fs, f.nm = nm := by
  constructor
  · intro h
    obtain ⟨k, hk, hn, _⟩ := hit_some h
    exact ⟨fs[k], List.getElem_mem hk, hn⟩
  · rintro ⟨f, hf, hn⟩
    cases h : (hit nm fs).2 with
    | true => rfl
    | false => exact absurd hn (hit_no h f hf)
theorem prs_sorted (fs : List Fil) : (prsN fs).Pairwise (· < ·) ∧ ∀ x, x ∈ prsN fs ↔ segOk x ∧ (hit (namB x) fs).2 = true := by
  have hs : ((rawN fs).mergeSort fun x y => decide (x ≤ y)).Pairwise (· ≤ ·) := by
    have := List.pairwise_mergeSort (le := fun x y : Int => decide (x ≤ y)) (by intro a b c; simp; omega) (by intro a b; simp; omega) (rawN fs)
    exact this.imp (by simp)
  obtain ⟨h1, h2⟩ := compact_sorted _ hs
  refine ⟨h1, fun x => ?_⟩
  unfold prsN
  rw [h2, List.mem_mergeSort, hit_mem]
  unfold rawN
  rw [List.mem_filterMap]
  constructor
  · rintro ⟨f, hf, hx⟩
    obtain ⟨a, b⟩ := (num_iff _ _).1 hx
    exact ⟨a, f, hf, b⟩
  · rintro ⟨a, f, hf, hx⟩
    exact ⟨f, hf, (num_iff _ _).2 ⟨a, hx⟩⟩

/-- segment by segment, as the document tells it. -/
def seqD : Nat → Int → Int → Dk → Dk × Int
  | 0, _, _, d => (d, 0)
  | n + 1, seg, til, d =>
    if seg < til ∧ seg ≤ 1000000 then
      if (hit (namB seg) d.fs).2 then (if (del d (namB seg)).2 = 0 then seqD n (seg + 1) til (del d (namB seg)).1 else del d (namB seg))
      else seqD n (seg + 1) til d
    else (d, 0)
theorem seq_drops : ∀ (n : Nat) (s til : Int) (ks : List Int) (d : Dk), 1 ≤ s → (til - s).toNat ≤ n → ks.Pairwise (· < ·) → (∀ k ∈ ks, segOk k ∧ s ≤ k ∧ k < til) → (∀ x, s ≤ x → x < til → segOk x → (x ∈ ks ↔ (hit (namB x) d.fs).2 = true)) → seqD n s til d = drops ks d
  | 0, s, til, ks, d, hs, hn, hp, hk, hh => by
    cases ks with
    | nil => rfl
    | cons k ks => obtain ⟨_, a, b⟩ := hk k (by simp); omega
  | n + 1, s, til, ks, d, hs, hn, hp, hk, hh => by
    unfold seqD
    by_cases hc : s < til ∧ s ≤ 1000000
    · rw [if_pos hc]
      have hok : segOk s := ⟨hs, hc.2⟩
      have hne : ∀ x, s + 1 ≤ x → segOk x → hit (namB x) (del d (namB s)).1.fs = hit (namB x) d.fs := fun x hx hxo => del_apart d (fun e => by have := namB_inj hxo hok e; omega)
      cases hi : (hit (namB s) d.fs).2 with
      | true =>
        have hmem := (hh s (Int.le_refl _) hc.1 hok).2 hi
        cases ks with
        | nil => cases hmem
        | cons k ks =>
          have hks : k = s := by
            rcases List.mem_cons.1 hmem with e | e
            · exact e.symm
            · have := List.rel_of_pairwise_cons hp e
              have := (hk k (by simp)).2.1
              omega
          subst hks
          simp only [if_true]
          unfold Wm.drops
          by_cases h0 : (del d (namB k)).2 = 0
          · rw [if_pos h0, if_pos h0]
            refine seq_drops n (k + 1) til ks _ (by omega) (by omega) (List.Pairwise.of_cons hp) (fun x hx => ?_) (fun x hx1 hx2 hxo => ?_)
            · have a := List.rel_of_pairwise_cons hp hx
              obtain ⟨b1, b2, b3⟩ := hk x (by simp [hx])
              exact ⟨b1, by omega, b3⟩
            · rw [hne x hx1 hxo, ← hh x (by omega) hx2 hxo, List.mem_cons]
              exact ⟨.inr, fun h => h.resolve_left (by omega)⟩
          · rw [if_neg h0, if_neg h0]
      | false =>
        simp only [Bool.false_eq_true, if_false]
        refine seq_drops n (s + 1) til ks d (by omega) (by omega) hp (fun x hx => ?_) (fun x hx1 hx2 hxo => hh x (by omega) hx2 hxo)
        obtain ⟨b1, b2, b3⟩ := hk x hx
        refine ⟨b1, ?_, b3⟩
        by_cases e : x = s
        · subst e
          have := (hh x b2 b3 b1).1 hx
          rw [hi] at this; cases this
        · omega
    · rw [if_neg hc]
      cases ks with
      | nil => rfl
      | cons k ks => obtain ⟨a0, a, b⟩ := hk k (by simp); have := a0.2; omega
/-- what wal.Drop does, segment by segment. -/
theorem drops_seq (d : Dk) (fr til : Int) (s : Int) (hs : s = if fr < 1 then 1 else fr) : drops ((prsN d.fs).filter fun k => decide (fr ≤ k ∧ k < til)) d = seqD (til - s).toNat s til d := by
  obtain ⟨h1, h2⟩ := prs_sorted d.fs
  refine (seq_drops _ s til _ d (by split at hs <;> omega) (Nat.le_refl _) (h1.filter _) (fun k hk => ?_) (fun x hx1 hx2 hxo => ?_)).symm
  · obtain ⟨a, b⟩ := List.mem_filter.1 hk
    have c := (h2 k).1 a
    simp only [decide_eq_true_eq] at b
    have := c.1.1
    exact ⟨c.1, by split at hs <;> omega, b.2⟩
  · rw [List.mem_filter, h2]
    simp only [decide_eq_true_eq]
    have : fr ≤ x := by split at hs <;> omega
    exact ⟨fun h => h.1.2, fun h => ⟨⟨hxo, h⟩, this, hx2⟩⟩
end Go.Proofs.YtggbdhnjogalgaaGreatDoor

/- The table of powers of ten: what it holds, and that it stays. -/
namespace Go.Proofs.YtggbdhnjogalgaaGreatDoor
set_option maxRecDepth 100000
open Go.RowKit
set_option linter.unusedVariables false

/-- The library's table of powers of ten reads as it was laid. -/
def Tab (w : World) : Prop := Lib.TabIs Tryz.prog w "internal/strconv.uint64pow10" .u64 Lib.pow10Tab
theorem Tab.q {w w' : World} (h : Tab w) (hq : Q w w') : Tab w' := Lib.tabBelow_of_tabIs h w' hq.below
end Go.Proofs.YtggbdhnjogalgaaGreatDoor

/- Contracts: the document's New, Arm, Same, power, with, less. -/
namespace Go.Proofs.YtggbdhnjogalgaaGreatDoor
set_option maxRecDepth 100000
open Go.RowKit Dkm
set_option linter.unusedVariables false

set_option maxHeartbeats 1000000 in
theorem ref_new_any (room : Int) (w : World) (h : 0 ≤ room) :
    Calls Tryz.prog 14 #[.int .i64 room] w fun e w' => e = .returned (.tuple #[dkv none 0 0 room (-1) false, .int .i64 0]) ∧ Q w w' := by
  go_enter Tryz.func14, Tryz.ntmps14
  go_wp2
  exact bodyPost_ret (v := .tuple #[dkv none 0 0 room (-1) false, .int .i64 0]) (by simp [results, Tryz.results14, go_sem]) rfl ⟨rfl, (Q.refl _).alloc _⟩

theorem ref_power (A : Option Addr) (n c : Nat) (d : Dk) (w : World) (hfu : d.fuse ≤ 9223372036854775807) :
    Calls Tryz.prog 53 #[dkv A n c d.room d.fuse d.off] w fun e w' => e = .returned (.tuple #[dkv A n c (pow d).1.room (pow d).1.fuse (pow d).1.off, .bool (pow d).2]) ∧ Q w w' := by
  obtain ⟨l, room, fuse, off⟩ := d
  simp only at hfu ⊢
  rcases Int.lt_trichotomy fuse 0 with h | h | h
  · rw [pow_neg l room fuse off h]
    have b : (fuse == 0) = false := by simp; omega
    go_enter Tryz.func53, Tryz.ntmps53
    go_wp2
    exact bodyPost_ret (v := .tuple #[dkv A n c room fuse off, .bool true]) (by simp [results, Tryz.results53, go_sem]) rfl ⟨rfl, ((Q.refl _).alloc _).alloc _⟩
  · subst h
    rw [pow_zero l room off]
    go_enter Tryz.func53, Tryz.ntmps53
    go_wp2
    exact bodyPost_ret (v := .tuple #[dkv A n c room 0 true, .bool false]) (by simp [results, Tryz.results53, go_sem]) rfl ⟨rfl, ((Q.refl _).alloc _).alloc _⟩
  · rw [pow_pos l room fuse off h]
    have b : (fuse == 0) = false := by simp; omega
    go_enter Tryz.func53, Tryz.ntmps53
    go_wp2
    exact bodyPost_ret (v := .tuple #[dkv A n c room (fuse - 1) off, .bool true]) (by simp [results, Tryz.results53, go_sem]) rfl ⟨rfl, ((Q.refl _).alloc _).alloc _⟩

set_option maxHeartbeats 2000000 in
theorem ref_same_len (A B : Option Addr) (n c m c2 : Nat) (l l2 : List Fil) (room fuse : Int) (off : Bool) (w : World) (h1 : Files w A n l) (h2 : Files w B n l2) (hn : n ≤ maxLen) :
    Calls Tryz.prog 8 #[dkv A n c room fuse off, dkv B n c2 room fuse off] w fun e w' => e = .returned (.bool (decide (l = l2))) ∧ Q w w' := by
  unfold maxLen at hn
  have H1 := Lib.hid h1
  have H2 := Lib.hid h2
  have L1 := Lib.hid h1.len
  have L2 := Lib.hid h2.len
  clear h1 h2
  have X := Lib.hid (And.intro (Bx.new w [.slice A n c, .int .i64 room, .int .i64 fuse, .bool off] 24) (Bx.new (w.alloc (.cells #[.slice A n c, .int .i64 room, .int .i64 fuse, .bool off] 24)) [.slice B n c2, .int .i64 room, .int .i64 fuse, .bool off] 24))
  rw [World.size_alloc] at X
  go_enter Tryz.func8, Tryz.ntmps8
  go_wp2
  have Y := Lib.hid (And.intro (X.out.1.alloc (.cells #[.slice B n c2, .int .i64 room, .int .i64 fuse, .bool off] 24)) (And.intro X.out.2 (((Q.refl w).alloc (.cells #[.slice A n c, .int .i64 room, .int .i64 fuse, .bool off] 24)).alloc (.cells #[.slice B n c2, .int .i64 room, .int .i64 fuse, .bool off] 24))))
  clear X
  generalize ((w.alloc (.cells #[.slice A n c, .int .i64 room, .int .i64 fuse, .bool off] 24)).alloc (.cells #[.slice B n c2, .int .i64 room, .int .i64 fuse, .bool off] 24)) = W at Y ⊢
  go_loopw [5] (fun i wr => ∃ k : Nat, k ≤ n ∧ i = .int .i64 k ∧ Q W wr ∧ l.take k = l2.take k) (fun i _ => n - (intOf i).toNat)
  case atStart => exact ⟨0, Nat.zero_le _, rfl, Q.refl _, by simp⟩
  case round =>
    obtain ⟨k, hk, rfl, hq, ht⟩ := hrel
    have HT := Lib.hid ht
    have HQ := Lib.hid hq
    clear ht hq
    obtain ⟨⟨e0, e1, e2, e3⟩, _⟩ := (Y.out.1.q HQ.out).get4
    obtain ⟨⟨g0, g1, g2, g3⟩, _⟩ := (Y.out.2.1.q HQ.out).get4
    by_cases hlt : k < n
    · have k1 : k < l.length := by have := L1.out; omega
      have k2 : k < l2.length := by have := L2.out; omega
      obtain ⟨ad, rfl, hb, c0, c1, c3⟩ := (H1.out.q (Y.out.2.2.trans HQ.out)).load hlt k1
      obtain ⟨ae, rfl, he, d0, d1, d2⟩ := (H2.out.q (Y.out.2.2.trans HQ.out)).load hlt k2
      have q4 : (k : Int) < (n : Int) := by omega
      have q5 : 0 ≤ (k : Int) := by omega
      have hne := fun W => neq_file W l[k] l2[k]
      by_cases heq : l[k] = l2[k]
      · have hd : decide (l[k] = l2[k]) = true := by simpa using heq
        have HE := Lib.hid heq
        clear heq
        go_wp2
        go_quiet (fail)
        go_wp2
        exact ⟨⟨k + 1, by omega, by go_num, HQ.out.drewN _, by rw [List.take_succ_eq_append_getElem k1, List.take_succ_eq_append_getElem k2, HT.out, HE.out]⟩, by simp [intOf]; omega⟩
      · have hd : decide (l[k] = l2[k]) = false := by simpa using heq
        have HE := Lib.hid heq
        clear heq
        go_wp2
        go_quiet (fail)
        go_wp2
        go_ret
        exact ⟨ret_bool (by symm; simp only [decide_eq_false_iff_not]; rintro rfl; exact HE.out rfl), Y.out.2.2.trans (HQ.out.drewN _)⟩
    · go_wp2
      go_ret
      exact ⟨ret_bool (by symm; simp only [decide_eq_true_eq]; have h1 := HT.out; rwa [List.take_of_length_le (by have := L1.out; omega), List.take_of_length_le (by have := L2.out; omega)] at h1), Y.out.2.2.trans HQ.out⟩
end Go.Proofs.YtggbdhnjogalgaaGreatDoor

/- Contracts: the document's Same whole, with, less. -/
namespace Go.Proofs.YtggbdhnjogalgaaGreatDoor
set_option maxRecDepth 100000
open Go.RowKit Dkm
set_option linter.unusedVariables false

set_option maxHeartbeats 2000000 in
theorem ref_same_any (A B : Option Addr) (n c m c2 : Nat) (x y : Dk) (w : World) (h1 : Files w A n x.fs) (h2 : Files w B m y.fs) (hn : n ≤ maxLen) (hm : m ≤ maxLen) :
    Calls Tryz.prog 8 #[dkv A n c x.room x.fuse x.off, dkv B m c2 y.room y.fuse y.off] w fun e w' => e = .returned (.bool (sameD x y)) ∧ Q w w' := by
  obtain ⟨l, r1, u1, o1⟩ := x
  obtain ⟨l2, r2, u2, o2⟩ := y
  simp only at h1 h2 ⊢
  by_cases hr : r1 = r2
  · by_cases hu : u1 = u2
    · by_cases ho : o1 = o2
      · by_cases hl : n = m
        · subst hr hu ho hl
          rw [show sameD ⟨l, r1, u1, o1⟩ ⟨l2, r1, u1, o1⟩ = decide (l = l2) by simp [sameD]]
          exact ref_same_len A B n c n c2 l l2 r1 u1 o1 w h1 h2 hn
        · have e : sameD ⟨l, r1, u1, o1⟩ ⟨l2, r2, u2, o2⟩ = false := by
            simp only [sameD, decide_eq_false_iff_not]
            rintro ⟨rfl, _⟩
            exact hl (h1.len.symm.trans h2.len)
          subst hr hu ho
          rw [e]
          have b1 : ((n : Int) != (m : Int)) = true := by simp; omega
          have b2 : (n != m) = true := by simp; omega
          have b3 : (n == m) = false := by simp; omega
          have b4 : ((n : Int) == (m : Int)) = false := by simp; omega
          have b5 : ¬ (n : Int) = m := by omega
          clear h1 h2 hl e
          go_enter Tryz.func8, Tryz.ntmps8
          go_wp2
          go_ret
          exact ⟨rfl, ((Q.refl _).alloc _).alloc _⟩
      · have e : sameD ⟨l, r1, u1, o1⟩ ⟨l2, r2, u2, o2⟩ = false := by simp [sameD, ho]
        subst hr hu
        rw [e]
        have b1 : (o1 != o2) = true := by simpa using ho
        have b2 : (o1 == o2) = false := by simpa using ho
        clear h1 h2 e
        go_enter Tryz.func8, Tryz.ntmps8
        go_wp2
        go_ret
        exact ⟨rfl, ((Q.refl _).alloc _).alloc _⟩
    · have e : sameD ⟨l, r1, u1, o1⟩ ⟨l2, r2, u2, o2⟩ = false := by simp [sameD, hu]
      subst hr
      rw [e]
      have b1 : (u1 != u2) = true := by simpa using hu
      have b2 : (u1 == u2) = false := by simpa using hu
      clear h1 h2 e
      go_enter Tryz.func8, Tryz.ntmps8
      go_wp2
      go_ret
      exact ⟨rfl, ((Q.refl _).alloc _).alloc _⟩
  · have e : sameD ⟨l, r1, u1, o1⟩ ⟨l2, r2, u2, o2⟩ = false := by simp [sameD, hr]
    rw [e]
    have b1 : (r1 != r2) = true := by simpa using hr
    have b2 : (r1 == r2) = false := by simpa using hr
    clear h1 h2 e
    go_enter Tryz.func8, Tryz.ntmps8
    go_wp2
    go_ret
    exact ⟨rfl, ((Q.refl _).alloc _).alloc _⟩

theorem Bx.far3 {w : World} {b c k : Nat} {vs : List Value} (h : Bx w b vs) (hc : c ≠ b) (x y z : Value) : Bx (((w.setCell ⟨c, k * 3, none⟩ x).setCell ⟨c, k * 3 + 1, none⟩ y).setCell ⟨c, k * 3 + 2, none⟩ z) b vs :=
  ((h.far (p := ⟨c, k * 3, none⟩) hc x).far (p := ⟨c, k * 3 + 1, none⟩) hc y).far (p := ⟨c, k * 3 + 2, none⟩) hc z
theorem Q.set3g {a w : World} {k : Nat} (h : Q a w) {b : Nat} (hb : a.heap.size ≤ b) (x y z : Value) : Q a (((w.setCell ⟨b, k * 3, none⟩ x).setCell ⟨b, k * 3 + 1, none⟩ y).setCell ⟨b, k * 3 + 2, none⟩ z) :=
  ((h.setCell (p := ⟨b, k * 3, none⟩) hb x).setCell (p := ⟨b, k * 3 + 1, none⟩) hb y).setCell (p := ⟨b, k * 3 + 2, none⟩) hb z

set_option maxHeartbeats 2000000 in
theorem ref_with (A : Option Addr) (n c : Nat) (room fuse : Int) (off : Bool) (k : Nat) (f : Fil) (l : List Fil) (w : World) (hd : Dsk w A n c l) (hk : k < n) :
    Calls Tryz.prog 68 #[dkv A n c room fuse off, .int .i64 k, f.val] w fun e w' => RetOwnD w n room fuse off (l.set k f) e w' := by
  have HD := Lib.hid hd
  have hnm := hd.max
  unfold maxLen at hnm
  clear hd
  obtain ⟨a, b, d⟩ := f
  have q4 : (k : Int) < (n : Int) := by omega
  have q5 : 0 ≤ (k : Int) := by omega
  go_enter Tryz.func68, Tryz.ntmps68
  go_upto_region 1 with (fail)
  have X := Lib.hid (And.intro (Bx.new w [.slice A n c, .int .i64 room, .int .i64 fuse, .bool off] 24) (And.intro (Bx.new (w.alloc (.cells #[.slice A n c, .int .i64 room, .int .i64 fuse, .bool off] 24)) [.string a, .string b, .string d] 42) (Bx.new ((w.alloc (.cells #[.slice A n c, .int .i64 room, .int .i64 fuse, .bool off] 24)).alloc (.cells #[.string a, .string b, .string d] 42)) [.slice none 0 0, .int .i64 0, .int .i64 0, .bool false] 24)))
  simp only [World.size_alloc] at X
  have Y := Lib.hid (And.intro ((X.out.1.alloc (.cells #[.string a, .string b, .string d] 42)).alloc (.cells #[.slice none 0 0, .int .i64 0, .int .i64 0, .bool false] 24)) (And.intro (X.out.2.1.alloc (.cells #[.slice none 0 0, .int .i64 0, .int .i64 0, .bool false] 24)) (And.intro X.out.2.2 ((((Q.refl w).alloc (.cells #[.slice A n c, .int .i64 room, .int .i64 fuse, .bool off] 24)).alloc (.cells #[.string a, .string b, .string d] 42)).alloc (.cells #[.slice none 0 0, .int .i64 0, .int .i64 0, .bool false] 24)))))
  clear X
  generalize (((w.alloc (.cells #[.slice A n c, .int .i64 room, .int .i64 fuse, .bool off] 24)).alloc (.cells #[.string a, .string b, .string d] 42)).alloc (.cells #[.slice none 0 0, .int .i64 0, .int .i64 0, .bool false] 24)) = W at Y ⊢
  obtain ⟨⟨e0, e1, e2, e3⟩, _⟩ := Y.out.1.get4
  have z0 : w.heap.size < W.heap.size := Y.out.1.lt
  have z1 : w.heap.size ≠ W.heap.size := by omega
  go_upto_region 2 with (at_builtin
                         refine wpl_app rfl (.tmp 8) (.tmp 10) rfl W.heap.size (some ⟨W.heap.size, 0, none⟩) 0 0 [] rfl (own_lit0 W _ (Nat.le_refl _)) A n c l rfl (HD.out.files.q (Y.out.2.2.2.alloc _)) HD.out.nil (by have := HD.out.few; omega) (by simp) ?_
                         intro A1 c1 w1 ho1 hb1)
  rw [Nat.zero_add, List.nil_append] at ho1
  obtain ⟨g, rfl, hg⟩ : ∃ g, A1 = some ⟨g, 0, none⟩ ∧ W.heap.size ≤ g := by
    rcases ho1.parts with ⟨_, e, _⟩ | ⟨g, cur, rfl, hb, _⟩
    · omega
    · exact ⟨g, rfl, hb⟩
  have z2 : w.heap.size + 1 < W.heap.size := Y.out.2.1.lt
  have z3 : w.heap.size + 1 + 1 < W.heap.size := Y.out.2.2.1.lt
  have D1 := (Y.out.1.alloc (.cells #[] 42)).below hb1 z0
  have F1 := (Y.out.2.1.alloc (.cells #[] 42)).below hb1 z2
  have R1 := (Y.out.2.2.1.alloc (.cells #[] 42)).below hb1 z3
  have Q1 : Q w w1 := (Y.out.2.2.2.alloc (.cells #[] 42)).below.trans (hb1.mono (by have := Y.out.2.2.2.size; omega))
  have hkl : k < l.length := by have := ho1.len; omega
  obtain ⟨c0, c1', c2, gw⟩ := own_file ho1 hkl
  have w0 : w1.frozen? ⟨g, k * 3, none⟩ = false := World.ownsRow.frozenAt ho1 _
  have w1' : w1.frozen? ⟨g, k * 3 + 1, none⟩ = false := World.ownsRow.frozenAt ho1 _
  have w2' : w1.frozen? ⟨g, k * 3 + 2, none⟩ = false := World.ownsRow.frozenAt ho1 _
  have n0 : g ≠ w.heap.size := by omega
  have n1 : g ≠ w.heap.size + 1 + 1 := by omega
  have Z := Lib.hid (And.intro (show Own (((w1.setCell ⟨g, k * 3, none⟩ (.string a)).setCell ⟨g, k * 3 + 1, none⟩ (.string b)).setCell ⟨g, k * 3 + 2, none⟩ (.string d)) W.heap.size (some ⟨g, 0, none⟩) n c1 (l.set k ⟨a, b, d⟩) from (ho1.set3 hk ⟨a, b, d⟩).1) (And.intro (D1.far3 (k := k) n0 (.string a) (.string b) (.string d)) (And.intro (R1.far3 (k := k) n1 (.string a) (.string b) (.string d)) (Q1.set3g (k := k) (b := g) (by have := Y.out.2.2.2.size; omega) (.string a) (.string b) (.string d)))))
  clear e0 e1 e2 e3 ho1 hb1 D1 R1 Q1
  obtain ⟨⟨x0, x1, x2⟩, _⟩ := F1.get3
  clear F1
  go_upto_region 3 with (fail)
  generalize (((w1.setCell ⟨g, k * 3, none⟩ (.string a)).setCell ⟨g, k * 3 + 1, none⟩ (.string b)).setCell ⟨g, k * 3 + 2, none⟩ (.string d)) = w2 at Z ⊢
  clear x0 x1 x2 c0 c1' c2 w0 w1' w2' gw
  obtain ⟨O2, D2, R2, Q2⟩ := Z.out
  obtain ⟨⟨e0, e1, e2, e3⟩, f0, f1, f2, f3⟩ := D2.get4
  obtain ⟨⟨s0, s1, s2, s3⟩, h0, h1, h2, h3⟩ := R2.get4
  clear O2 D2 R2 Q2
  go_wp2
  refine bodyPost_ret (v := dkv (some ⟨g, 0, none⟩) n c1 room fuse off) (by simp [results, Tryz.results68, go_sem, s0, s1, s2, s3]) rfl ⟨some ⟨g, 0, none⟩, c1, rfl, ?_, ?_⟩
  · exact ((Z.out.1.setCell (p := ⟨w.heap.size, 0, none⟩) z0 _).set4 (b := w.heap.size + 1 + 1) z3 _ _ _ _).lower (by omega)
  · exact (Z.out.2.2.2.setCell (p := ⟨w.heap.size, 0, none⟩) (Nat.le_refl _) _).set4 (b := w.heap.size + 1 + 1) (by omega) _ _ _ _

theorem wrap_two (r : Int) (a b : Nat) : wrap64 (wrap64 (r + a) + b) = wrap64 (r + ((a + b : Nat) : Int)) := by unfold wrap64; omega
theorem files_take {w : World} {A : Option Addr} {n : Nat} {l : List Fil} (h : Files w A n l) {k : Nat} (hk : k ≤ n) : Files w A k (l.take k) := by
  have hl := h.len
  refine ⟨by rw [rows_length, List.length_take]; omega, fun j u hu => ?_⟩
  rw [rows_take, List.getElem?_take] at hu
  split at hu
  · exact h.2 j u hu
  · cases hu
theorem files_drop {w : World} {ad : Addr} {n : Nat} {l : List Fil} (h : Files w (some ad) n l) {k : Nat} (hk : k ≤ n) : Files w (some (ad.add (k * 3))) (n - k) (l.drop k) := by
  have hl := h.len
  refine ⟨by rw [rows_length, List.length_drop]; omega, fun j u hu => ?_⟩
  rw [rows_drop, List.getElem?_drop] at hu
  obtain ⟨ad', e, hb, hc⟩ := h.2 _ u hu
  injection e with e
  subst e
  exact ⟨_, rfl, by rw [addr_block]; exact hb, by rw [addr_add]; exact hc⟩

set_option maxHeartbeats 2000000 in
theorem ref_less0 (ad : Addr) (n c : Nat) (room fuse : Int) (off : Bool) (k : Nat) (l : List Fil) (w : World) (hd : Dsk w (some ad) n c l) (hk : k < n) (hkl : k < l.length) (hs : l[k].sf.size + l[k].wt.size ≤ maxLen) (room2 : Int) (hR : wrap64 (wrap64 (room + (l[k].sf.size : Int)) + (l[k].wt.size : Int)) = room2) :
    Calls Tryz.prog 54 #[dkv (some ad) n c room fuse off, .int .i64 k] w fun e w' => RetOwnD w (n - 1) room2 fuse off (l.eraseIdx k) e w' := by
  have HR := Lib.hid hR
  clear hR
  have HD := Lib.hid hd
  have hnm := hd.max
  have hcap := hd.cap
  have hle := hd.le
  unfold maxLen at hnm hs hcap
  clear hd
  have q4 : (k : Int) < (n : Int) := by omega
  have q5 : 0 ≤ (k : Int) := by omega
  have q6 : (k : Int) + 1 ≤ (n : Int) := by omega
  have q7 : 0 ≤ (k : Int) + 1 := by omega
  have q8 : (k : Int) ≤ (c : Int) := by omega
  have q9 : k ≤ c := by omega
  have q10 : k + 1 ≤ n := by omega
  go_enter Tryz.func54, Tryz.ntmps54
  go_upto_region 1 with (fail)
  have B0 := two_new w (.slice (some ad) n c) (.int .i64 room) (.int .i64 fuse) (.bool off) (.slice none 0 0) (.int .i64 0) (.int .i64 0) (.bool false) 24
  have Y := Lib.hid (And.intro B0.1 (And.intro B0.2 (((Q.refl w).alloc (.cells #[.slice (some ad) n c, .int .i64 room, .int .i64 fuse, .bool off] 24)).alloc (.cells #[.slice none 0 0, .int .i64 0, .int .i64 0, .bool false] 24))))
  clear B0
  generalize ((w.alloc (.cells #[.slice (some ad) n c, .int .i64 room, .int .i64 fuse, .bool off] 24)).alloc (.cells #[.slice none 0 0, .int .i64 0, .int .i64 0, .bool false] 24)) = W at Y ⊢
  obtain ⟨⟨e0, e1, e2, e3⟩, f0, f1, f2, f3⟩ := Y.out.1.get4
  obtain ⟨ad', e, hb, c0, c1, c2⟩ := (HD.out.files.q Y.out.2.2).load hk hkl
  injection e with e
  subst e
  go_wp2
  go_region
  rw [HR.out]
  have Z := Lib.hid (And.intro ((Y.out.1.set (k := 1) (by simp) (.int .i64 room2)).drew) (And.intro ((Y.out.2.1.far (p := ⟨w.heap.size, 1, none⟩) (by simp) (.int .i64 room2)).drew) ((Y.out.2.2.setCell (p := ⟨w.heap.size, 1, none⟩) (Nat.le_refl _) (.int .i64 room2)).drew)))
  clear e0 e1 e2 e3 f0 f1 f2 f3 c0 c1 c2 hb Y
  generalize (W.setCell ⟨w.heap.size, 1, none⟩ (.int .i64 room2)).drew = W2 at Z ⊢
  obtain ⟨⟨e0, e1, e2, e3⟩, _⟩ := Z.out.1.get4
  have z0 : w.heap.size < W2.heap.size := Z.out.1.lt
  have z1 : w.heap.size + 1 < W2.heap.size := Z.out.2.1.lt
  have z2 : w.heap.size ≠ W2.heap.size := by omega
  have hfew := HD.out.few
  have hlen := HD.out.len
  go_upto_region 3 with (at_builtin
                         refine wpl_app rfl (.tmp 25) (.tmp 29) rfl W2.heap.size (some ⟨W2.heap.size, 0, none⟩) 0 0 [] rfl (own_lit0 W2 _ (Nat.le_refl _)) (some ad) k c (l.take k) rfl (files_take (HD.out.files.q (Z.out.2.2.alloc _)) (by omega)) (fun e => by cases e) (by omega) (by simp) ?_
                         intro A1 c1 w1 ho1 hb1)
  rw [Nat.zero_add, List.nil_append] at ho1
  have D1 := (Z.out.1.alloc (.cells #[] 42)).below hb1 z0
  have R1 := (Z.out.2.1.alloc (.cells #[] 42)).below hb1 z1
  have Q1 : Q w w1 := (Z.out.2.2.alloc (.cells #[] 42)).below.trans (hb1.mono Z.out.2.2.size)
  have s1 : W2.heap.size ≤ w1.heap.size := by have := hb1.size; simp at this; omega
  have V := Lib.hid (And.intro ho1 (And.intro D1 (And.intro R1 Q1)))
  clear e0 e1 e2 e3 hb1 ho1 R1 Q1
  obtain ⟨⟨e0, e1, e2, e3⟩, f0, f1, f2, f3⟩ := D1.get4
  clear D1
  by_cases hck : c = k + 1
  · have e : n = k + 1 := by omega
    subst e
    subst hck
    go_upto_region 4 with (at_builtin
                           refine wpl_app rfl (.tmp 31) (.tmp 36) rfl W2.heap.size A1 k c1 (l.take k) rfl V.out.1 (some ad) 0 0 [] rfl (Holds.none_ _ _ _ _) (fun e => by cases e) (by omega) s1 ?_
                           intro A3 c3 w3 ho3 hb3
                           obtain ⟨⟨x0, x1, x2, x3⟩, y0, y1, y2, y3⟩ := (V.out.2.1.below hb3 z0).get4)
    rw [Nat.add_zero, List.append_nil, show l.take k = l.eraseIdx k by rw [List.eraseIdx_eq_take_drop_succ, List.drop_eq_nil_of_le (by omega), List.append_nil]] at ho3
    have n1 : w.heap.size + 1 < W2.heap.size := z1
    have U := Lib.hid (And.intro (ho3.setCell (p := ⟨w.heap.size, 0, none⟩) z0 (.slice A3 k c3)) (And.intro ((V.out.2.1.below hb3 z0).set (k := 0) (by simp) (.slice A3 k c3)) (And.intro ((V.out.2.2.1.below hb3 z1).far (p := ⟨w.heap.size, 0, none⟩) (by simp) (.slice A3 k c3)) ((show Q w w3 from V.out.2.2.2.below.trans (hb3.mono Z.out.2.2.size)).setCell (p := ⟨w.heap.size, 0, none⟩) (Nat.le_refl _) (.slice A3 k c3)))))
    clear ho3 hb3 x0 x1 x2 x3 y0 y1 y2 y3 e0 e1 e2 e3 f0 f1 f2 f3
    generalize w3.setCell ⟨w.heap.size, 0, none⟩ (.slice A3 k c3) = w4 at U ⊢
    obtain ⟨O4, D4, R4, Q4⟩ := U.out
    obtain ⟨⟨e0, e1, e2, e3⟩, _⟩ := Bx.get4 (x := .slice A3 k c3) (y := .int .i64 room2) (z := .int .i64 fuse) (u := .bool off) D4
    obtain ⟨⟨t0, t1, t2, t3⟩, h0, h1, h2, h3⟩ := R4.get4
    clear O4 D4 R4 Q4
    go_wp2
    refine bodyPost_ret (v := dkv A3 k c3 room2 fuse off) (by simp [results, Tryz.results54, go_sem, t0, t1, t2, t3]) rfl ⟨A3, c3, rfl, ?_, ?_⟩
    · exact (U.out.1.set4 (b := w.heap.size + 1) z1 _ _ _ _).lower (by omega)
    · exact U.out.2.2.2.set4 (b := w.heap.size + 1) (by omega) _ _ _ _
  · go_upto_region 4 with (at_builtin
                           refine wpl_app rfl (.tmp 31) (.tmp 36) rfl W2.heap.size A1 k c1 (l.take k) rfl V.out.1 (some (ad.add ((k + 1) * 3))) (n - (k + 1)) (c - (k + 1)) (l.drop (k + 1)) rfl (files_drop (HD.out.files.q V.out.2.2.2) (by omega)) (fun e => by cases e) (by omega) s1 ?_
                           intro A3 c3 w3 ho3 hb3
                           obtain ⟨⟨x0, x1, x2, x3⟩, y0, y1, y2, y3⟩ := (V.out.2.1.below hb3 z0).get4)
    have ek : k + (n - (k + 1)) = n - 1 := by omega
    rw [ek, ← List.eraseIdx_eq_take_drop_succ] at ho3
    rw [ek]
    have n1 : w.heap.size + 1 < W2.heap.size := z1
    have U := Lib.hid (And.intro (ho3.setCell (p := ⟨w.heap.size, 0, none⟩) z0 (.slice A3 (n - 1) c3)) (And.intro ((V.out.2.1.below hb3 z0).set (k := 0) (by simp) (.slice A3 (n - 1) c3)) (And.intro ((V.out.2.2.1.below hb3 z1).far (p := ⟨w.heap.size, 0, none⟩) (by simp) (.slice A3 (n - 1) c3)) ((show Q w w3 from V.out.2.2.2.below.trans (hb3.mono Z.out.2.2.size)).setCell (p := ⟨w.heap.size, 0, none⟩) (Nat.le_refl _) (.slice A3 (n - 1) c3)))))
    clear ho3 hb3 x0 x1 x2 x3 y0 y1 y2 y3 e0 e1 e2 e3 f0 f1 f2 f3
    generalize w3.setCell ⟨w.heap.size, 0, none⟩ (.slice A3 (n - 1) c3) = w4 at U ⊢
    obtain ⟨O4, D4, R4, Q4⟩ := U.out
    obtain ⟨⟨e0, e1, e2, e3⟩, _⟩ := Bx.get4 (x := .slice A3 (n - 1) c3) (y := .int .i64 room2) (z := .int .i64 fuse) (u := .bool off) D4
    obtain ⟨⟨t0, t1, t2, t3⟩, h0, h1, h2, h3⟩ := R4.get4
    clear O4 D4 R4 Q4
    go_wp2
    refine bodyPost_ret (v := dkv A3 (n - 1) c3 room2 fuse off) (by simp [results, Tryz.results54, go_sem, t0, t1, t2, t3]) rfl ⟨A3, c3, rfl, ?_, ?_⟩
    · exact (U.out.1.set4 (b := w.heap.size + 1) z1 _ _ _ _).lower (by omega)
    · exact U.out.2.2.2.set4 (b := w.heap.size + 1) (by omega) _ _ _ _

theorem ref_less (ad : Addr) (n c : Nat) (room fuse : Int) (off : Bool) (k : Nat) (l : List Fil) (w : World) (hd : Dsk w (some ad) n c l) (hk : k < n) (hkl : k < l.length) (hs : l[k].sf.size + l[k].wt.size ≤ maxLen) :
    Calls Tryz.prog 54 #[dkv (some ad) n c room fuse off, .int .i64 k] w fun e w' => RetOwnD w (n - 1) (wrap64 (room + ((l[k].sf.size + l[k].wt.size : Nat) : Int))) fuse off (l.eraseIdx k) e w' :=
  ref_less0 ad n c room fuse off k l w hd hk hkl hs _ (wrap_two _ _ _)
end Go.Proofs.YtggbdhnjogalgaaGreatDoor

/- Contracts: the document's Delete. -/
namespace Go.Proofs.YtggbdhnjogalgaaGreatDoor
set_option maxRecDepth 100000
open Go.RowKit Dkm
set_option linter.unusedVariables false

/-- a disk, and why not. -/
def RetDK (w : World) (A0 : Option Addr) (n0 : Nat) (d : Dk) (er : Int) (e : Ending) (w' : World) : Prop :=
  ∃ A' n' c', e = .returned (.tuple #[dkv A' n' c' d.room d.fuse d.off, .int .i64 er]) ∧ Dsk w' A' n' c' d.fs ∧ (A' = A0 ∧ n' = n0 ∨ ∀ ad, A' = some ad → w.heap.size ≤ ad.block) ∧ Q w w'
/-- the boxes of a call: the variable's, the result's. -/
structure Sb (w : World) (A : Option Addr) (n c : Nat) (room fuse : Int) (off : Bool) (wr : World) : Prop where
  box : Bx wr w.heap.size [.slice A n c, .int .i64 room, .int .i64 fuse, .bool off]
  res : Bx wr (w.heap.size + 1) [.slice none 0 0, .int .i64 0, .int .i64 0, .bool false]
  q : Q w wr
theorem Sb.new (w : World) (A : Option Addr) (n c : Nat) (room fuse : Int) (off : Bool) : Sb w A n c room fuse off ((w.alloc (.cells #[.slice A n c, .int .i64 room, .int .i64 fuse, .bool off] 24)).alloc (.cells #[.slice none 0 0, .int .i64 0, .int .i64 0, .bool false] 24)) :=
  ⟨(two_new w (.slice A n c) (.int .i64 room) (.int .i64 fuse) (.bool off) (.slice none 0 0) (.int .i64 0) (.int .i64 0) (.bool false) 24).1, (two_new w (.slice A n c) (.int .i64 room) (.int .i64 fuse) (.bool off) (.slice none 0 0) (.int .i64 0) (.int .i64 0) (.bool false) 24).2, ((Q.refl w).alloc _).alloc _⟩
section
variable {w wr : World} {A : Option Addr} {n c : Nat} {room fuse : Int} {off : Bool}
theorem Sb.step {w2 : World} (h : Sb w A n c room fuse off wr) (q : Q wr w2) : Sb w A n c room fuse off w2 := ⟨h.box.q q, h.res.q q, h.q.trans q⟩
theorem Sb.put4 (h : Sb w A n c room fuse off wr) (A2 : Option Addr) (n2 c2 : Nat) (room2 fuse2 : Int) (off2 : Bool) :
    Sb w A2 n2 c2 room2 fuse2 off2 ((((wr.setCell ⟨w.heap.size, 0, none⟩ (.slice A2 n2 c2)).setCell ⟨w.heap.size, 1, none⟩ (.int .i64 room2)).setCell ⟨w.heap.size, 2, none⟩ (.int .i64 fuse2)).setCell ⟨w.heap.size, 3, none⟩ (.bool off2)) :=
  ⟨h.box.put4 _ _ _ _, h.res.far4 (c := w.heap.size) (by omega) _ _ _ _, h.q.set4 (b := w.heap.size) (Nat.le_refl _) _ _ _ _⟩
theorem Sb.get (h : Sb w A n c room fuse off wr) : ((wr.cell? ⟨w.heap.size, 0, none⟩ = some (.slice A n c) ∧ wr.cell? ⟨w.heap.size, 1, none⟩ = some (.int .i64 room) ∧ wr.cell? ⟨w.heap.size, 2, none⟩ = some (.int .i64 fuse) ∧ wr.cell? ⟨w.heap.size, 3, none⟩ = some (.bool off)) ∧
    wr.frozen? ⟨w.heap.size, 0, none⟩ = false ∧ wr.frozen? ⟨w.heap.size, 1, none⟩ = false ∧ wr.frozen? ⟨w.heap.size, 2, none⟩ = false ∧ wr.frozen? ⟨w.heap.size, 3, none⟩ = false) := h.box.get4
theorem Sb.getR (h : Sb w A n c room fuse off wr) : ((wr.cell? ⟨w.heap.size + 1, 0, none⟩ = some (.slice none 0 0) ∧ wr.cell? ⟨w.heap.size + 1, 1, none⟩ = some (.int .i64 0) ∧ wr.cell? ⟨w.heap.size + 1, 2, none⟩ = some (.int .i64 0) ∧ wr.cell? ⟨w.heap.size + 1, 3, none⟩ = some (.bool false)) ∧
    wr.frozen? ⟨w.heap.size + 1, 0, none⟩ = false ∧ wr.frozen? ⟨w.heap.size + 1, 1, none⟩ = false ∧ wr.frozen? ⟨w.heap.size + 1, 2, none⟩ = false ∧ wr.frozen? ⟨w.heap.size + 1, 3, none⟩ = false) := h.res.get4
theorem Sb.endK (h : Sb w A n c room fuse off wr) {l : List Fil} (hd : Dsk w A n c l) (er : Int) (x y z u : Value) : RetDK w A n ⟨l, room, fuse, off⟩ er (.returned (.tuple #[dkv A n c room fuse off, .int .i64 er])) ((((wr.setCell ⟨w.heap.size + 1, 0, none⟩ x).setCell ⟨w.heap.size + 1, 1, none⟩ y).setCell ⟨w.heap.size + 1, 2, none⟩ z).setCell ⟨w.heap.size + 1, 3, none⟩ u) :=
  ⟨A, n, c, rfl, hd.q (h.q.set4 (b := w.heap.size + 1) (by omega) _ _ _ _), .inl ⟨rfl, rfl⟩, h.q.set4 (b := w.heap.size + 1) (by omega) _ _ _ _⟩
theorem Sb.endO (h : Sb w A n c room fuse off wr) {w2 : World} (q : Q wr w2) {A2 : Option Addr} {n2 c2 : Nat} {d : Dk} (ho : Own w2 wr.heap.size A2 n2 c2 d.fs) (hn : n2 * 48 ≤ 140737488355328) {A0 : Option Addr} {n0 : Nat} (er : Int) (x y z u : Value) : RetDK w A0 n0 d er (.returned (.tuple #[dkv A2 n2 c2 d.room d.fuse d.off, .int .i64 er])) ((((w2.setCell ⟨w.heap.size + 1, 0, none⟩ x).setCell ⟨w.heap.size + 1, 1, none⟩ y).setCell ⟨w.heap.size + 1, 2, none⟩ z).setCell ⟨w.heap.size + 1, 3, none⟩ u) :=
  ⟨A2, n2, c2, rfl, (ho.set4 h.res.lt _ _ _ _).dsk hn, .inr (fun ad e => by
    have h2 := h.q.size
    rcases ho.2 with ⟨e', _⟩ | ⟨g, cap, cur, e', hb, _⟩
    · simp only [Value.slice.injEq] at e'; rw [e'.1] at e; cases e
    · simp only [Value.slice.injEq] at e'; rw [e'.1] at e; injection e with e; subst e; simp only; omega), (h.q.trans q).set4 (b := w.heap.size + 1) (by omega) _ _ _ _⟩
end

set_option maxHeartbeats 1000000 in
theorem ref_del_off (nm : ByteArray) (A : Option Addr) (n c : Nat) (room fuse : Int) (l : List Fil) (w : World) (hd : Dsk w A n c l) :
    Calls Tryz.prog 29 #[dkv A n c room fuse true, .string nm] w fun e w' => RetDK w A n ⟨l, room, fuse, true⟩ 6 e w' := by
  have HD := Lib.hid hd
  clear hd
  go_enter Tryz.func29, Tryz.ntmps29
  go_wp2
  refine bodyPost_ret (v := .tuple #[dkv A n c room fuse true, .int .i64 6]) (by simp [results, Tryz.results29, go_sem]) rfl ?_
  exact ⟨A, n, c, rfl, HD.out.q (((Q.refl _).alloc _).alloc _), .inl ⟨rfl, rfl⟩, ((Q.refl _).alloc _).alloc _⟩

set_option maxHeartbeats 1000000 in
theorem ref_del_none (nm : ByteArray) (A : Option Addr) (n c : Nat) (room fuse : Int) (l : List Fil) (w : World) (hd : Dsk w A n c l) (p : Int) (hp : plc nm l 0 = p) (h0 : p < 0) :
    Calls Tryz.prog 29 #[dkv A n c room fuse false, .string nm] w fun e w' => RetDK w A n ⟨l, room, fuse, false⟩ 7 e w' := by
  have HD := Lib.hid hd
  have HP := Lib.hid hp
  clear hd hp
  have S0 := Lib.hid (Sb.new w A n c room fuse false)
  go_enter Tryz.func29, Tryz.ntmps29
  go_wp2_with fail
  refine (ref_at nm A n c room fuse false l _ (HD.out.files.q S0.out.q) HD.out.max).mono ?_
  rw [HP.out]
  rintro e w1 ⟨rfl, q1⟩
  have S1 := Lib.hid (S0.out.step q1)
  clear S0 q1
  obtain ⟨⟨e0, e1, e2, e3⟩, f0, f1, f2, f3⟩ := S1.out.get
  obtain ⟨⟨s0, s1, s2, s3⟩, h0', h1, h2, h3⟩ := S1.out.getR
  go_wp2
  refine bodyPost_ret (v := .tuple #[dkv A n c room fuse false, .int .i64 7]) (by simp [results, Tryz.results29, go_sem, s0, s1, s2, s3]) rfl ?_
  exact S1.out.endK HD.out 7 _ _ _ _

set_option maxHeartbeats 2000000 in
theorem ref_del_dead (nm : ByteArray) (A : Option Addr) (n c : Nat) (room : Int) (l : List Fil) (w : World) (hd : Dsk w A n c l) (k : Nat) (hp : plc nm l 0 = k) :
    Calls Tryz.prog 29 #[dkv A n c room 0 false, .string nm] w fun e w' => RetDK w A n ⟨l, room, 0, true⟩ 6 e w' := by
  have HD := Lib.hid hd
  have HP := Lib.hid hp
  clear hd hp
  have S0 := Lib.hid (Sb.new w A n c room 0 false)
  go_enter Tryz.func29, Tryz.ntmps29
  go_wp2_with fail
  refine (ref_at nm A n c room 0 false l _ (HD.out.files.q S0.out.q) HD.out.max).mono ?_
  rw [HP.out]
  rintro e w1 ⟨rfl, q1⟩
  have S1 := Lib.hid (S0.out.step q1)
  clear S0 q1
  obtain ⟨⟨e0, e1, e2, e3⟩, f0, f1, f2, f3⟩ := S1.out.get
  go_wp2_with fail
  have k2 := ref_power A n c ⟨l, room, 0, false⟩ w1 (by simp)
  rw [pow_zero] at k2
  refine k2.mono ?_
  clear k2
  rintro e w2 ⟨rfl, q2⟩
  have S2 := Lib.hid ((S1.out.step q2).put4 A n c room 0 true)
  have P2 := S1.out.step q2
  clear S1 q2 e0 e1 e2 e3 f0 f1 f2 f3
  obtain ⟨⟨e0, e1, e2, e3⟩, f0, f1, f2, f3⟩ := P2.get
  clear P2
  go_upto_region 6 with (fail)
  generalize ((((w2.setCell ⟨w.heap.size, 0, none⟩ (.slice A n c)).setCell ⟨w.heap.size, 1, none⟩ (.int .i64 room)).setCell ⟨w.heap.size, 2, none⟩ (.int .i64 0)).setCell ⟨w.heap.size, 3, none⟩ (.bool true)) = w3 at S2 ⊢
  clear e0 e1 e2 e3 f0 f1 f2 f3
  obtain ⟨⟨e0, e1, e2, e3⟩, f0, f1, f2, f3⟩ := S2.out.get
  obtain ⟨⟨s0, s1, s2, s3⟩, h0', h1, h2, h3⟩ := S2.out.getR
  go_wp2
  refine bodyPost_ret (v := .tuple #[dkv A n c room 0 true, .int .i64 6]) (by simp [results, Tryz.results29, go_sem, s0, s1, s2, s3]) rfl ?_
  exact S2.out.endK HD.out 6 _ _ _ _

set_option maxHeartbeats 2000000 in
theorem ref_del_yes (nm : ByteArray) (A : Option Addr) (n c : Nat) (room fuse : Int) (l : List Fil) (w : World) (hd : Dsk w A n c l) (hfu : fuse ≤ 9223372036854775807) (k : Nat) (hk : k < l.length) (hp : plc nm l 0 = k) (f2 : Int) (hpw : pow ⟨l, room, fuse, false⟩ = (⟨l, room, f2, false⟩, true)) (hs : l[k].sf.size + l[k].wt.size ≤ maxLen) (room2 : Int) (hR : wrap64 (room + ((l[k].sf.size + l[k].wt.size : Nat) : Int)) = room2) :
    Calls Tryz.prog 29 #[dkv A n c room fuse false, .string nm] w fun e w' => RetDK w A n ⟨l.eraseIdx k, room2, f2, false⟩ 0 e w' := by
  have hkn : k < n := by have := hd.len; omega
  obtain ⟨ad, rfl⟩ : ∃ ad, A = some ad := by
    cases A with
    | none => have := hd.nil rfl; omega
    | some ad => exact ⟨ad, rfl⟩
  have HD := Lib.hid hd
  have HP := Lib.hid hp
  have HW := Lib.hid hpw
  have HS := Lib.hid hs
  have HR := Lib.hid hR
  have hfew := hd.few
  clear hd hp hpw hs hR
  have S0 := Lib.hid (Sb.new w (some ad) n c room fuse false)
  go_enter Tryz.func29, Tryz.ntmps29
  go_wp2_with fail
  refine (ref_at nm (some ad) n c room fuse false l _ (HD.out.files.q S0.out.q) HD.out.max).mono ?_
  rw [HP.out]
  rintro e w1 ⟨rfl, q1⟩
  have S1 := Lib.hid (S0.out.step q1)
  clear S0 q1
  obtain ⟨⟨e0, e1, e2, e3⟩, f0, f1, f2', f3⟩ := S1.out.get
  go_wp2_with fail
  have k2 := ref_power (some ad) n c ⟨l, room, fuse, false⟩ w1 hfu
  rw [HW.out] at k2
  refine k2.mono ?_
  clear k2
  rintro e w2 ⟨rfl, q2⟩
  have S2 := Lib.hid ((S1.out.step q2).put4 (some ad) n c room f2 false)
  have P2 := S1.out.step q2
  clear S1 q2 e0 e1 e2 e3 f0 f1 f2' f3
  obtain ⟨⟨e0, e1, e2, e3⟩, f0, f1, f2', f3⟩ := P2.get
  clear P2
  go_upto_region 6 with (fail)
  generalize ((((w2.setCell ⟨w.heap.size, 0, none⟩ (.slice (some ad) n c)).setCell ⟨w.heap.size, 1, none⟩ (.int .i64 room)).setCell ⟨w.heap.size, 2, none⟩ (.int .i64 f2)).setCell ⟨w.heap.size, 3, none⟩ (.bool false)) = W at S2 ⊢
  clear e0 e1 e2 e3 f0 f1 f2' f3
  obtain ⟨⟨e0, e1, e2, e3⟩, f0, f1, f2', f3⟩ := S2.out.get
  go_wp2
  go_region_held3 (fun w' => w'.cell? ⟨w.heap.size, 0, none⟩ = some (.slice (some ad) n c) ∧ w'.cell? ⟨w.heap.size, 1, none⟩ = some (.int .i64 room) ∧ w'.cell? ⟨w.heap.size, 2, none⟩ = some (.int .i64 f2) ∧ w'.cell? ⟨w.heap.size, 3, none⟩ = some (.bool false))
    (first
      | go_keep
      | (go_split_ands
         (repeat' apply And.intro) <;> exact box_ ‹Q _ _› (by assumption)))
    (first
      | (go_at_call 30
         refine (ref_at nm (some ad) n c room f2 false l _ (HD.out.files.q S2.out.q.drew) HD.out.max).mono ?_
         rw [HP.out]
         rintro e w4 ⟨rfl, q4⟩)
      | (go_at_call 54
         refine (ref_less ad n c room f2 false k l _ (HD.out.q (S2.out.q.drew.trans q4)) hkn hk HS.out).mono ?_
         rw [HR.out]
         rintro e w5 ⟨A5, c5, rfl, ho5, q5⟩
         obtain ⟨⟨s0, s1, s2, s3⟩, h0', h1, h2, h3⟩ := (S2.out.step (((Q.refl W).drew.trans q4).trans q5)).getR))
  go_wp2
  refine bodyPost_ret (v := .tuple #[dkv A5 (n - 1) c5 room2 f2 false, .int .i64 0]) (by simp [results, Tryz.results29, go_sem, s0, s1, s2, s3]) rfl ?_
  exact (S2.out.step ((Q.refl W).drew.trans q4)).endO (d := ⟨l.eraseIdx k, room2, f2, false⟩) q5 ho5 (by omega) 0 _ _ _ _
end Go.Proofs.YtggbdhnjogalgaaGreatDoor

/- Contracts: wal's numbered, Name, own, has. -/
namespace Go.Proofs.YtggbdhnjogalgaaGreatDoor
set_option maxRecDepth 100000
open Go.RowKit Dkm
set_option linter.unusedVariables false

theorem dec_dg (v : Nat) : Lib.decDigits v = Dm.dg v := by
  induction v using Nat.strongRecOn with
  | _ v ih =>
    rw [Lib.decDigits, Dm.dg]
    by_cases h : v < 10
    · rw [dif_pos h, if_pos h]; rfl
    · rw [dif_neg h, if_neg h, ih (v / 10) (by omega)]; rfl
theorem itoa_seg {seg : Int} (h : segOk seg) : Lib.itoa seg = Dm.dg seg.toNat := by
  have := h.1
  unfold Lib.itoa
  rw [if_neg (by omega), dec_dg]
theorem itoa_any (seg : Int) (h : segOk seg) (w : World) (hT : Tab w) :
    Calls Tryz.prog 31 #[.int .i64 seg] w fun e w' => e = .returned (.string ⟨(Dm.dg seg.toNat).toArray⟩) ∧ Q w w' := by
  have h1 := h.1
  have h2 := h.2
  refine (Tryz.strconv_Itoa seg (by omega) (by omega) w hT).mono fun e w' he => ?_
  obtain ⟨he, k, os, rfl⟩ := he
  rw [itoa_seg h] at he
  exact ⟨he, Lib.below_grow w.heap.size w (Nat.le_refl _) k os⟩

theorem numbered_yes (seg : Int) (h : segOk seg) (w : World) : Calls Tryz.prog 19 #[.int .i64 seg] w fun e w' => e = .returned (.bool true) ∧ Q w w' := by
  have h1 := h.1
  have h2 := h.2
  clear h
  go_enter Tryz.func19, Tryz.ntmps19
  go_wp2
  all_goals go_ret
  all_goals exact ⟨rfl, by first | exact Q.refl _ | exact (Q.refl _).drew⟩
theorem numbered_no (seg : Int) (h : ¬ segOk seg) (w : World) : Calls Tryz.prog 19 #[.int .i64 seg] w fun e w' => e = .returned (.bool false) ∧ Q w w' := by
  by_cases h1 : 1 ≤ seg
  case' pos => have h2 : ¬ seg ≤ 1000000 := fun h2 => h ⟨h1, h2⟩
  all_goals
    clear h
    go_enter Tryz.func19, Tryz.ntmps19
    go_wp2
    all_goals go_ret
    all_goals exact ⟨rfl, by first | exact Q.refl _ | exact (Q.refl _).drew⟩

theorem name_any (seg : Int) (w : World) (hT : Tab w) : Calls Tryz.prog 13 #[.int .i64 seg] w fun e w' => e = .returned (.string (namB seg)) ∧ Q w w' := by
  by_cases h : segOk seg
  · have hR := namB_ok h
    have e : namB seg = (⟨#[119]⟩ : ByteArray) ++ ⟨(Dm.dg seg.toNat).toArray⟩ := by
      unfold namB; rw [nam_ok h]; rw [app_lists [119]]; rfl
    have hI := itoa_any seg h
    have hsz : (⟨(Dm.dg seg.toNat).toArray⟩ : ByteArray).size ≤ 8 := by
      rw [e, ByteArray.size_append] at hR; omega
    have HE := Lib.hid e
    have HT := Lib.hid hT
    clear e hR hT
    generalize (⟨(Dm.dg seg.toNat).toArray⟩ : ByteArray) = R at hI HE hsz
    go_enter Tryz.func13, Tryz.ntmps13
    go_wp2_with fail
    refine (numbered_yes seg h _).mono ?_
    rintro e w1 ⟨rfl, q1⟩
    go_wp2_with fail
    refine (hI _ (HT.out.q q1)).mono ?_
    rintro e w2 ⟨rfl, q2⟩
    go_wp2
    go_ret
    exact ⟨by rw [HE.out]; rfl, q1.trans q2⟩
  · rw [namB_no h]
    go_enter Tryz.func13, Tryz.ntmps13
    go_wp2_with fail
    refine (numbered_no seg h _).mono ?_
    rintro e w1 ⟨rfl, q1⟩
    go_wp2
    go_ret
    exact ⟨rfl, q1⟩

theorem has_any (nm : ByteArray) (A : Option Addr) (n c : Nat) (room fuse : Int) (off : Bool) (l : List Fil) (w : World) (hf : Files w A n l) (hn : n ≤ maxLen) :
    Calls Tryz.prog 35 #[dkv A n c room fuse off, .string nm] w fun e w' => e = .returned (.bool (hit nm l).2) ∧ Q w w' := by
  have HF := Lib.hid hf
  have HN := Lib.hid hn
  have KK := Lib.hid (fun w hf => find_any nm A n c room fuse off l w hf hn)
  clear hf hn
  generalize hit nm l = r at KK ⊢
  obtain ⟨f, b⟩ := r
  go_enter Tryz.func35, Tryz.ntmps35
  go_wp2_with fail
  refine (KK.out _ (HF.out.q ((Q.refl _).alloc _))).mono ?_
  rintro e w1 ⟨rfl, q1⟩
  have hq := Lib.hid (((Q.refl w).alloc _).trans q1)
  clear q1
  go_wp2
  go_ret
  exact ⟨rfl, hq.out.alloc _⟩

set_option maxHeartbeats 1000000 in
theorem wown_any (A : Option Addr) (n c : Nat) (room fuse : Int) (off : Bool) (l : List Fil) (w : World) (hd : Dsk w A n c l) :
    Calls Tryz.prog 18 #[dkv A n c room fuse off] w fun e w' => RetOwnD w n room fuse off l e w' := by
  have HD := Lib.hid hd
  clear hd
  go_enter Tryz.func18, Tryz.ntmps18
  go_wp2_with fail
  refine (clone A n c l _ (HD.out.q (((Q.refl _).alloc _).alloc _))).mono ?_
  rintro e w1 ⟨A1, c1, rfl, ho, q1⟩
  have HO := Lib.hid ho
  clear ho
  obtain ⟨e0, e1, e2, e3⟩ := box4 q1 (b := w.heap.size) (x := .slice A n c) (y := .int .i64 room) (z := .int .i64 fuse) (u := .bool off) (by simp) (by simp) (by simp) (by simp)
  obtain ⟨r0, r1, r2, r3⟩ := box4 q1 (b := w.heap.size + 1) (x := .slice none 0 0) (y := .int .i64 0) (z := .int .i64 0) (u := .bool false) (by simp) (by simp) (by simp) (by simp)
  obtain ⟨hc, hz⟩ := bcell q1.below
  clear hc
  go_wp2
  refine bodyPost_ret (v := dkv A1 n c1 room fuse off) (by simp [results, Tryz.results18, go_sem, r0, r1, r2, r3]) rfl ⟨A1, c1, rfl, ?_, ?_⟩
  · exact (((((HO.out.setCell (p := ⟨_, _, none⟩) (by simp <;> omega) _).setCell (p := ⟨_, _, none⟩) (by simp <;> omega) _).setCell (p := ⟨_, _, none⟩) (by simp <;> omega) _).setCell (p := ⟨_, _, none⟩) (by simp <;> omega) _).setCell (p := ⟨_, _, none⟩) (by simp <;> omega) _).lower (by simp <;> omega)
  · exact ((((Q.refl _).alloc _).alloc _).trans q1).setCell (by simp) _ |>.set4 (by simp) _ _ _ _
end Go.Proofs.YtggbdhnjogalgaaGreatDoor

/- Contracts: wal.Sync, wal.Put. -/
namespace Go.Proofs.YtggbdhnjogalgaaGreatDoor
set_option maxRecDepth 100000
open Go.RowKit Dkm Wm
set_option linter.unusedVariables false

/-- a disk of the call's own, and what is told beside it. -/
def RetW (w : World) (d : Dk) (vs : List Value) (e : Ending) (w' : World) : Prop :=
  ∃ A n c, e = .returned (.tuple (dkv A n c d.room d.fuse d.off :: vs).toArray) ∧ Dsk w' A n c d.fs ∧ (∀ ad, A = some ad → w.heap.size ≤ ad.block) ∧ Q w w'
theorem Sb.endW {w wr : World} {A : Option Addr} {n c : Nat} {room fuse : Int} {off : Bool} (h : Sb w A n c room fuse off wr) {w2 : World} (q : Q wr w2) {A2 : Option Addr} {n2 c2 : Nat} {d : Dk} (ho : Own w2 wr.heap.size A2 n2 c2 d.fs) (hn : n2 * 48 ≤ 140737488355328) (vs : List Value) (x y z u : Value) :
    RetW w d vs (.returned (.tuple (dkv A2 n2 c2 d.room d.fuse d.off :: vs).toArray)) ((((w2.setCell ⟨w.heap.size + 1, 0, none⟩ x).setCell ⟨w.heap.size + 1, 1, none⟩ y).setCell ⟨w.heap.size + 1, 2, none⟩ z).setCell ⟨w.heap.size + 1, 3, none⟩ u) :=
  ⟨A2, n2, c2, rfl, (ho.set4 h.res.lt _ _ _ _).dsk hn, fun ad e => by have h1 := ho.far_ ad e; have h2 := h.q.size; omega, (h.q.trans q).set4 (b := w.heap.size + 1) (by omega) _ _ _ _⟩

set_option maxHeartbeats 2000000 in
theorem wsync_any (seg : Int) (A : Option Addr) (n c : Nat) (d : Dk) (w : World) (hT : Tab w) (hd : Dsk w A n c d.fs) (hs : ∀ f ∈ d.fs, f.sf.size + f.wt.size ≤ maxLen) :
    Calls Tryz.prog 16 #[dkv A n c d.room d.fuse d.off, .int .i64 seg] w fun e w' => RetW w (syncM d seg).1 [.int .i64 (syncM d seg).2] e w' := by
  obtain ⟨l, room, fuse, off⟩ := d
  have HT := Lib.hid hT
  have HD := Lib.hid hd
  have HN := Lib.hid hd.max
  have HS := Lib.hid hs
  clear hT hd hs
  have hsl := syn_len ⟨l, room, fuse, off⟩ (namB seg)
  have KS := Lib.hid (fun w hd => sync_any (namB seg) A n c ⟨l, room, fuse, off⟩ w hd HS.out)
  have KH := Lib.hid (fun w hf hn => has_any (namB seg) A n c room fuse off l w hf hn)
  unfold syncM
  generalize syn ⟨l, room, fuse, off⟩ (namB seg) = r at hsl KS ⊢
  generalize hit (namB seg) l = b at KH ⊢
  obtain ⟨f, b⟩ := b
  have KN := Lib.hid (name_any seg)
  cases b
  · simp only [Bool.false_eq_true, if_false]
    go_enter Tryz.func16, Tryz.ntmps16
    go_upto_region 1 with (fail)
    have X := Lib.hid (Sb.new w A n c room fuse off)
    generalize ((w.alloc (.cells #[.slice A n c, .int .i64 room, .int .i64 fuse, .bool off] 24)).alloc (.cells #[.slice none 0 0, .int .i64 0, .int .i64 0, .bool false] 24)) = W at X ⊢
    obtain ⟨⟨e0, e1, e2, e3⟩, f0, f1, f2', f3⟩ := X.out.get
    go_region_held3 (fun w' => w'.cell? ⟨w.heap.size, 0, none⟩ = some (.slice A n c) ∧ w'.cell? ⟨w.heap.size, 1, none⟩ = some (.int .i64 room) ∧ w'.cell? ⟨w.heap.size, 2, none⟩ = some (.int .i64 fuse) ∧ w'.cell? ⟨w.heap.size, 3, none⟩ = some (.bool off))
      (first
        | go_keep
        | (go_split_ands
           (repeat' apply And.intro) <;> exact box_ ‹Q _ _› (by assumption)))
      (first
        | (go_at_call 13
           (with_reducible refine (KN.out _ (HT.out.q (X.out.q.trans (Q.refl W).drew))).mono ?_)
           rintro e w2 ⟨rfl, q2⟩)
        | (go_at_call 35
           (with_reducible refine (KH.out _ (HD.out.files.q (X.out.q.trans ((Q.refl W).drew.trans q2))) HN.out).mono ?_)
           rintro e w3 ⟨rfl, q3⟩))
    have Y := Lib.hid (X.out.step (((Q.refl W).drew.trans q2).trans q3))
    clear X q2 q3 e0 e1 e2 e3 f0 f1 f2' f3
    obtain ⟨⟨e0, e1, e2, e3⟩, f0, f1, f2', f3⟩ := Y.out.get
    go_wp2_with fail
    refine (wown_any A n c room fuse off l _ (HD.out.q Y.out.q)).mono ?_
    rintro e w4 ⟨A4, c4, rfl, ho, q4⟩
    have Z := Lib.hid (And.intro ho q4)
    obtain ⟨⟨s0, s1, s2, s3⟩, h0, h1, h2, h3⟩ := (Y.out.step q4).getR
    clear ho q4 e0 e1 e2 e3 f0 f1 f2' f3
    go_wp2
    refine bodyPost_ret (v := .tuple #[dkv A4 n c4 room fuse off, .int .i64 0]) (by simp [results, Tryz.results16, go_sem, s0, s1, s2, s3]) rfl ?_
    exact Y.out.endW Z.out.2 (d := ⟨l, room, fuse, off⟩) Z.out.1 HD.out.few [.int .i64 0] _ _ _ _
  · simp only [if_true]
    go_enter Tryz.func16, Tryz.ntmps16
    go_upto_region 1 with (fail)
    have X := Lib.hid (Sb.new w A n c room fuse off)
    generalize ((w.alloc (.cells #[.slice A n c, .int .i64 room, .int .i64 fuse, .bool off] 24)).alloc (.cells #[.slice none 0 0, .int .i64 0, .int .i64 0, .bool false] 24)) = W at X ⊢
    obtain ⟨⟨e0, e1, e2, e3⟩, f0, f1, f2', f3⟩ := X.out.get
    go_region_held3 (fun w' => w'.cell? ⟨w.heap.size, 0, none⟩ = some (.slice A n c) ∧ w'.cell? ⟨w.heap.size, 1, none⟩ = some (.int .i64 room) ∧ w'.cell? ⟨w.heap.size, 2, none⟩ = some (.int .i64 fuse) ∧ w'.cell? ⟨w.heap.size, 3, none⟩ = some (.bool off))
      (first
        | go_keep
        | (go_split_ands
           (repeat' apply And.intro) <;> exact box_ ‹Q _ _› (by assumption)))
      (first
        | (go_at_call 13
           (with_reducible refine (KN.out _ (HT.out.q (X.out.q.trans (Q.refl W).drew))).mono ?_)
           rintro e w2 ⟨rfl, q2⟩)
        | (go_at_call 35
           (with_reducible refine (KH.out _ (HD.out.files.q (X.out.q.trans ((Q.refl W).drew.trans q2))) HN.out).mono ?_)
           rintro e w3 ⟨rfl, q3⟩))
    have Y := Lib.hid (X.out.step (((Q.refl W).drew.trans q2).trans q3))
    clear X q2 q3 e0 e1 e2 e3 f0 f1 f2' f3
    obtain ⟨⟨e0, e1, e2, e3⟩, f0, f1, f2', f3⟩ := Y.out.get
    go_upto_region 3 with (fail)
    go_region_held3 (fun w' => w'.cell? ⟨w.heap.size, 0, none⟩ = some (.slice A n c) ∧ w'.cell? ⟨w.heap.size, 1, none⟩ = some (.int .i64 room) ∧ w'.cell? ⟨w.heap.size, 2, none⟩ = some (.int .i64 fuse) ∧ w'.cell? ⟨w.heap.size, 3, none⟩ = some (.bool off))
      (first
        | go_keep
        | (go_split_ands
           (repeat' apply And.intro) <;> exact box_ ‹Q _ _› (by assumption)))
      (first
        | (go_at_call 13
           (with_reducible refine (KN.out _ (HT.out.q (Y.out.q.trans (Q.refl _).drew))).mono ?_)
           rintro e w4 ⟨rfl, q4⟩)
        | (go_at_call 32
           (with_reducible refine (KS.out _ (HD.out.q (Y.out.q.trans ((Q.refl _).drew.trans q4)))).mono ?_)
           rintro e w5 ⟨A5, n5, c5, rfl, ho, q5⟩
           obtain ⟨⟨s0, s1, s2, s3⟩, h0, h1, h2, h3⟩ := ((Y.out.step ((Q.refl _).drew.trans q4)).step q5).getR))
    have hn5 : n5 * 48 ≤ 140737488355328 := by have h1 := ho.len; have h2 := HD.out.len; have h3 := HD.out.few; omega
    have Z := Lib.hid (And.intro ho (And.intro q5 hn5))
    have Y4 := Lib.hid (Y.out.step ((Q.refl _).drew.trans q4))
    clear ho q4 q5 hn5 e0 e1 e2 e3 f0 f1 f2' f3 Y
    go_wp2
    refine bodyPost_ret (v := .tuple #[dkv A5 n5 c5 r.1.room r.1.fuse r.1.off, .int .i64 r.2]) (by simp [results, Tryz.results16, go_sem, s0, s1, s2, s3]) rfl ?_
    exact Y4.out.endW Z.out.2.1 (d := r.1) Z.out.1 Z.out.2.2 [.int .i64 r.2] _ _ _ _
end Go.Proofs.YtggbdhnjogalgaaGreatDoor

/- Contracts: the document's Rename. -/
namespace Go.Proofs.YtggbdhnjogalgaaGreatDoor
set_option maxRecDepth 100000
open Go.RowKit Dkm
set_option linter.unusedVariables false

theorem nmOk_yes {nm : ByteArray} (h : nmOk nm = true) : 1 ≤ nm.size ∧ nm.size ≤ 16 := by simpa [nmOk] using h
theorem nmOk_no {nm : ByteArray} (h : nmOk nm = false) : nm.size < 1 ∨ 16 < nm.size := by
  have : ¬ (1 ≤ nm.size ∧ nm.size ≤ 16) := by simpa [nmOk] using h
  omega

set_option maxHeartbeats 2000000 in
theorem ref_ren_off (fr to : ByteArray) (A : Option Addr) (n c : Nat) (room fuse : Int) (l : List Fil) (w : World) (hd : Dsk w A n c l) :
    Calls Tryz.prog 44 #[dkv A n c room fuse true, .string fr, .string to] w fun e w' => RetDK w A n ⟨l, room, fuse, true⟩ 6 e w' := by
  have HD := Lib.hid hd
  have hfew := hd.few
  clear hd
  go_enter Tryz.func44, Tryz.ntmps44
  go_wp2
  refine bodyPost_ret (v := .tuple #[dkv A n c room fuse true, .int .i64 6]) (by simp [results, Tryz.results44, go_sem]) rfl ?_
  exact ⟨A, n, c, rfl, HD.out.q (((Q.refl _).alloc _).alloc _), .inl ⟨rfl, rfl⟩, ((Q.refl _).alloc _).alloc _⟩

set_option maxHeartbeats 2000000 in
theorem ref_ren_arg (fr to : ByteArray) (A : Option Addr) (n c : Nat) (room fuse : Int) (l : List Fil) (w : World) (hd : Dsk w A n c l) (hk : nmOk to = false) :
    Calls Tryz.prog 44 #[dkv A n c room fuse false, .string fr, .string to] w fun e w' => RetDK w A n ⟨l, room, fuse, false⟩ 1 e w' := by
  have HD := Lib.hid hd
  have hfew := hd.few
  clear hd
  rcases nmOk_no hk with h | h
  case' inl => have h' : (to.size : Int) < 1 := by omega
  case' inr => have h' : ¬ (to.size : Int) < 1 := by omega
  all_goals
    clear hk
    go_enter Tryz.func44, Tryz.ntmps44
    go_wp2
    refine bodyPost_ret (v := .tuple #[dkv A n c room fuse false, .int .i64 1]) (by simp [results, Tryz.results44, go_sem]) rfl ?_
    exact ⟨A, n, c, rfl, HD.out.q (((Q.refl _).alloc _).alloc _), .inl ⟨rfl, rfl⟩, ((Q.refl _).alloc _).alloc _⟩

set_option maxHeartbeats 2000000 in
theorem ref_ren_none (fr to : ByteArray) (A : Option Addr) (n c : Nat) (room fuse : Int) (l : List Fil) (w : World) (hd : Dsk w A n c l) (p : Int) (hp : plc fr l 0 = p) (hk : nmOk to = true) (h0 : p < 0) :
    Calls Tryz.prog 44 #[dkv A n c room fuse false, .string fr, .string to] w fun e w' => RetDK w A n ⟨l, room, fuse, false⟩ 7 e w' := by
  have HD := Lib.hid hd
  have hfew := hd.few
  clear hd
  obtain ⟨o1, o2⟩ := nmOk_yes hk
  have o3 : ¬ (to.size : Int) < 1 := by omega
  clear hk
  have HP := Lib.hid hp
  clear hp
  have S0 := Lib.hid (Sb.new w A n c room fuse false)
  go_enter Tryz.func44, Tryz.ntmps44
  go_wp2_with fail
  refine (ref_at fr A n c room fuse false l _ (HD.out.files.q S0.out.q) HD.out.max).mono ?_
  rw [HP.out]
  rintro e w1 ⟨rfl, q1⟩
  have S1 := Lib.hid (S0.out.step q1)
  clear S0 q1
  obtain ⟨⟨e0, e1, e2, e3⟩, f0, f1, f2', f3⟩ := S1.out.get
  obtain ⟨⟨s0, s1, s2, s3⟩, h0', h1, h2, h3⟩ := S1.out.getR
  go_wp2
  refine bodyPost_ret (v := .tuple #[dkv A n c room fuse false, .int .i64 7]) (by simp [results, Tryz.results44, go_sem, s0, s1, s2, s3]) rfl ?_
  exact S1.out.endK HD.out 7 _ _ _ _

set_option maxHeartbeats 2000000 in
theorem ref_ren_same (fr to : ByteArray) (A : Option Addr) (n c : Nat) (room fuse : Int) (l : List Fil) (w : World) (hd : Dsk w A n c l) (k : Nat) (hp : plc fr l 0 = k) (hk : nmOk to = true) (he : fr = to) :
    Calls Tryz.prog 44 #[dkv A n c room fuse false, .string fr, .string to] w fun e w' => RetDK w A n ⟨l, room, fuse, false⟩ 0 e w' := by
  have HD := Lib.hid hd
  have hfew := hd.few
  clear hd
  obtain ⟨o1, o2⟩ := nmOk_yes hk
  have o3 : ¬ (to.size : Int) < 1 := by omega
  clear hk
  have hb := str_eqb he
  clear he
  have HP := Lib.hid hp
  clear hp
  have S0 := Lib.hid (Sb.new w A n c room fuse false)
  go_enter Tryz.func44, Tryz.ntmps44
  go_wp2_with fail
  refine (ref_at fr A n c room fuse false l _ (HD.out.files.q S0.out.q) HD.out.max).mono ?_
  rw [HP.out]
  rintro e w1 ⟨rfl, q1⟩
  have S1 := Lib.hid (S0.out.step q1)
  clear S0 q1
  obtain ⟨⟨e0, e1, e2, e3⟩, f0, f1, f2', f3⟩ := S1.out.get
  obtain ⟨⟨s0, s1, s2, s3⟩, h0', h1, h2, h3⟩ := S1.out.getR
  go_wp2
  refine bodyPost_ret (v := .tuple #[dkv A n c room fuse false, .int .i64 0]) (by simp [results, Tryz.results44, go_sem, s0, s1, s2, s3]) rfl ?_
  exact S1.out.endK HD.out 0 _ _ _ _

set_option maxHeartbeats 2000000 in
theorem ref_ren_dead (fr to : ByteArray) (A : Option Addr) (n c : Nat) (room : Int) (l : List Fil) (w : World) (hd : Dsk w A n c l) (k : Nat) (hp : plc fr l 0 = k) (hk : nmOk to = true) (he : fr ≠ to) :
    Calls Tryz.prog 44 #[dkv A n c room 0 false, .string fr, .string to] w fun e w' => RetDK w A n ⟨l, room, 0, true⟩ 6 e w' := by
  have HD := Lib.hid hd
  have hfew := hd.few
  clear hd
  obtain ⟨o1, o2⟩ := nmOk_yes hk
  have o3 : ¬ (to.size : Int) < 1 := by omega
  clear hk
  have hb := str_ne he
  clear he
  have HP := Lib.hid hp
  clear hp
  have S0 := Lib.hid (Sb.new w A n c room 0 false)
  go_enter Tryz.func44, Tryz.ntmps44
  go_wp2_with fail
  refine (ref_at fr A n c room 0 false l _ (HD.out.files.q S0.out.q) HD.out.max).mono ?_
  rw [HP.out]
  rintro e w1 ⟨rfl, q1⟩
  have S1 := Lib.hid (S0.out.step q1)
  clear S0 q1
  obtain ⟨⟨e0, e1, e2, e3⟩, f0, f1, f2', f3⟩ := S1.out.get
  have k2 := ref_power A n c ⟨l, room, 0, false⟩ w1 (by simp)
  rw [pow_zero] at k2
  have k2 := Lib.hid k2
  go_wp2_with fail
  refine k2.out.mono ?_
  rintro e w2 ⟨rfl, q2⟩
  have S2 := Lib.hid ((S1.out.step q2).put4 A n c room 0 true)
  have P2 := S1.out.step q2
  clear S1 k2 q2 e0 e1 e2 e3 f0 f1 f2' f3
  obtain ⟨⟨e0, e1, e2, e3⟩, f0, f1, f2', f3⟩ := P2.get
  clear P2
  go_upto_region 10 with (fail)
  generalize ((((w2.setCell ⟨w.heap.size, 0, none⟩ (.slice A n c)).setCell ⟨w.heap.size, 1, none⟩ (.int .i64 room)).setCell ⟨w.heap.size, 2, none⟩ (.int .i64 0)).setCell ⟨w.heap.size, 3, none⟩ (.bool true)) = W at S2 ⊢
  clear e0 e1 e2 e3 f0 f1 f2' f3
  obtain ⟨⟨e0, e1, e2, e3⟩, f0, f1, f2', f3⟩ := S2.out.get
  obtain ⟨⟨s0, s1, s2, s3⟩, h0', h1, h2, h3⟩ := S2.out.getR
  go_wp2
  refine bodyPost_ret (v := .tuple #[dkv A n c room 0 true, .int .i64 6]) (by simp [results, Tryz.results44, go_sem, s0, s1, s2, s3]) rfl ?_
  exact S2.out.endK HD.out 6 _ _ _ _

set_option maxHeartbeats 2000000 in
theorem ref_ren_plain (fr to : ByteArray) (A : Option Addr) (n c : Nat) (room fuse : Int) (l : List Fil) (w : World) (hd : Dsk w A n c l) (hfu : fuse ≤ 9223372036854775807) (k : Nat) (hkl : k < l.length) (hp : plc fr l 0 = k) (hk : nmOk to = true) (he : fr ≠ to) (f2 : Int) (hpw : pow ⟨l, room, fuse, false⟩ = (⟨l, room, f2, false⟩, true)) (o : Int) (ht : plc to l 0 = o) (h0 : o < 0) :
    Calls Tryz.prog 44 #[dkv A n c room fuse false, .string fr, .string to] w fun e w' => RetDK w A n ⟨l.set k ⟨to, l[k].sf, l[k].wt⟩, room, f2, false⟩ 0 e w' := by
  have HD := Lib.hid hd
  have hfew := hd.few
  clear hd
  obtain ⟨o1, o2⟩ := nmOk_yes hk
  have o3 : ¬ (to.size : Int) < 1 := by omega
  clear hk
  have hb := str_ne he
  clear he
  have HL := Lib.hid HD.out.len
  have hkn : k < n := by have := HL.out; omega
  have HW := Lib.hid hpw
  clear hpw
  have HT := Lib.hid ht
  clear ht
  have HP := Lib.hid hp
  clear hp
  have S0 := Lib.hid (Sb.new w A n c room fuse false)
  go_enter Tryz.func44, Tryz.ntmps44
  go_wp2_with fail
  refine (ref_at fr A n c room fuse false l _ (HD.out.files.q S0.out.q) HD.out.max).mono ?_
  rw [HP.out]
  rintro e w1 ⟨rfl, q1⟩
  have S1 := Lib.hid (S0.out.step q1)
  clear S0 q1
  obtain ⟨⟨e0, e1, e2, e3⟩, f0, f1, f2', f3⟩ := S1.out.get
  have k2 := ref_power A n c ⟨l, room, fuse, false⟩ w1 hfu
  rw [HW.out] at k2
  have k2 := Lib.hid k2
  go_wp2_with fail
  refine k2.out.mono ?_
  rintro e w2 ⟨rfl, q2⟩
  have S2 := Lib.hid ((S1.out.step q2).put4 A n c room f2 false)
  have P2 := S1.out.step q2
  clear S1 k2 q2 e0 e1 e2 e3 f0 f1 f2' f3
  obtain ⟨⟨e0, e1, e2, e3⟩, f0, f1, f2', f3⟩ := P2.get
  clear P2
  go_upto_region 10 with (fail)
  generalize ((((w2.setCell ⟨w.heap.size, 0, none⟩ (.slice A n c)).setCell ⟨w.heap.size, 1, none⟩ (.int .i64 room)).setCell ⟨w.heap.size, 2, none⟩ (.int .i64 f2)).setCell ⟨w.heap.size, 3, none⟩ (.bool false)) = W at S2 ⊢
  clear e0 e1 e2 e3 f0 f1 f2' f3
  obtain ⟨⟨e0, e1, e2, e3⟩, f0, f1, f2', f3⟩ := S2.out.get
  go_wp2_with fail
  refine (ref_at to A n c room f2 false l _ (HD.out.files.q S2.out.q) HD.out.max).mono ?_
  rw [HT.out]
  rintro e w4 ⟨rfl, q4⟩
  have S4 := Lib.hid (S2.out.step q4)
  clear S2 q4 e0 e1 e2 e3 f0 f1 f2' f3
  obtain ⟨⟨e0, e1, e2, e3⟩, f0, f1, f2', f3⟩ := S4.out.get
  go_wp2_with fail
  refine (ref_at fr A n c room f2 false l _ (HD.out.files.q S4.out.q) HD.out.max).mono ?_
  rw [HP.out]
  rintro e w5 ⟨rfl, q5⟩
  have S5 := Lib.hid (S4.out.step q5)
  clear S4 q5 e0 e1 e2 e3 f0 f1 f2' f3
  obtain ⟨⟨e0, e1, e2, e3⟩, f0, f1, f2', f3⟩ := S5.out.get
  obtain ⟨ad, rfl, hbk, c0, c1, c2⟩ := (HD.out.files.q S5.out.q).load hkn hkl
  have z0 : w.heap.size < w5.heap.size := S5.out.box.lt
  have z1 : w.heap.size + 1 < w5.heap.size := S5.out.res.lt
  have z2 : w.heap.size ≠ w5.heap.size := by omega
  have z3 : w.heap.size + 1 ≠ w5.heap.size := by omega
  have q6 : (k : Int) < (n : Int) := by omega
  have q7 : 0 ≤ (k : Int) := by omega
  go_wp2_with fail
  refine (ref_with (some ad) n c room f2 false k ⟨to, l[k].sf, l[k].wt⟩ l _ (HD.out.q (S5.out.q.alloc _)) hkn).mono ?_
  rintro e w6 ⟨A6, c6, rfl, ho6, q6'⟩
  have S6 := Lib.hid (S5.out.step ((Q.refl w5).alloc (.cells #[.string to, .string l[k].sf, .string l[k].wt] 42)))
  have HO := Lib.hid ho6
  have HQ := Lib.hid q6'
  clear ho6 q6' S5 e0 e1 e2 e3 f0 f1 f2' f3 c0 c1 c2
  obtain ⟨⟨s0, s1, s2, s3⟩, h0', h1, h2, h3⟩ := (S6.out.step HQ.out).getR
  go_wp2
  refine bodyPost_ret (v := .tuple #[dkv A6 n c6 room f2 false, .int .i64 0]) (by simp [results, Tryz.results44, go_sem, s0, s1, s2, s3]) rfl ?_
  exact S6.out.endO (d := ⟨l.set k ⟨to, l[k].sf, l[k].wt⟩, room, f2, false⟩) HQ.out HO.out (by omega) 0 _ _ _ _
end Go.Proofs.YtggbdhnjogalgaaGreatDoor

/- Contracts: the document's Sync; its Append, where it is refused. -/
namespace Go.Proofs.YtggbdhnjogalgaaGreatDoor
set_option maxRecDepth 100000
open Go.RowKit Dkm
set_option linter.unusedVariables false

set_option maxHeartbeats 2000000 in
theorem ref_sync_off (nm : ByteArray) (A : Option Addr) (n c : Nat) (room fuse : Int) (l : List Fil) (w : World) (hd : Dsk w A n c l) :
    Calls Tryz.prog 43 #[dkv A n c room fuse true, .string nm] w fun e w' => RetDK w A n ⟨l, room, fuse, true⟩ 6 e w' := by
  have HD := Lib.hid hd
  clear hd
  go_enter Tryz.func43, Tryz.ntmps43
  go_wp2
  refine bodyPost_ret (v := .tuple #[dkv A n c room fuse true, .int .i64 6]) (by simp [results, Tryz.results43, go_sem]) rfl ?_
  exact ⟨A, n, c, rfl, HD.out.q (((Q.refl _).alloc _).alloc _), .inl ⟨rfl, rfl⟩, ((Q.refl _).alloc _).alloc _⟩

set_option maxHeartbeats 2000000 in
theorem ref_sync_none (nm : ByteArray) (A : Option Addr) (n c : Nat) (room fuse : Int) (l : List Fil) (w : World) (hd : Dsk w A n c l) (p : Int) (hp : plc nm l 0 = p) (h0 : p < 0) :
    Calls Tryz.prog 43 #[dkv A n c room fuse false, .string nm] w fun e w' => RetDK w A n ⟨l, room, fuse, false⟩ 7 e w' := by
  have HD := Lib.hid hd
  have HP := Lib.hid hp
  clear hd hp
  have S0 := Lib.hid (Sb.new w A n c room fuse false)
  go_enter Tryz.func43, Tryz.ntmps43
  go_wp2_with fail
  refine (ref_at nm A n c room fuse false l _ (HD.out.files.q S0.out.q) HD.out.max).mono ?_
  rw [HP.out]
  rintro e w1 ⟨rfl, q1⟩
  have S1 := Lib.hid (S0.out.step q1)
  clear S0 q1
  obtain ⟨⟨e0, e1, e2, e3⟩, f0, f1, f2, f3⟩ := S1.out.get
  obtain ⟨⟨s0, s1, s2, s3⟩, h0', h1, h2, h3⟩ := S1.out.getR
  go_wp2
  refine bodyPost_ret (v := .tuple #[dkv A n c room fuse false, .int .i64 7]) (by simp [results, Tryz.results43, go_sem, s0, s1, s2, s3]) rfl ?_
  exact S1.out.endK HD.out 7 _ _ _ _

set_option maxHeartbeats 2000000 in
theorem ref_sync_yes (nm : ByteArray) (A : Option Addr) (n c : Nat) (room fuse : Int) (l : List Fil) (w : World) (hd : Dsk w A n c l) (k : Nat) (hk : k < l.length) (hp : plc nm l 0 = k) (hs : l[k].sf.size + l[k].wt.size ≤ maxLen) :
    Calls Tryz.prog 43 #[dkv A n c room fuse false, .string nm] w fun e w' => RetDK w A n ⟨l.set k ⟨l[k].nm, l[k].sf ++ l[k].wt, ⟨#[]⟩⟩, room, fuse, false⟩ 0 e w' := by
  have hkn : k < n := by have := hd.len; omega
  have hnm := hd.max
  unfold maxLen at hnm hs
  have hfew := hd.few
  have HD := Lib.hid hd
  have HP := Lib.hid hp
  clear hd hp
  have S0 := Lib.hid (Sb.new w A n c room fuse false)
  have q4 : (k : Int) < (n : Int) := by omega
  have q5 : 0 ≤ (k : Int) := by omega
  have q6 : ¬ 9223372036854775807 < l[k].sf.size + l[k].wt.size := by omega
  go_enter Tryz.func43, Tryz.ntmps43
  go_wp2_with fail
  refine (ref_at nm A n c room fuse false l _ (HD.out.files.q S0.out.q) HD.out.max).mono ?_
  rw [HP.out]
  rintro e w1 ⟨rfl, q1⟩
  have S1 := Lib.hid (S0.out.step q1)
  obtain ⟨ad, rfl, hb, c0, c1, c3⟩ := (HD.out.files.q S1.out.q).load hkn hk
  clear S0 q1
  obtain ⟨⟨e0, e1, e2, e3⟩, f0, f1, f2, f3⟩ := S1.out.get
  go_upto_region 7 with (fail)
  have B1 := Lib.hid (And.intro (Bx.new w1 [.string l[k].nm, .string l[k].sf, .string l[k].wt] 42) (S1.out.step ((Q.refl _).alloc (.cells #[.string l[k].nm, .string l[k].sf, .string l[k].wt] 42))))
  generalize (w1.alloc (.cells #[.string l[k].nm, .string l[k].sf, .string l[k].wt] 42)) = W at B1 ⊢
  generalize w1.heap.size = g at B1 ⊢
  clear e0 e1 e2 e3 f0 f1 f2 f3 c0 c1 c3 hb
  obtain ⟨⟨b0, b1, b2⟩, _⟩ := B1.out.1.get3
  obtain ⟨⟨e0, e1, e2, e3⟩, f0, f1, f2, f3⟩ := B1.out.2.get
  obtain ⟨⟨s0, s1, s2, s3⟩, h0', h1, h2, h3⟩ := B1.out.2.getR
  go_wp2_with fail
  refine (ref_with (some ad) n c room fuse false k ⟨l[k].nm, l[k].sf ++ l[k].wt, ⟨#[]⟩⟩ l _ (HD.out.q B1.out.2.q) hkn).mono ?_
  rintro e w5 ⟨A5, c5, rfl, ho5, q5'⟩
  clear s0 s1 s2 s3 h0' h1 h2 h3
  obtain ⟨⟨s0, s1, s2, s3⟩, h0', h1, h2, h3⟩ := (B1.out.2.step q5').getR
  go_wp2
  refine bodyPost_ret (v := .tuple #[dkv A5 n c5 room fuse false, .int .i64 0]) (by simp [results, Tryz.results43, go_sem, s0, s1, s2, s3]) rfl ?_
  exact B1.out.2.endO (d := ⟨l.set k ⟨l[k].nm, l[k].sf ++ l[k].wt, ⟨#[]⟩⟩, room, fuse, false⟩) q5' ho5 (by omega) 0 _ _ _ _

set_option maxHeartbeats 2000000 in
theorem ref_app_off (nm s : ByteArray) (A : Option Addr) (n c : Nat) (room fuse : Int) (l : List Fil) (w : World) (hd : Dsk w A n c l) :
    Calls Tryz.prog 42 #[dkv A n c room fuse true, .string nm, .string s] w fun e w' => RetDK w A n ⟨l, room, fuse, true⟩ 6 e w' := by
  have HD := Lib.hid hd
  clear hd
  go_enter Tryz.func42, Tryz.ntmps42
  go_wp2
  refine bodyPost_ret (v := .tuple #[dkv A n c room fuse true, .int .i64 6]) (by simp [results, Tryz.results42, go_sem]) rfl ?_
  exact ⟨A, n, c, rfl, HD.out.q (((Q.refl _).alloc _).alloc _), .inl ⟨rfl, rfl⟩, ((Q.refl _).alloc _).alloc _⟩

set_option maxHeartbeats 2000000 in
theorem ref_app_arg (nm s : ByteArray) (A : Option Addr) (n c : Nat) (room fuse : Int) (l : List Fil) (w : World) (hd : Dsk w A n c l) (hk : nmOk nm = false) :
    Calls Tryz.prog 42 #[dkv A n c room fuse false, .string nm, .string s] w fun e w' => RetDK w A n ⟨l, room, fuse, false⟩ 1 e w' := by
  have HD := Lib.hid hd
  have hfew := hd.few
  clear hd
  rcases nmOk_no hk with h | h
  case' inl => have h' : (nm.size : Int) < 1 := by omega
  case' inr => have h' : ¬ (nm.size : Int) < 1 := by omega
  all_goals
    clear hk
    go_enter Tryz.func42, Tryz.ntmps42
    go_wp2
    refine bodyPost_ret (v := .tuple #[dkv A n c room fuse false, .int .i64 1]) (by simp [results, Tryz.results42, go_sem]) rfl ?_
    exact ⟨A, n, c, rfl, HD.out.q (((Q.refl _).alloc _).alloc _), .inl ⟨rfl, rfl⟩, ((Q.refl _).alloc _).alloc _⟩

set_option maxHeartbeats 4000000 in
theorem ref_app_full (nm s : ByteArray) (A : Option Addr) (n c : Nat) (room fuse : Int) (l : List Fil) (w : World) (hd : Dsk w A n c l) (hk : nmOk nm = true) (p : Int) (hp : plc nm l 0 = p) (hfull : (p < 0 ∧ 64 ≤ n) ∨ room < s.size) :
    Calls Tryz.prog 42 #[dkv A n c room fuse false, .string nm, .string s] w fun e w' => RetDK w A n ⟨l, room, fuse, false⟩ 5 e w' := by
  have HD := Lib.hid hd
  have HP := Lib.hid hp
  have hfew := hd.few
  clear hd hp
  obtain ⟨o1, o2⟩ := nmOk_yes hk
  have o3 : ¬ (nm.size : Int) < 1 := by omega
  clear hk
  have S0 := Lib.hid (Sb.new w A n c room fuse false)
  have hc : (p < 0 ∧ (64 : Int) ≤ (n : Int)) ∨ (p < 0 ∧ ¬ (64 : Int) ≤ (n : Int) ∧ room < (s.size : Int)) ∨ (¬ p < 0 ∧ room < (s.size : Int)) := by omega
  clear hfull
  rcases hc with ⟨g1, g2⟩ | ⟨g1, g2, g3⟩ | ⟨g1, g3⟩
  all_goals
    go_enter Tryz.func42, Tryz.ntmps42
    go_wp2_with fail
    refine (ref_at nm A n c room fuse false l _ (HD.out.files.q S0.out.q) HD.out.max).mono ?_
    rw [HP.out]
    rintro e w1 ⟨rfl, q1⟩
    have S1 := Lib.hid (S0.out.step q1)
    clear S0 q1
    obtain ⟨⟨e0, e1, e2, e3⟩, f0, f1, f2, f3⟩ := S1.out.get
    obtain ⟨⟨s0, s1, s2, s3⟩, h0', h1, h2, h3⟩ := S1.out.getR
    go_wp2
    refine bodyPost_ret (v := .tuple #[dkv A n c room fuse false, .int .i64 5]) (by simp [results, Tryz.results42, go_sem, s0, s1, s2, s3]) rfl ?_
    exact S1.out.endK HD.out 5 _ _ _ _
end Go.Proofs.YtggbdhnjogalgaaGreatDoor

/- Contracts: the document's Append, where the file would be too big. -/
namespace Go.Proofs.YtggbdhnjogalgaaGreatDoor
set_option maxRecDepth 100000
open Go.RowKit Dkm
set_option linter.unusedVariables false

theorem Bx.put3 {w : World} {b : Nat} {x y z : Value} (h : Bx w b [x, y, z]) (x' y' z' : Value) : Bx (((w.setCell ⟨b, 0, none⟩ x').setCell ⟨b, 1, none⟩ y').setCell ⟨b, 2, none⟩ z') b [x', y', z'] :=
  ((h.set (k := 0) (by simp) x').set (k := 1) (by simp) y').set (k := 2) (by simp) z'
theorem Sb.far3 {w wr : World} {A : Option Addr} {n c : Nat} {room fuse : Int} {off : Bool} (h : Sb w A n c room fuse off wr) {g : Nat} (hg : w.heap.size + 1 < g) (x y z : Value) :
    Sb w A n c room fuse off (((wr.setCell ⟨g, 0, none⟩ x).setCell ⟨g, 1, none⟩ y).setCell ⟨g, 2, none⟩ z) :=
  ⟨((h.box.far (p := ⟨g, 0, none⟩) (by simp only; omega) _).far (p := ⟨g, 1, none⟩) (by simp only; omega) _).far (p := ⟨g, 2, none⟩) (by simp only; omega) _,
   ((h.res.far (p := ⟨g, 0, none⟩) (by simp only; omega) _).far (p := ⟨g, 1, none⟩) (by simp only; omega) _).far (p := ⟨g, 2, none⟩) (by simp only; omega) _, h.q.set3 (b := g) (by omega) _ _ _⟩

set_option maxHeartbeats 4000000 in
theorem ref_app_big_none (nm s : ByteArray) (A : Option Addr) (n c : Nat) (room fuse : Int) (l : List Fil) (w : World) (hd : Dsk w A n c l) (hk : nmOk nm = true) (p : Int) (hp : plc nm l 0 = p) (h0 : p < 0) (hn64 : n < 64) (hr : (s.size : Int) ≤ room) (hs : s.size ≤ 2305843009213693952) (hbig : 65536 < s.size) :
    Calls Tryz.prog 42 #[dkv A n c room fuse false, .string nm, .string s] w fun e w' => RetDK w A n ⟨l, room, fuse, false⟩ 4 e w' := by
  have hnm := hd.max
  unfold maxLen at hnm
  have hfew := hd.few
  have HD := Lib.hid hd
  have HP := Lib.hid hp
  clear hd hp
  obtain ⟨o1, o2⟩ := nmOk_yes hk
  have o3 : ¬ (nm.size : Int) < 1 := by omega
  have o4 : ¬ room < (s.size : Int) := by omega
  clear hk
  have S0 := Lib.hid (Sb.new w A n c room fuse false)
  have q4 : ¬ (64 : Int) ≤ (n : Int) := by omega
  go_enter Tryz.func42, Tryz.ntmps42
  go_wp2_with fail
  refine (ref_at nm A n c room fuse false l _ (HD.out.files.q S0.out.q) HD.out.max).mono ?_
  rw [HP.out]
  rintro e w1 ⟨rfl, q1⟩
  have S1 := Lib.hid (S0.out.step q1)
  clear S0 q1
  obtain ⟨⟨e0, e1, e2, e3⟩, f0, f1, f2, f3⟩ := S1.out.get
  have z0 : w.heap.size + 1 < w1.heap.size := S1.out.res.lt
  go_upto_region 11 with (fail)
  have B1 := Lib.hid (And.intro (Bx.new w1 [.string nm, .string ⟨#[]⟩, .string ⟨#[]⟩] 42) (S1.out.step ((Q.refl _).alloc (.cells #[.string nm, .string ⟨#[]⟩, .string ⟨#[]⟩] 42))))
  generalize (w1.alloc (.cells #[.string nm, .string ⟨#[]⟩, .string ⟨#[]⟩] 42)) = W at B1 ⊢
  generalize w1.heap.size = g at B1 z0 ⊢
  clear e0 e1 e2 e3 f0 f1 f2 f3
  obtain ⟨⟨b0, b1, b2⟩, _⟩ := B1.out.1.get3
  obtain ⟨⟨e0, e1, e2, e3⟩, f0, f1, f2, f3⟩ := B1.out.2.get
  obtain ⟨⟨s0, s1, s2, s3⟩, h0', h1, h2, h3⟩ := B1.out.2.getR
  go_wp2
  go_outline
  refine bodyPost_ret (v := .tuple #[dkv A n c room fuse false, .int .i64 4]) (by simp [results, Tryz.results42, go_sem, s0, s1, s2, s3]) rfl ?_
  exact B1.out.2.endK HD.out 4 _ _ _ _

set_option maxHeartbeats 4000000 in
theorem ref_app_big_at (nm s : ByteArray) (A : Option Addr) (n c : Nat) (room fuse : Int) (l : List Fil) (w : World) (hd : Dsk w A n c l) (hk : nmOk nm = true) (k : Nat) (hkl : k < l.length) (hkn : k < n) (hp : plc nm l 0 = k) (hr : (s.size : Int) ≤ room) (hs : s.size ≤ 2305843009213693952) (hz : l[k].sf.size + l[k].wt.size ≤ 2305843009213693952) (hbig : 65536 < l[k].sf.size + l[k].wt.size + s.size) :
    Calls Tryz.prog 42 #[dkv A n c room fuse false, .string nm, .string s] w fun e w' => RetDK w A n ⟨l, room, fuse, false⟩ 4 e w' := by
  have hb2 : (65536 : Int) < (l[k].sf.size : Int) + (l[k].wt.size : Int) + (s.size : Int) := by omega
  have hnm := hd.max
  unfold maxLen at hnm
  have hfew := hd.few
  have HD := Lib.hid hd
  have HP := Lib.hid hp
  clear hd hp
  obtain ⟨o1, o2⟩ := nmOk_yes hk
  have o3 : ¬ (nm.size : Int) < 1 := by omega
  have o4 : ¬ room < (s.size : Int) := by omega
  clear hk
  have S0 := Lib.hid (Sb.new w A n c room fuse false)
  have z8 : (l[k].sf.size : Int) + (l[k].wt.size : Int) ≤ 2305843009213693952 := by omega
  have q4 : (k : Int) < (n : Int) := by omega
  have q5 : 0 ≤ (k : Int) := by omega
  go_enter Tryz.func42, Tryz.ntmps42
  go_wp2_with fail
  refine (ref_at nm A n c room fuse false l _ (HD.out.files.q S0.out.q) HD.out.max).mono ?_
  rw [HP.out]
  rintro e w1 ⟨rfl, q1⟩
  have S1 := Lib.hid (S0.out.step q1)
  obtain ⟨ad, rfl, _, _⟩ := (HD.out.files.q S1.out.q).load hkn hkl
  clear S0 q1
  obtain ⟨⟨e0, e1, e2, e3⟩, f0, f1, f2, f3⟩ := S1.out.get
  have z0 : w.heap.size + 1 < w1.heap.size := S1.out.res.lt
  go_upto_region 10 with (fail)
  have B1 := Lib.hid (And.intro (Bx.new w1 [.string nm, .string ⟨#[]⟩, .string ⟨#[]⟩] 42) (S1.out.step ((Q.refl _).alloc (.cells #[.string nm, .string ⟨#[]⟩, .string ⟨#[]⟩] 42))))
  generalize (w1.alloc (.cells #[.string nm, .string ⟨#[]⟩, .string ⟨#[]⟩] 42)) = W at B1 ⊢
  generalize w1.heap.size = g at B1 z0 ⊢
  clear e0 e1 e2 e3 f0 f1 f2 f3
  obtain ⟨ad', hadd, hb, c0, c1, c3⟩ := (HD.out.files.q B1.out.2.q).load hkn hkl
  obtain rfl : ad = ad' := by injection hadd
  clear hadd
  obtain ⟨⟨e0, e1, e2, e3⟩, f0, f1, f2, f3⟩ := B1.out.2.get
  obtain ⟨⟨b0, b1, b2⟩, y0, y1, y2⟩ := B1.out.1.get3
  go_upto_region 11 with (fail)
  have B2 := Lib.hid (And.intro (B1.out.1.put3 (.string l[k].nm) (.string l[k].sf) (.string l[k].wt)) (B1.out.2.far3 z0 (.string l[k].nm) (.string l[k].sf) (.string l[k].wt)))
  clear e0 e1 e2 e3 f0 f1 f2 f3 b0 b1 b2 y0 y1 y2 c0 c1 c3 hb B1
  generalize (((W.setCell ⟨g, 0, none⟩ (.string l[k].nm)).setCell ⟨g, 1, none⟩ (.string l[k].sf)).setCell ⟨g, 2, none⟩ (.string l[k].wt)) = W1 at B2 ⊢
  have B1 := B2
  clear B2
  obtain ⟨⟨b0, b1, b2⟩, _⟩ := B1.out.1.get3
  obtain ⟨⟨e0, e1, e2, e3⟩, f0, f1, f2, f3⟩ := B1.out.2.get
  obtain ⟨⟨s0, s1, s2, s3⟩, h0', h1, h2, h3⟩ := B1.out.2.getR
  go_wp2
  go_outline
  refine bodyPost_ret (v := .tuple #[dkv (some ad) n c room fuse false, .int .i64 4]) (by simp [results, Tryz.results42, go_sem, s0, s1, s2, s3]) rfl ?_
  exact B1.out.2.endK HD.out 4 _ _ _ _
end Go.Proofs.YtggbdhnjogalgaaGreatDoor

/- A region that draws its order: the condition on the world may be made stronger on the way. -/
namespace Go
set_option maxRecDepth 100000
section
variable {P : Program} {ops : Array Oper} {Q : Exit → Act → World → Prop} {md : Region.Mode} {S S' : World → Prop}
end
end Go

/- A region that draws its order and stores, as its operation k, into a cell that it loads: what is known of the world is asked only till k comes up; a load may be taken first if k waits for it. -/
namespace Go.Proofs.YtggbdhnjogalgaaGreatDoor
set_option maxRecDepth 100000
section
variable {P : Program} {ops : Array Oper} {Q : Exit → Act → World → Prop} {md : Region.Mode} {k : Nat}

/-- The pair of what is owed behind a step: S, as long as k has not come up; and what follows. -/
def Till (k : Nat) (S : World → Prop) (T : Array Bool → Act → World → Prop) (l : Array Bool) : Act → World → Prop := fun a w => (l.getD k true = false → S w) ∧ T l a w
/-- In whatever order the rest comes up: Q at the end; S till k. -/
def wpAnyL (P : Program) (md : Region.Mode) (ops : Array Oper) (Q : Exit → Act → World → Prop) (k : Nat) (S : World → Prop) (fuel : Nat) : Array Bool → Act → World → Prop :=
  Nat.rec (fun l a w => Region.ready md ops l = [] ∧ Q .normal a w)
    (fun _ T l a w => (Region.ready md ops l = [] → Q .normal a w) ∧ ∀ j, j ∈ Region.ready md ops l → wpOp P ops Q j (Till k S T (l.setIfInBounds j true)) a w) fuel

variable {S S' : World → Prop}
theorem wpAnyL_zero {l : Array Bool} {a : Act} {w : World} : wpAnyL P md ops Q k S 0 l a w ↔ Region.ready md ops l = [] ∧ Q .normal a w := Iff.rfl
theorem wpAnyL_succ {n : Nat} {l : Array Bool} {a : Act} {w : World} : wpAnyL P md ops Q k S (n + 1) l a w ↔
    (Region.ready md ops l = [] → Q .normal a w) ∧ ∀ j, j ∈ Region.ready md ops l → wpOp P ops Q j (Till k S (wpAnyL P md ops Q k S n) (l.setIfInBounds j true)) a w := Iff.rfl

/-- S dropped altogether. -/
theorem wpAnyL_plain (n : Nat) : ∀ (l : Array Bool) (a : Act) (w : World), wpAnyL P md ops Q k S n l a w → wpAny P md ops Q n l a w := by
  induction n with
  | zero => exact fun l a w h => h
  | succ n ih => exact fun l a w h => ⟨(wpAnyL_succ.1 h).1, fun j hj => wpOp_mono (fun a' w' h' => ih _ a' w' h'.2) ((wpAnyL_succ.1 h).2 j hj)⟩
theorem getD_set_up {l : Array Bool} {j : Nat} (h : l.getD k true = true) : (l.setIfInBounds j true).getD k true = true := by
  rcases Nat.decEq j k with e | rfl
  · rw [getD_set_ne true e]; exact h
  · simp [Array.getElem?_setIfInBounds]; split <;> simp
/-- Behind k nothing is asked. -/
theorem wpAnyL_free (n : Nat) : ∀ (l : Array Bool) (a : Act) (w : World), l.getD k true = true → wpAnyH P md ops Q (fun _ => True) n l a w → wpAnyL P md ops Q k S n l a w := by
  induction n with
  | zero => exact fun l a w _ h => h
  | succ n ih =>
    intro l a w hl h
    refine wpAnyL_succ.2 ⟨h.1, fun j hj => wpOp_mono (fun a' w' h' => ⟨fun e => ?_, ih _ a' w' (getD_set_up hl) h'.2⟩) (h.2 j hj)⟩
    rw [getD_set_up hl] at e
    cases e

/-- k waits for i. -/
def waitsFor (md : Region.Mode) (ops : Array Oper) (k i : Nat) : Bool := match ops[k]? with | some o => o.after.any (fun e => Region.binds md e && e.on == i) | none => false
/-- Of two that may come up now none waits for the other one. -/
theorem ready_free {l : Array Bool} {i j : Nat} {o : Oper} (hi : i ∈ Region.ready md ops l) (hj : j ∈ Region.ready md ops l) (ho : ops[j]? = some o) : ∀ e ∈ o.after, Region.binds md e = true → e.on ≠ i := by
  obtain ⟨hi0, _⟩ := mem_ready.1 hi
  obtain ⟨_, o', ho', hall⟩ := mem_ready.1 hj
  obtain rfl : o = o' := by rw [ho] at ho'; injection ho'
  intro e he hb heq
  have hl := hall e he hb
  rw [heq] at hl
  cases hg : l[i]? with
  | none => simp [hg] at hl
  | some b => simp [hg] at hi0 hl; rw [hi0] at hl; cases hl
theorem not_waits {l : Array Bool} {i : Nat} (hi : i ∈ Region.ready md ops l) (hk : waitsFor md ops k i = true) : ¬ k ∈ Region.ready md ops l := fun hj => by
  unfold waitsFor at hk
  split at hk
  · rename_i o ho
    obtain ⟨e, he, h2⟩ := Array.any_eq_true'.1 hk
    rw [Bool.and_eq_true, beq_iff_eq] at h2
    exact ready_free hi hj ho e he h2.1 h2.2
  · cases hk

/-- Number i first: nobody who could come ahead of it makes a difference, and k waits for it. -/
theorem wpAnyL_take {i : Nat} {oi : Oper} {v : Value} {fuel : Nat} {listed : Array Bool} {a : Act} {w : World} (hi : ops[i]? = some oi)
    (hs : Region.noSelect ops = true) (hf : Region.free md ops listed i = true) (hr : (Region.ready md ops listed).contains i = true)
    (hk : (listed.getD k true == false && waitsFor md ops k i && i != k) = true)
    (hQ : ∀ c a w, Q (.panic c) (a.put oi.dst v) w → Q (.panic c) a w) (hy : YieldsIf P ops S oi v a) (hS : S w)
    (h : wpAnyL P md ops Q k S fuel (listed.setIfInBounds i true) (a.put oi.dst v) w) : wpAnyL P md ops Q k S (fuel + 1) listed a w := by
  simp only [Bool.and_eq_true, beq_iff_eq, bne_iff_ne, ne_eq] at hk
  obtain ⟨⟨hku, hkw⟩, hik⟩ := hk
  have hap := Region.free_spec hi hf
  have hr' : i ∈ Region.ready md ops listed := by simpa using hr
  have hno := Region.noSelect_spec hs
  clear hf hr
  -- the same for every state: by the number of those that are left
  induction fuel generalizing listed a w with
  | zero =>
    refine wpAnyL_succ.2 ⟨fun e => absurd hr' (by rw [e]; exact List.not_mem_nil), fun j hj => ?_⟩
    rcases Nat.decEq j i with e | rfl
    · exact absurd (ready_mono hj e) (by rw [(wpAnyL_zero.1 h).1]; exact List.not_mem_nil)
    · exact hy.wpOp hi hS ⟨fun _ => hS, h⟩
  | succ n ih =>
    refine wpAnyL_succ.2 ⟨fun e => absurd hr' (by rw [e]; exact List.not_mem_nil), fun j hj => ?_⟩
    rcases Nat.decEq j i with e | rfl
    case isTrue => exact hy.wpOp hi hS ⟨fun _ => hS, h⟩
    have hjk : j ≠ k := by rintro rfl; exact not_waits hr' hkw hj
    obtain ⟨hun, oj, hoj, _⟩ := mem_ready.1 hj
    have other := wpOp_putIf hoj (hap j oj hoj e hun (ready_free hr' hj hoj)) (fun cs b => hno i oi cs b hi) (fun cs b => hno j oj cs b hoj) hQ hy ((wpAnyL_succ.1 h).2 j (ready_mono hj e))
    have hku' : (listed.setIfInBounds j true).getD k true = false := (getD_set_ne true hjk).trans hku
    refine wpOp_mono (fun a' w' ⟨hy', hS', hT⟩ => ?_) other
    have hSw : S w' := hS' (by rw [getD_set_ne true hjk, getD_set_ne true hik]; exact hku)
    rw [Array.setIfInBounds_comm _ _ (Ne.symm e)] at hT
    refine ⟨fun _ => hSw, ih hy' hSw hT hku' (fun m om hm hmi hmu hme => hap m om hm hmi ?_ hme) (ready_mono hr' (Ne.symm e))⟩
    rcases Nat.decEq j m with e2 | rfl
    · rwa [getD_set_ne true e2] at hmu
    · exact hun

def AllReadyL (P : Program) (md : Region.Mode) (ops : Array Oper) (Q : Exit → Act → World → Prop) (k : Nat) (S : World → Prop) (fuel : Nat) (listed : Array Bool) (a : Act) (w : World) (rs : List Nat) : Prop :=
  ∀ j, j ∈ rs → wpOp P ops Q j (Till k S (wpAnyL P md ops Q k S fuel) (listed.setIfInBounds j true)) a w
theorem AllReadyL.nil {fuel : Nat} {listed : Array Bool} {a : Act} {w : World} : AllReadyL P md ops Q k S fuel listed a w [] := fun _ h => absurd h List.not_mem_nil
/-- a step ahead of k: S is shown anew, and handed on. -/
theorem AllReadyL.cons {fuel : Nat} {listed : Array Bool} {a : Act} {w : World} {i : Nat} {o : Oper} {rs : List Nat} (ho : ops[i]? = some o)
    (h : ∀ K : Act → World → Prop, Shut (∀ a w, S w → (S w → wpAnyL P md ops Q k S fuel (listed.setIfInBounds i true) a w) → K a w) → if Region.wanted o (yielded ops a.tmps) = true then Oper.wp P o a w K Q else K (a.put o.dst undef) w)
    (hs : AllReadyL P md ops Q k S fuel listed a w rs) : AllReadyL P md ops Q k S fuel listed a w (i :: rs) :=
  List.forall_mem_cons.2 ⟨wpOp_step ho fun K hK => h K fun a w h1 h2 => hK a w ⟨fun _ => h1, h2 h1⟩, hs⟩
/-- the step k itself: nothing is to be shown anew. -/
theorem AllReadyL.consK {fuel : Nat} {listed : Array Bool} {a : Act} {w : World} {o : Oper} {rs : List Nat} (ho : ops[k]? = some o) (hl : (listed.setIfInBounds k true).getD k true = true)
    (h : ∀ K : Act → World → Prop, Shut (∀ a w, wpAnyH P md ops Q (fun _ => True) fuel (listed.setIfInBounds k true) a w → K a w) → if Region.wanted o (yielded ops a.tmps) = true then Oper.wp P o a w K Q else K (a.put o.dst undef) w)
    (hs : AllReadyL P md ops Q k S fuel listed a w rs) : AllReadyL P md ops Q k S fuel listed a w (k :: rs) :=
  List.forall_mem_cons.2 ⟨wpOp_step ho fun K hK => h K fun a w h2 => hK a w ⟨(fun e => by rw [hl] at e; cases e), wpAnyL_free fuel _ a w hl h2⟩, hs⟩
theorem wpAnyL_ready {rs : List Nat} {fuel : Nat} {listed : Array Bool} {a : Act} {w : World} (hr : Region.ready md ops listed = rs) (hne : rs ≠ [])
    (h : AllReadyL P md ops Q k S fuel listed a w rs) : wpAnyL P md ops Q k S (fuel + 1) listed a w :=
  wpAnyL_succ.2 ⟨fun e => absurd (hr.symm.trans e) hne, fun j hj => h j (by rwa [hr] at hj)⟩
/-- the beginning. -/
theorem wp_region_heldL (k : Nat) (S : World → Prop) {id : Nat} {a : Act} {w : World} (hm : P.follows .mixedOrders = true) (hS : S w.drew)
    (h : S w.drew → wpAnyL P .any ops Q k S ops.size (Array.replicate ops.size false) a w.drew) : (Code.region id ops true).wp P Q a w :=
  wp_region_any hm (wpAnyL_plain _ _ _ _ (h hS))
end
end Go.Proofs.YtggbdhnjogalgaaGreatDoor

/- 'append(own, more...)' for rows of any kind of element: the source nil or not; only the own block has turned. -/
namespace Go.Proofs.YtggbdhnjogalgaaGreatDoor
set_option maxRecDepth 100000
open Go.RowKit
set_option linter.unusedVariables false

theorem run_appG {P : Program} {w : World} (base : Nat) (t ty e : TypeId) (z : Value) (size bytes : Nat) (ht : P.underlying t = some (.slice e)) (hinfo : (P.info? e).map (fun i => (i.zero, i.size, i.bytes)) = some (some z, size, bytes))
    (hzs : z.cells.size = size) (hsz : 0 < size) (A : Option Addr) (n c : Nat) (xs : List Value) (h : w.ownsRow base e size (.slice A n c) n xs)
    (A2 : Option Addr) (m c2 : Nat) (news : List Value) (hl : news.length = m * size) (hnews : ∀ j u, news[j]? = some u → ∃ a, A2 = some a ∧ w.cell? (a.add j) = some u) (h1 : ∀ u ∈ news, u.oneCell' = true)
    (hnil : A2 = none → m = 0 ∧ c2 = 0) (hmax : n + m ≤ maxLen) (hb : (n + m) * bytes ≤ 140737488355328) (hbase : base ≤ w.heap.size) :
    ∃ A' c' w', (Builtin.append_ #[t, t] ty #[.slice A n c, .slice A2 m c2]).run P w = .ok (.slice A' (n + m) c') w' ∧ w'.ownsRow base e size (.slice A' (n + m) c') (n + m) (xs ++ news) ∧
      w.grownBy w' (Value.slice A n c).ownBlock ∧ ((Value.slice A' (n + m) c').ownBlock = (Value.slice A n c).ownBlock ∨ (Value.slice A' (n + m) c').ownBlock = some w.heap.size) := by
  obtain ⟨i, hi, hz, hs, hy⟩ := info_parts hinfo
  cases A2 with
  | none =>
    obtain ⟨rfl, rfl⟩ := hnil rfl
    have e2 : news = [] := List.eq_nil_of_length_eq_zero (by omega)
    subst e2
    exact ⟨A, c, w, run_append_owned_none (P := P) (w := w) base _ ty e i size ht hi _ n xs h, by simpa using h, World.grownBy.refl _ _, .inl rfl⟩
  | some ad =>
    obtain ⟨v', w', hr, ho, hg, hn, hat⟩ := run_append_own_at (P := P) (w := w) base t ty e i z size bytes ht hi hz hs hy hzs hsz (.slice A n c) n xs h ad m c2 news hl
      (fun j u hu => by obtain ⟨a', e, hc⟩ := hnews j u hu; injection e with e; subst e; exact hc) h1 hmax hb hbase
    rcases ho.2 with ⟨e, h0⟩ | ⟨g, cap, cur, e, _⟩
    · have h00 : Value.slice none 0 0 = .slice none (n + m) 0 := by rw [h0]
      rw [h00] at e
      subst e
      exact ⟨none, 0, w', hr, ho, hg, hat⟩
    · subst e
      exact ⟨_, cap, w', hr, ho, hg, hat⟩

/-- the same, at a step of a region that draws, or of a plain one. -/
theorem wp_appG {P : Program} {o : Oper} {a : Act} {w : World} {K : Act → World → Prop} {R : Exit → Act → World → Prop} (t : TypeId) (s x : Operand)
    (ho : o.op = .call { callee := .builtin .append, args := #[s, x], argTypes := #[t, t] })
    (base : Nat) (e : TypeId) (z : Value) (size bytes : Nat) (ht : P.underlying t = some (.slice e)) (hinfo : (P.info? e).map (fun i => (i.zero, i.size, i.bytes)) = some (some z, size, bytes))
    (hzs : z.cells.size = size) (hsz : 0 < size) (A : Option Addr) (n c : Nat) (xs : List Value) (hs : a.eval s = .slice A n c) (h : w.ownsRow base e size (.slice A n c) n xs)
    (A2 : Option Addr) (m c2 : Nat) (news : List Value) (hx : a.eval x = .slice A2 m c2) (hl : news.length = m * size) (hnews : ∀ j u, news[j]? = some u → ∃ a, A2 = some a ∧ w.cell? (a.add j) = some u) (h1 : ∀ u ∈ news, u.oneCell' = true)
    (hnil : A2 = none → m = 0 ∧ c2 = 0) (hmax : n + m ≤ maxLen) (hb : (n + m) * bytes ≤ 140737488355328) (hbase : base ≤ w.heap.size)
    (hK : ∀ A' c' w', w'.ownsRow base e size (.slice A' (n + m) c') (n + m) (xs ++ news) → w.grownBy w' (Value.slice A n c).ownBlock →
      ((Value.slice A' (n + m) c').ownBlock = (Value.slice A n c).ownBlock ∨ (Value.slice A' (n + m) c').ownBlock = some w.heap.size) → K (a.put o.dst (.slice A' (n + m) c')) w') : Oper.wp P o a w K R := by
  obtain ⟨A', c', w', hr, h3, h4, h5⟩ := run_appG (P := P) (w := w) base t o.type e z size bytes ht hinfo hzs hsz A n c xs h A2 m c2 news hl hnews h1 hnil hmax hb hbase
  unfold Oper.wp execOp
  simp only [ho, resolve, invoke, builtin, Sem.run_bind, Sem.run_pure, Result.andThen_ok, List.map_toArray, List.map_cons, List.map_nil, hs, hx, hr]
  exact hK A' c' w' h3 h4 h5
theorem wanted_plain {ops : Array Oper} {o : Oper} {a : Act} (hgd : o.guard = none) : Region.wanted o (yielded ops a.tmps) = true := by simp [Region.wanted, hgd]
theorem below_grown {B : Nat} {w w' : World} {row : Option Nat} (hg : w.grownBy w' row) (hB : B ≤ w.heap.size) (hr : ∀ k, row = some k → B ≤ k) : Below B w w' := (Below.refl _ _).grown hg hB hr
end Go.Proofs.YtggbdhnjogalgaaGreatDoor
