/- Contract: lock.Blockers, blocked. -/
import Derived.Test.YtenemdpjhoebpaaLockBlk2
namespace Go.Proofs.Ytenemdpjhoebpaa
set_option maxRecDepth 100000
open Go.RowKit Prm Lm Sm Go.Maps
set_option linter.unusedVariables false
set_option linter.unusedSimpArgs false

def I64H (l : List Ho) : Prop := ∀ h ∈ l, -9223372036854775808 ≤ h.txn ∧ h.txn ≤ 9223372036854775807
def I64C (l : List Cl) : Prop := ∀ h ∈ l, -9223372036854775808 ≤ h.txn ∧ h.txn ≤ 9223372036854775807
theorem Gb.new (w : World) (A : Option Addr) (n c : Nat) (B : Option Addr) (m d : Nat) (txn : Int) (x : Wn) : Gb w A n c B m d txn x (((((w.alloc (.cells #[.slice A n c, .slice B m d] 25)).alloc (.cells #[.int .i64 txn] 3)).alloc (.cells #[.int .i64 x.mode, .string x.lo, .string x.hi] 27)).alloc (.map #[] 0)).alloc (.cells #[.map (some (w.heap.size + 1 + 1 + 1))] 64)) := by
  have q5 := (((((Q.refl w).alloc (.cells #[.slice A n c, .slice B m d] 25)).alloc (.cells #[.int .i64 txn] 3)).alloc (.cells #[.int .i64 x.mode, .string x.lo, .string x.hi] 27)).alloc (.map #[] 0)).alloc (.cells #[.map (some (w.heap.size + 1 + 1 + 1))] 64)
  have s1 : (w.alloc (.cells #[.slice A n c, .slice B m d] 25)).heap.size = w.heap.size + 1 := by simp
  have s2 : ((w.alloc (.cells #[.slice A n c, .slice B m d] 25)).alloc (.cells #[.int .i64 txn] 3)).heap.size = w.heap.size + 1 + 1 := by simp
  have s4 : ((((w.alloc (.cells #[.slice A n c, .slice B m d] 25)).alloc (.cells #[.int .i64 txn] 3)).alloc (.cells #[.int .i64 x.mode, .string x.lo, .string x.hi] 27)).alloc (.map #[] 0)).heap.size = w.heap.size + 1 + 1 + 1 + 1 := by simp
  have h1 := ((((Bx.new w [.slice A n c, .slice B m d] 25).alloc (.cells #[.int .i64 txn] 3)).alloc (.cells #[.int .i64 x.mode, .string x.lo, .string x.hi] 27)).alloc (.map #[] 0)).alloc (.cells #[.map (some (w.heap.size + 1 + 1 + 1))] 64)
  have h2 := (((Bx.new (w.alloc (.cells #[.slice A n c, .slice B m d] 25)) [.int .i64 txn] 3).alloc (.cells #[.int .i64 x.mode, .string x.lo, .string x.hi] 27)).alloc (.map #[] 0)).alloc (.cells #[.map (some (w.heap.size + 1 + 1 + 1))] 64)
  have h3 := ((Bx.new ((w.alloc (.cells #[.slice A n c, .slice B m d] 25)).alloc (.cells #[.int .i64 txn] 3)) [.int .i64 x.mode, .string x.lo, .string x.hi] 27).alloc (.map #[] 0)).alloc (.cells #[.map (some (w.heap.size + 1 + 1 + 1))] 64)
  have h5 := Bx.new ((((w.alloc (.cells #[.slice A n c, .slice B m d] 25)).alloc (.cells #[.int .i64 txn] 3)).alloc (.cells #[.int .i64 x.mode, .string x.lo, .string x.hi] 27)).alloc (.map #[] 0)) [.map (some (w.heap.size + 1 + 1 + 1))] 64
  rw [s1] at h2
  rw [s2] at h3
  rw [s4] at h5
  exact ⟨(h1 0 _ rfl).1, (h1 1 _ rfl).1, ⟨h2.lt, h3.lt, (h2 0 _ rfl).1, (h3 0 _ rfl).1, (h3 1 _ rfl).1, (h3 2 _ rfl).1⟩, (h5 0 _ rfl).1, q5, by simp⟩
theorem made_map (w : World) (o1 o2 o3 o5 : Obj) (h : (((w.alloc o1).alloc o2).alloc o3).heap.size = w.heap.size + 1 + 1 + 1) : (((((w.alloc o1).alloc o2).alloc o3).alloc (.map #[] 0)).alloc o5).ownsMap Try.prog 3 (unitElem (H := Unit)) (w.heap.size + 1 + 1 + 1) 0 (.map []) := by
  rw [← h]
  exact (World.ownsMap_made _ Try.prog 3 unitElem).alloc _

set_option maxHeartbeats 8000000 in
set_option maxRecDepth 100000 in
theorem blockers_any (A B : Option Addr) (n c m d : Nat) (l : Lo) (txn : Int) (x : Wn) (N : Int) (w : World) (hA : Lst holdK w A n l.held) (hB : In_ claimK w B m d l.queue) (hi : I64H l.held) (hj : I64C l.queue) (hn : n ≤ 400000) (hm : m ≤ 400000) :
    Calls Try.prog 16 #[locV A n c B m d, .int .i64 txn, wnV x, .int .i64 N] w fun e w' => RetL numK w (blk l txn x N.toNat).length (blk l txn x N.toNat) e w' := by
  have HA := Lib.hid hA
  have HB := Lib.hid hB
  have HI := Lib.hid hi
  have HJ := Lib.hid hj
  have HAl := Lib.hid hA.len
  have HBl := Lib.hid hB.len
  have HBc := Lib.hid (And.intro hB.le hB.cap)
  have HBK := Lib.hid (show blk l txn x N.toNat = gatQ txn x (l.queue.take N.toNat) (gatH txn x l.held []) from rfl)
  have HRi := Lib.hid (blk_rise l txn x N.toNat)
  generalize blk l txn x N.toNat = bl at HBK HRi ⊢
  have hmm := @run_makeMap Try.prog
  have R0 := Lib.hid (Gb.new w A n c B m d txn x)
  have M0 := Lib.hid (made_map w (.cells #[.slice A n c, .slice B m d] 25) (.cells #[.int .i64 txn] 3) (.cells #[.int .i64 x.mode, .string x.lo, .string x.hi] 27) (.cells #[.map (some (w.heap.size + 1 + 1 + 1))] 64) (by simp))
  clear hA hB hi hj
  unfold wnV
  go_enter Try.func16, Try.ntmps16
  go_upto_region 2 with (fail)
  generalize (((((w.alloc (.cells #[.slice A n c, .slice B m d] 25)).alloc (.cells #[.int .i64 txn] 3)).alloc (.cells #[.int .i64 x.mode, .string x.lo, .string x.hi] 27)).alloc (.map #[] 0)).alloc (.cells #[.map (some (w.heap.size + 1 + 1 + 1))] 64)) = W0 at R0 M0 ⊢
  clear hmm
  have b0 := R0.out.b0
  go_wp2
  go_loopw [20] (fun i wr => ∃ (k : Nat) (D : DataW Unit) (os : List Int), k ≤ n ∧ i = .int .i64 k ∧ wr.ownsMap Try.prog 3 unitElem (w.heap.size + 1 + 1 + 1) k D ∧ KeysAre D os ∧ gatH txn x (l.held.take k) [] = os ∧ Gb w A n c B m d txn x wr) (fun i _ => n - (Go.RowKit.intOf i).toNat)
  case atStart => exact ⟨0, _, [], Nat.zero_le _, rfl, M0.out, keys_nil, rfl, R0.out⟩
  case round =>
    obtain ⟨k, D, os, hk, rfl, hm0, hkk, he, hr⟩ := hrel
    have HM := Lib.hid hm0
    have HK := Lib.hid hkk
    have HE := Lib.hid he
    have HR := Lib.hid hr
    clear hm0 hkk he hr b0 R0 M0
    by_cases hlt : k < n
    · have hkl : k < l.held.length := by have := HAl.out; omega
      have hkn : (k : Int) < (n : Int) := by omega
      have HG := Lib.hid (gatH_at (txn := txn) (w := x) hkl [])
      have HIk := Lib.hid (HI.out _ (List.getElem_mem hkl))
      obtain ⟨ad, rfl, hab, y0, y1, y2, y3⟩ := load_hold (HA.out.q HR.out.q) hlt hkl
      generalize l.held[k] = h at y0 y1 y2 y3 HG HIk
      have KG := Lib.hid (fun W hc hm hown => gather_any h.txn h.w x txn (w.heap.size + 1) (w.heap.size + 1 + 1) (w.heap.size + 1 + 1 + 1 + 1) (w.heap.size + 1 + 1 + 1) k D os W HIk.out hc hm hown HK.out (by omega))
      go_wp2_with fail
      refine (KG.out _ (HR.out.step ((Q.refl wr).alloc _)).cap (HR.out.step ((Q.refl wr).alloc _)).cm (HM.out.alloc _)).mono ?_
      rintro e w2 ⟨rfl, D2, m2, k2, g2⟩
      have S2 := Lib.hid (And.intro m2 (And.intro k2 ((HR.out.step ((Q.refl wr).alloc (.cells #[.int .i64 h.txn, .int .i64 h.w.mode, .string h.w.lo, .string h.w.hi] 52))).turn g2)))
      clear m2 k2 g2
      go_wp2
      go_roundw
      case rel => exact ⟨k + 1, D2, addT txn x h.txn h.w os, by omega, by go_num, S2.out.1, S2.out.2.1, by rw [HG.out, HE.out], S2.out.2.2⟩
      case measure => simp [Go.RowKit.intOf]; omega
    · have hkn : k = n := by omega
      subst hkn
      have HE : Hid (gatH txn x l.held [] = os) := Lib.hid (by have := HE.out; rwa [List.take_of_length_le (by have := HAl.out; omega)] at this)
      rw [HE.out] at HBK
      generalize hG : os = G at HBK HK HE
      clear hG
      have b1 := HR.out.b1
      have HR0 := HR
      have HM0 := HM
      have HK0 := HK
      clear HR HM HK
      obtain ⟨M, hM⟩ : ∃ M : Nat, (M : Int) = max 0 (min N m) := ⟨(max 0 (min N m)).toNat, by omega⟩
      have hMm : M ≤ m := by omega
      have HMt := Lib.hid (show l.queue.take N.toNat = l.queue.take M by
        by_cases h : N.toNat ≤ m
        · rw [show N.toNat = M by omega]
        · rw [List.take_of_length_le (by have := HBl.out; omega), List.take_of_length_le (by have := HBl.out; omega)])
      rw [HMt.out] at HBK
      have hB1 := HBc.out.1
      have hB2 := HBc.out.2
      unfold maxLen at hB2
      have hMd : M ≤ d := by omega
      have hM' : max 0 (min N (m : Int)) = (M : Int) := hM.symm
      clear hM
      cases B with
      | none =>
        obtain ⟨e1, e2⟩ := HB.out.nil rfl
        subst e1 e2
        have e3 : M = 0 := by omega
        subst e3
        go_wp2
        go_loopw [41] (fun i wr => ∃ (j : Nat) (D : DataW Unit) (os : List Int), j ≤ 0 ∧ i = .int .i64 j ∧ wr.ownsMap Try.prog 3 unitElem (w.heap.size + 1 + 1 + 1) (k + j) D ∧ KeysAre D os ∧ gatQ txn x (l.queue.take j) G = os ∧ Gb w A k c none 0 0 txn x wr) (fun i _ => 0 - (Go.RowKit.intOf i).toNat)
        case atStart => exact ⟨0, D, G, Nat.zero_le _, rfl, HM0.out, HK0.out, by simp [gatQ], HR0.out⟩
        case round =>
          rename_i Dq _
          clear HM0 HK0 HR0 b1
          obtain ⟨j, D, os, hj, rfl, hm0, hkk, he, hr⟩ := hrel
          have HM := Lib.hid hm0
          have HK := Lib.hid hkk
          have HE := Lib.hid he
          have HR := Lib.hid hr
          clear hm0 hkk he hr
          by_cases hlt : j < 0
          · (exfalso; omega)
          · have hjm : j = 0 := by omega
            subst hjm
            have HF := Lib.hid (show os = bl by rw [HBK.out, ← HE.out])
            have cm := HR.out.cm
            go_wp2_with fail
            refine (keys_any _ _).mono ?_
            rintro e w1 ⟨rfl, rfl⟩
            go_wp2_with fail
            refine (sorted_any (w.heap.size + 1 + 1 + 1) _ D bl wr HM.out (HF.out ▸ HK.out) HRi.out (by omega)).mono ?_
            rintro e w2 ⟨A2, c2, rfl, o2, q2⟩
            have S2 := Lib.hid (And.intro (o2.lower (b2 := w.heap.size) HR.out.q.size) (HR.out.q.trans q2))
            clear o2 q2
            go_wp2
            go_ret
            exact ⟨A2, c2, rfl, S2.out.1, S2.out.2⟩
      | some ad0 =>
        have hM0 : (0 : Int) ≤ (M : Int) := by omega
        go_wp2
        go_loopw [41] (fun i wr => ∃ (j : Nat) (D : DataW Unit) (os : List Int), j ≤ M ∧ i = .int .i64 j ∧ wr.ownsMap Try.prog 3 unitElem (w.heap.size + 1 + 1 + 1) (k + j) D ∧ KeysAre D os ∧ gatQ txn x (l.queue.take j) G = os ∧ Gb w A k c (some ad0) m d txn x wr) (fun i _ => M - (Go.RowKit.intOf i).toNat)
        case atStart => exact ⟨0, D, G, Nat.zero_le _, rfl, HM0.out, HK0.out, by simp [gatQ], HR0.out⟩
        case round =>
          rename_i Dq _
          clear HM0 HK0 HR0 b1
          obtain ⟨j, D, os, hj, rfl, hm0, hkk, he, hr⟩ := hrel
          have HM := Lib.hid hm0
          have HK := Lib.hid hkk
          have HE := Lib.hid he
          have HR := Lib.hid hr
          clear hm0 hkk he hr
          by_cases hlt : j < M
          · have hjl : j < l.queue.length := by have := HBl.out; omega
            have hkn : (j : Int) < (M : Int) := by omega
            have HG := Lib.hid (gatQ_at (txn := txn) (w := x) hjl G)
            have HIk := Lib.hid (HJ.out _ (List.getElem_mem hjl))
            obtain ⟨ad, hae, hab, y0, y1, y2, y3, y4⟩ := load_claim (HB.out.lst.q HR.out.q) (show j < m by omega) hjl
            injection hae with hae
            subst hae
            generalize l.queue[j] = h at y0 y1 y2 y3 y4 HG HIk
            have KG := Lib.hid (fun W hc hm hown => gather_any h.txn h.w x txn (w.heap.size + 1) (w.heap.size + 1 + 1) (w.heap.size + 1 + 1 + 1 + 1) (w.heap.size + 1 + 1 + 1) (k + j) D os W HIk.out hc hm hown HK.out (by omega))
            go_wp2_with fail
            refine (KG.out _ (HR.out.step ((Q.refl wr).alloc _)).cap (HR.out.step ((Q.refl wr).alloc _)).cm (HM.out.alloc _)).mono ?_
            rintro e w2 ⟨rfl, D2, m2, k2, g2⟩
            have S2 := Lib.hid (And.intro m2 (And.intro k2 ((HR.out.step ((Q.refl wr).alloc (.cells #[.int .i64 h.txn, .int .i64 h.w.mode, .string h.w.lo, .string h.w.hi, .int .u64 (h.til : Int)] 55))).turn g2)))
            clear m2 k2 g2
            go_wp2
            go_roundw
            case rel => exact ⟨j + 1, D2, addT txn x h.txn h.w os, by omega, by go_num, S2.out.1, S2.out.2.1, by rw [HG.out, HE.out], S2.out.2.2⟩
            case measure => simp [Go.RowKit.intOf]; omega
          · have hjm : j = M := by omega
            subst hjm
            have HF := Lib.hid (show os = bl by rw [HBK.out, ← HE.out])
            have cm := HR.out.cm
            go_wp2_with fail
            refine (keys_any _ _).mono ?_
            rintro e w1 ⟨rfl, rfl⟩
            go_wp2_with fail
            refine (sorted_any (w.heap.size + 1 + 1 + 1) (k + j) D bl wr HM.out (HF.out ▸ HK.out) HRi.out (by omega)).mono ?_
            rintro e w2 ⟨A2, c2, rfl, o2, q2⟩
            have S2 := Lib.hid (And.intro (o2.lower (b2 := w.heap.size) HR.out.q.size) (HR.out.q.trans q2))
            clear o2 q2
            go_wp2
            go_ret
            exact ⟨A2, c2, rfl, S2.out.1, S2.out.2⟩
end Go.Proofs.Ytenemdpjhoebpaa
