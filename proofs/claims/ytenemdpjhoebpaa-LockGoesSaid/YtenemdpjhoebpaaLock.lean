/- Contracts: lock's own, has, Waits, blocked, Late, Same. -/
import Derived.Test.YtenemdpjhoebpaaLockBlk3
import Derived.Deep.RegionHeld3
namespace Go.Proofs.Ytenemdpjhoebpaa
set_option maxRecDepth 100000
open Go.RowKit Prm Lm Sm
set_option linter.unusedVariables false
set_option linter.unusedSimpArgs false

/-- locks of the call's own, told by their ending. -/
def RetLo (w : World) (l : Lo) (e : Ending) (w' : World) : Prop :=
  ∃ A c B d, e = .returned (locV A l.held.length c B l.queue.length d) ∧ OwnK holdK w' w.heap.size A l.held.length c l.held ∧ OwnK claimK w' w.heap.size B l.queue.length d l.queue ∧ Q w w'

set_option maxHeartbeats 2000000 in
theorem lown_any (A B : Option Addr) (n c m d : Nat) (l : Lo) (w : World) (hA : In_ holdK w A n c l.held) (hB : In_ claimK w B m d l.queue) :
    Calls Try.prog 31 #[locV A n c B m d] w (RetLo w l) := by
  have HA := Lib.hid (fun W q => cloneHolds A n c l.held W (hA.q q))
  have HB := Lib.hid (fun W q => cloneClaims B m d l.queue W (hB.q q))
  have HN := Lib.hid hA.len
  have HM := Lib.hid hB.len
  clear hA hB
  go_enter Try.func31, Try.ntmps31
  go_upto_region 1 with (fail)
  have X : Hid (Bx ((w.alloc (.cells #[.slice A n c, .slice B m d] 25)).alloc (.cells #[.slice none 0 0, .slice none 0 0] 25)) w.heap.size [.slice A n c, .slice B m d] ∧
      Bx ((w.alloc (.cells #[.slice A n c, .slice B m d] 25)).alloc (.cells #[.slice none 0 0, .slice none 0 0] 25)) (w.heap.size + 1) [.slice none 0 0, .slice none 0 0] ∧
      Q w ((w.alloc (.cells #[.slice A n c, .slice B m d] 25)).alloc (.cells #[.slice none 0 0, .slice none 0 0] 25)) ∧ w.heap.size + 1 + 1 ≤ ((w.alloc (.cells #[.slice A n c, .slice B m d] 25)).alloc (.cells #[.slice none 0 0, .slice none 0 0] 25)).heap.size) := by
    refine Lib.hid ⟨(Bx.new w [.slice A n c, .slice B m d] 25).alloc _, ?_, ((Q.refl w).alloc _).alloc _, by simp⟩
    have := Bx.new (w.alloc (.cells #[.slice A n c, .slice B m d] 25)) [.slice none 0 0, .slice none 0 0] 25
    simpa using this
  generalize ((w.alloc (.cells #[.slice A n c, .slice B m d] 25)).alloc (.cells #[.slice none 0 0, .slice none 0 0] 25)) = w2 at X ⊢
  obtain ⟨⟨c0, c1⟩, _⟩ := X.out.1.get2
  go_wp2
  go_region_held3 (fun w' => w'.cell? ⟨w.heap.size, 0, none⟩ = some (.slice A n c) ∧ w'.cell? ⟨w.heap.size, 1, none⟩ = some (.slice B m d))
    (first
      | go_keep
      | (go_split_ands
         (repeat' apply And.intro) <;> exact box_ ‹Q _ _› (by assumption)))
    (first
      | (go_at_call 53
         (with_reducible refine (HA.out _ X.out.2.2.1.drew).mono ?_)
         rintro e w3 ⟨A3, c3, rfl, o3, y3⟩)
      | (go_at_call 54
         (with_reducible refine (HB.out _ (X.out.2.2.1.drew.trans y3)).mono ?_)
         rintro e w4 ⟨A4, c4, rfl, o4, y4⟩
         obtain ⟨⟨p0, p1⟩, p2, p3⟩ := (((X.out.2.1.q (Q.refl _).drew).q y3).q y4).get2))
  have HO3 := Lib.hid (o3.q y4)
  have HO4 := Lib.hid o4
  have HY := Lib.hid ((X.out.2.2.1.drew.trans y3).trans y4)
  have HR := Lib.hid ((((X.out.2.1.q (Q.refl _).drew).q y3).q y4).set2 (.slice A3 n c3) (.slice A4 m c4))
  have HS := Lib.hid (show w.heap.size + 1 + 1 ≤ w3.heap.size from Nat.le_trans X.out.2.2.2 y3.size)
  clear o3 o4 y3 y4
  obtain ⟨⟨r0, r1⟩, _⟩ := HR.out.get2
  go_wp2
  refine bodyPost_ret (v := locV A3 n c3 A4 m c4) (by simp [results, Try.results31, go_sem, r0, r1]) rfl ?_
  refine ⟨A3, c3, A4, c4, by rw [HN.out, HM.out], ?_, ?_, HY.out.set2 (by omega) _ _⟩
  · rw [HN.out]; exact (HO3.out.set2 (b := w.heap.size + 1) (by have := X.out.2.2.2; simp only [World.size_drew]; omega) _ _).lower (by have := X.out.2.2.2; simp only [World.size_drew]; omega)
  · rw [HM.out]; exact (HO4.out.set2 (b := w.heap.size + 1) (by have := HS.out; omega) _ _).lower (by have := HS.out; omega)

theorem lwaits_any (A B : Option Addr) (n c m d : Nat) (l : Lo) (txn : Int) (w : World) (hB : Lst claimK w B m l.queue) (hm : m ≤ maxLen) :
    Calls Try.prog 20 #[locV A n c B m d, .int .i64 txn] w fun e w' => e = .returned (.bool (waits l txn)) ∧ Q w w' := by
  have hw : waits l txn = l.queue.any (isC txn) := rfl
  rw [hw]
  have K := Lib.hid (fun W hc hq => contains_waits1 txn (w.heap.size + 1) B m d l.queue W hc hq hm)
  have HB := Lib.hid hB
  have Q2 := Lib.hid (((Q.refl w).alloc (.cells #[.slice A n c, .slice B m d] 25)).alloc (.cells #[.int .i64 txn] 3))
  have C2 : Hid (Cap1 ((w.alloc (.cells #[.slice A n c, .slice B m d] 25)).alloc (.cells #[.int .i64 txn] 3)) txn (w.heap.size + 1)) := Lib.hid ⟨by simp, by simp⟩
  generalize l.queue.any (isC txn) = r at K ⊢
  clear hB hw
  go_enter Try.func20, Try.ntmps20
  go_wp2_with fail
  refine (K.out _ C2.out (HB.out.q Q2.out)).mono ?_
  rintro e w1 ⟨rfl, q1⟩
  have Q3 := Lib.hid (Q2.out.trans q1)
  clear q1
  go_wp2
  go_ret
  exact ⟨rfl, Q3.out⟩

theorem lhas_any (A B : Option Addr) (n c m d : Nat) (l : Lo) (txn : Int) (x : Wn) (w : World) (hA : Lst holdK w A n l.held) (hn : n ≤ maxLen) :
    Calls Try.prog 33 #[locV A n c B m d, .int .i64 txn, wnV x] w fun e w' => e = .returned (.bool (covered l txn x)) ∧ Q w w' := by
  have hw : covered l txn x = l.held.any (hasH txn x) := by
    unfold covered hasH
    congr 1; funext h; exact Bool.and_comm _ _
  rw [hw]
  have K := Lib.hid (fun W hc hq => contains_has1 txn x (w.heap.size + 1) (w.heap.size + 1 + 1) A n c l.held W hc hq hn)
  have HA := Lib.hid hA
  have Q3 := Lib.hid ((((Q.refl w).alloc (.cells #[.slice A n c, .slice B m d] 25)).alloc (.cells #[.int .i64 txn] 3)).alloc (.cells #[.int .i64 x.mode, .string x.lo, .string x.hi] 27))
  have C3 : Hid (Cap2 (((w.alloc (.cells #[.slice A n c, .slice B m d] 25)).alloc (.cells #[.int .i64 txn] 3)).alloc (.cells #[.int .i64 x.mode, .string x.lo, .string x.hi] 27)) txn x (w.heap.size + 1) (w.heap.size + 1 + 1)) := by
    have h2 := (Bx.new (w.alloc (.cells #[.slice A n c, .slice B m d] 25)) [.int .i64 txn] 3).alloc (.cells #[.int .i64 x.mode, .string x.lo, .string x.hi] 27)
    have h3 := Bx.new ((w.alloc (.cells #[.slice A n c, .slice B m d] 25)).alloc (.cells #[.int .i64 txn] 3)) [.int .i64 x.mode, .string x.lo, .string x.hi] 27
    rw [show (w.alloc (.cells #[.slice A n c, .slice B m d] 25)).heap.size = w.heap.size + 1 by simp] at h2
    rw [show ((w.alloc (.cells #[.slice A n c, .slice B m d] 25)).alloc (.cells #[.int .i64 txn] 3)).heap.size = w.heap.size + 1 + 1 by simp] at h3
    exact Lib.hid ⟨h2.lt, h3.lt, (h2 0 _ rfl).1, (h3 0 _ rfl).1, (h3 1 _ rfl).1, (h3 2 _ rfl).1⟩
  generalize l.held.any (hasH txn x) = r at K ⊢
  clear hA hw
  unfold wnV
  go_enter Try.func33, Try.ntmps33
  go_wp2_with fail
  refine (K.out _ C3.out (HA.out.q Q3.out)).mono ?_
  rintro e w1 ⟨rfl, q1⟩
  have Q4 := Lib.hid (Q3.out.trans q1)
  clear q1
  go_wp2
  go_ret
  exact ⟨rfl, Q4.out⟩

/-- does anybody stand in the way? -/
def blkd (l : Lo) (txn : Int) (x : Wn) (N : Nat) : Bool := decide (0 < (blk l txn x N).length)
theorem blkd_false {l : Lo} {txn : Int} {x : Wn} {N : Nat} : blkd l txn x N = false ↔ blk l txn x N = [] := by
  unfold blkd
  cases h : blk l txn x N <;> simp
theorem lblocked_any (A B : Option Addr) (n c m d : Nat) (l : Lo) (txn : Int) (x : Wn) (N : Int) (w : World) (hA : Lst holdK w A n l.held) (hB : In_ claimK w B m d l.queue) (hi : I64H l.held) (hj : I64C l.queue) (hn : n ≤ 400000) (hm : m ≤ 400000) :
    Calls Try.prog 34 #[locV A n c B m d, .int .i64 txn, wnV x, .int .i64 N] w fun e w' => e = .returned (.bool (blkd l txn x N.toNat)) ∧ Q w w' := by
  have Q2 := Lib.hid (((Q.refl w).alloc (.cells #[.slice A n c, .slice B m d] 25)).alloc (.cells #[.int .i64 x.mode, .string x.lo, .string x.hi] 27))
  have K := Lib.hid (blockers_any A B n c m d l txn x N _ (hA.q Q2.out) (hB.q Q2.out) hi hj hn hm)
  unfold blkd
  generalize blk l txn x N.toNat = bl at K ⊢
  clear hA hB hi hj
  unfold wnV at *
  go_enter Try.func34, Try.ntmps34
  go_wp2_with fail
  refine K.out.mono ?_
  rintro e w1 ⟨A1, c1, rfl, o1, q1⟩
  have Q3 := Lib.hid (Q2.out.trans q1)
  clear q1 o1
  go_wp2
  go_ret
  exact ⟨rfl, Q3.out⟩

set_option maxHeartbeats 1000000 in
theorem llate_any (A B : Option Addr) (n c m d : Nat) (l : Lo) (now : Nat) (w : World) (hB : Lst claimK w B m l.queue) (hm : m ≤ 400000) :
    Calls Try.prog 18 #[locV A n c B m d, .int .u64 (now : Int)] w fun e w' => RetL numK w (late l now).length (late l now) e w' := by
  have HB := Lib.hid hB
  have HBl := Lib.hid hB.len
  rw [late_is]
  have Q1 := Lib.hid ((Q.refl w).alloc (.cells #[.slice A n c, .slice B m d] 25))
  clear hB
  go_enter Try.func18, Try.ntmps18
  go_wp2
  go_loopw [5, 11] (fun o i wr => ∃ (k : Nat) (C : Option Addr) (q : Nat) (os : List Int), k ≤ m ∧ i = .int .i64 k ∧ o = .slice C os.length q ∧ OwnK numK wr w.heap.size C os.length q os ∧ late1 now (l.queue.take k) = os ∧ Q w wr) (fun _ i _ => m - (Go.RowKit.intOf i).toNat)
  case atStart => exact ⟨0, none, 0, [], Nat.zero_le _, rfl, rfl, OwnK.nil_ _ _ _, rfl, Q1.out⟩
  case round =>
    obtain ⟨k, C, q, os, hk, rfl, rfl, o1, he, q1⟩ := hrel
    have HO := Lib.hid o1
    have HE := Lib.hid he
    have HQ := Lib.hid q1
    have hos : os.length ≤ k := by
      have := late_len now (l.queue.take k)
      rw [he, List.length_take] at this; omega
    clear o1 he q1
    by_cases hlt : k < m
    · have hkl : k < l.queue.length := by have := HBl.out; omega
      have hkn : (k : Int) < (m : Int) := by omega
      have HG := Lib.hid (late_at (now := now) hkl)
      obtain ⟨ad, rfl, hab, y0, y1, y2, y3, y4⟩ := load_claim (HB.out.q HQ.out) hlt hkl
      generalize l.queue[k] = h at y0 y1 y2 y3 y4 HG
      by_cases ht : h.til ≤ now
      · have HG2 := Lib.hid (show late1 now (l.queue.take (k + 1)) = os ++ [h.txn] by rw [HG.out, if_pos ht, HE.out])
        have hti : (h.til : Int) ≤ (now : Int) := by omega
        clear ht
        go_wp2_with (at_builtin
                     refine wpl_appK numK rfl _ _ 40 rfl rfl w.heap.size C os.length q os rfl ((HO.out.alloc _).alloc _) (some ⟨wr.heap.size + 1, 0, none⟩) 1 1 [h.txn] rfl (by have := lst_lit1 (wr.alloc (.cells #[.int .i64 h.txn, .int .i64 h.w.mode, .string h.w.lo, .string h.w.hi, .int .u64 (h.til : Int)] 55)) h.txn; simpa using this) (fun e => by cases e) (by show (os.length + 1) * 8 ≤ _; omega) (by have := HQ.out.size; simp; omega) ?_
                     intro A5 c5 w5 o5 b5
                     have O5 := Lib.hid o5
                     have Q5 := Lib.hid (show Q w w5 from ((HQ.out.alloc (.cells #[.int .i64 h.txn, .int .i64 h.w.mode, .string h.w.lo, .string h.w.hi, .int .u64 (h.til : Int)] 55)).alloc (.cells #[.int .i64 h.txn] 3)).below.trans b5)
                     clear o5 b5)
        go_roundw
        case rel => exact ⟨k + 1, A5, c5, os ++ [h.txn], by omega, by go_num, by rw [List.length_append]; rfl, by rw [List.length_append]; exact O5.out, HG2.out, Q5.out⟩
        case measure => simp [Go.RowKit.intOf]; omega
      · have HG2 := Lib.hid (show late1 now (l.queue.take (k + 1)) = os by rw [HG.out, if_neg ht, HE.out])
        have hti : ¬ (h.til : Int) ≤ (now : Int) := by omega
        clear ht
        go_wp2
        go_roundw
        case rel => exact ⟨k + 1, C, q, os, by omega, by go_num, rfl, HO.out.alloc _, HG2.out, HQ.out.alloc _⟩
        case measure => simp [Go.RowKit.intOf]; omega
    · have HF := Lib.hid (show late1 now l.queue = os by have := HE.out; rwa [List.take_of_length_le (by have := HBl.out; omega)] at this)
      go_wp2
      go_ret
      exact ⟨C, q, by rw [HF.out]; rfl, by rw [HF.out]; exact HO.out, HQ.out⟩

theorem lo_eq (x y : Lo) : decide (x = y) = (decide (x.held = y.held) && decide (x.queue = y.queue)) := by
  obtain ⟨a, b⟩ := x
  obtain ⟨c, d⟩ := y
  rw [Bool.eq_iff_iff]; simp
set_option maxHeartbeats 1000000 in
theorem lsame_any (A B C D : Option Addr) (n c m d p q r s : Nat) (x y : Lo) (w : World) (h1 : Lst holdK w A n x.held) (h2 : Lst claimK w B m x.queue) (h3 : Lst holdK w C p y.held) (h4 : Lst claimK w D r y.queue) (hn : n ≤ maxLen) (hm : m ≤ maxLen) (hp : p ≤ maxLen) (hr : r ≤ maxLen) :
    Calls Try.prog 22 #[locV A n c B m d, locV C p q D r s] w fun e w' => e = .returned (.bool (decide (x = y))) ∧ Q w w' := by
  have K1 := Lib.hid (fun W z => equalHolds A C n c p q x.held y.held W (h1.q z) (h3.q z) hn hp)
  have K2 := Lib.hid (fun W z => equalClaims B D m d r s x.queue y.queue W (h2.q z) (h4.q z) hm hr)
  rw [lo_eq]
  generalize decide (x.held = y.held) = r1 at K1 ⊢
  generalize decide (x.queue = y.queue) = r2 at K2 ⊢
  have B1 := (Bx.new w [.slice A n c, .slice B m d] 25).alloc (.cells #[.slice C p q, .slice D r s] 25)
  have B2 := Bx.new (w.alloc (.cells #[.slice A n c, .slice B m d] 25)) [.slice C p q, .slice D r s] 25
  rw [show (w.alloc (.cells #[.slice A n c, .slice B m d] 25)).heap.size = w.heap.size + 1 by simp] at B2
  have BQ := Lib.hid (((Q.refl w).alloc (.cells #[.slice A n c, .slice B m d] 25)).alloc (.cells #[.slice C p q, .slice D r s] 25))
  clear h1 h2 h3 h4
  cases r1
  all_goals
    go_enter Try.func22, Try.ntmps22
    go_wp2_with fail
    generalize (w.alloc (.cells #[.slice A n c, .slice B m d] 25)).alloc (.cells #[.slice C p q, .slice D r s] 25) = W at B1 B2 BQ ⊢
    obtain ⟨⟨c0, c1⟩, _⟩ := Bx.get2 B1
    obtain ⟨⟨d0, d1⟩, _⟩ := Bx.get2 B2
    refine (K1.out _ BQ.out).mono ?_
    rintro e w1 ⟨rfl, q1⟩
    have c1 := box_ q1 c1
    have d1 := box_ q1 d1
    have BQ1 := Lib.hid (BQ.out.trans q1)
    clear q1 c0 d0 B1 B2
    first
      | (go_wp2
         go_ret
         exact ⟨rfl, BQ1.out⟩)
      | (go_wp2_with fail
         refine (K2.out _ BQ1.out).mono ?_
         rintro e w2 ⟨rfl, q2⟩
         have BQ2 := Lib.hid (BQ1.out.trans q2)
         clear q2
         go_wp2
         go_ret
         exact ⟨by first | rfl | (simp; done), BQ2.out⟩)
end Go.Proofs.Ytenemdpjhoebpaa
