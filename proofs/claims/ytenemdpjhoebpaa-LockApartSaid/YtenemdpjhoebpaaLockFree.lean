/- Contract: lock.Free. -/
import Derived.Test.YtenemdpjhoebpaaLockSettle
import Derived.Test.YtenemdpjhoebpaaLockDel
namespace Go.Proofs.Ytenemdpjhoebpaa
set_option maxRecDepth 100000
open Go.RowKit Prm Lm Sm
set_option linter.unusedVariables false
set_option linter.unusedSimpArgs false

theorem stay_H (l : Lo) (txn : Int) : stay (isH txn) l.held = (Lm.keep l txn).held := by
  show l.held.filter _ = l.held.filter _
  congr 1; funext h; simp [isH]
theorem stay_C (l : Lo) (txn : Int) : stay (isC txn) l.queue = (Lm.keep l txn).queue := by
  show l.queue.filter _ = l.queue.filter _
  congr 1; funext h; simp [isC]
theorem LoI.keep {l : Lo} (h : LoI l) (txn : Int) : LoI (Lm.keep l txn) := ⟨fun a ha => h.1 a (List.mem_filter.1 ha).1, fun a ha => h.2 a (List.mem_filter.1 ha).1⟩

set_option maxHeartbeats 8000000 in
theorem lfree_any (A B : Option Addr) (n c m d : Nat) (l : Lo) (txn : Int) (w : World) (hA : In_ holdK w A n c l.held) (hB : In_ claimK w B m d l.queue) (hi : LoI l) (hn : n + m ≤ 300000) :
    Calls Try.prog 25 #[locV A n c B m d, .int .i64 txn] w fun e w' => RetS10 w (Lm.free l txn) e w' := by
  have KO := Lib.hid (fun W q => lown_any A B n c m d l W (hA.q q) (hB.q q))
  have HN := Lib.hid hA.len
  have HM := Lib.hid hB.len
  have HI := Lib.hid (hi.keep txn)
  have HK := Lib.hid (keep_len l txn)
  have hnm := Lib.hid (show (Lm.keep l txn).held.length ≤ n ∧ (Lm.keep l txn).queue.length ≤ m by rw [← hA.len, ← hB.len]; exact keep_len l txn)
  have HF := Lib.hid (show Lm.free l txn = Lm.settle (Lm.keep l txn) from rfl)
  generalize Lm.free l txn = R at HF ⊢
  have HS1 := Lib.hid (stay_H l txn)
  have HS2 := Lib.hid (stay_C l txn)
  generalize Lm.keep l txn = k at HI HK hnm HF HS1 HS2
  clear hA hB hi
  have HL0 : Hid (Bx (((w.alloc (.cells #[.slice A n c, .slice B m d] 25)).alloc (.cells #[.int .i64 txn] 3)).alloc (.cells #[.slice none 0 0, .slice none 0 0] 25)) w.heap.size [.slice A n c, .slice B m d] ∧ Bx (((w.alloc (.cells #[.slice A n c, .slice B m d] 25)).alloc (.cells #[.int .i64 txn] 3)).alloc (.cells #[.slice none 0 0, .slice none 0 0] 25)) (w.heap.size + 1) [.int .i64 txn] ∧ Bx (((w.alloc (.cells #[.slice A n c, .slice B m d] 25)).alloc (.cells #[.int .i64 txn] 3)).alloc (.cells #[.slice none 0 0, .slice none 0 0] 25)) (w.heap.size + 1 + 1) [.slice none 0 0, .slice none 0 0] ∧ Q w (((w.alloc (.cells #[.slice A n c, .slice B m d] 25)).alloc (.cells #[.int .i64 txn] 3)).alloc (.cells #[.slice none 0 0, .slice none 0 0] 25))) := by
    have h2 := (Bx.new (w.alloc (.cells #[.slice A n c, .slice B m d] 25)) [.int .i64 txn] 3).alloc (.cells #[.slice none 0 0, .slice none 0 0] 25)
    have h3 := Bx.new ((w.alloc (.cells #[.slice A n c, .slice B m d] 25)).alloc (.cells #[.int .i64 txn] 3)) [.slice none 0 0, .slice none 0 0] 25
    rw [show (w.alloc (.cells #[.slice A n c, .slice B m d] 25)).heap.size = w.heap.size + 1 by simp] at h2
    rw [show ((w.alloc (.cells #[.slice A n c, .slice B m d] 25)).alloc (.cells #[.int .i64 txn] 3)).heap.size = w.heap.size + 1 + 1 by simp] at h3
    exact Lib.hid ⟨((Bx.new w [.slice A n c, .slice B m d] 25).alloc _).alloc _, h2, h3, (((Q.refl w).alloc _).alloc _).alloc _⟩
  go_enter Try.func25, Try.ntmps25
  go_upto_region 1 with (fail)
  generalize ((w.alloc (.cells #[.slice A n c, .slice B m d] 25)).alloc (.cells #[.int .i64 txn] 3)).alloc (.cells #[.slice none 0 0, .slice none 0 0] 25) = W0 at HL0 ⊢
  obtain ⟨⟨b0, b1⟩, f0, f1⟩ := HL0.out.1.get2
  go_wp2_with fail
  refine (KO.out _ HL0.out.2.2.2).mono ?_
  rintro e w1 ⟨A1, c1, B1, d1, rfl, o1, o2, q1⟩
  rw [HN.out] at o1 ⊢
  rw [HM.out] at o2 ⊢
  obtain ⟨⟨_, _⟩, f0, f1⟩ := (HL0.out.1.q q1).get2
  have HX := Lib.hid ((HL0.out.2.1.q q1).far2 (c := w.heap.size) (by omega) (.slice A1 n c1) (.slice B1 m d1))
  have HL := Lib.hid (La.first HL0.out.1 HL0.out.2.2.1 HL0.out.2.2.2 q1 o1 o2)
  clear o1 o2 q1 b0 b1
  go_upto_region 2 with (fail)
  generalize (w1.setCell ⟨w.heap.size, 0, none⟩ (.slice A1 n c1)).setCell ⟨w.heap.size, 1, none⟩ (.slice B1 m d1) = W1 at HX HL ⊢
  clear f0 f1 HL0
  obtain ⟨⟨b0, b1⟩, f0, f1⟩ := HL.out.b1.get2
  have hrl := HL.out.b3.lt
  have ne1 : ∀ g, A1 = some ⟨g, 0, none⟩ → w.heap.size + 1 ≠ g := fun g e => by
    rcases HL.out.o1.parts with ⟨e0, _⟩ | ⟨g', cur, e0, hb, _⟩
    · rw [e0] at e; cases e
    · rw [e0] at e; injection e with e; injection e with e; omega
  go_wp2_with fail
  refine (delete_free1 txn (w.heap.size + 1) (w.heap.size + 1 + 1 + 1) A1 n c1 l.held _ HL.out.o1 ⟨HX.out.lt, (HX.out 0 _ rfl).1⟩ ne1 (by omega)).mono ?_
  rintro e w2 ⟨rfl, o2, g2⟩
  rw [HS1.out] at o2 ⊢
  have HX2 := Lib.hid ((HX.out.below (grown_below HL.out.o1 g2 (by omega)) (by omega)).far (p := ⟨w.heap.size, 0, none⟩) (by show w.heap.size ≠ w.heap.size + 1; omega) (.slice A1 k.held.length c1))
  obtain ⟨⟨b0, b1⟩, f0, f1⟩ := (HL.out.b1.below (grown_below HL.out.o1 g2 (by omega)) (by omega)).get2
  have HL2 := Lib.hid (HL.out.pushH (Q.refl _) o2 g2)
  clear o2 g2 hrl ne1
  go_upto_region 3 with (fail)
  generalize w2.setCell ⟨w.heap.size, 0, none⟩ (.slice A1 k.held.length c1) = W2 at HX2 HL2 ⊢
  clear b0 b1 f0 f1
  obtain ⟨⟨b0, b1⟩, f0, f1⟩ := HL2.out.b1.get2
  have hrl := HL2.out.b3.lt
  have ne2 : ∀ g, B1 = some ⟨g, 0, none⟩ → w.heap.size + 1 ≠ g := fun g e => by
    rcases HL2.out.o2.parts with ⟨e0, _⟩ | ⟨g', cur, e0, hb, _⟩
    · rw [e0] at e; cases e
    · rw [e0] at e; injection e with e; injection e with e; omega
  go_wp2_with fail
  refine (delete_free2 txn (w.heap.size + 1) (w.heap.size + 1 + 1 + 1) B1 m d1 l.queue _ HL2.out.o2 ⟨HX2.out.lt, (HX2.out 0 _ rfl).1⟩ ne2 (by omega)).mono ?_
  rintro e w3 ⟨rfl, o3, g3⟩
  rw [HS2.out] at o3 ⊢
  obtain ⟨⟨b0, b1⟩, f0, f1⟩ := (HL2.out.b1.below (grown_below HL2.out.o2 g3 (by omega)) (by omega)).get2
  have HL3 := Lib.hid (HL2.out.pushC (Q.refl _) o3 g3)
  clear o3 g3 hrl ne2
  go_upto_region 4 with (fail)
  generalize w3.setCell ⟨w.heap.size, 1, none⟩ (.slice B1 k.queue.length d1) = W3 at HL3 ⊢
  clear b0 b1 f0 f1
  obtain ⟨⟨b0, b1⟩, f0, f1⟩ := HL3.out.b1.get2
  have hb1 := hnm.out
  go_wp2_with fail
  refine (lsettle_any A1 B1 k.held.length c1 k.queue.length d1 k _ (HL3.out.o1.in_ (by show k.held.length * 48 ≤ _; omega)) (HL3.out.o2.in_ (by show k.queue.length * 56 ≤ _; omega)) HI.out (by omega)).mono ?_
  rintro e w4 ⟨A4, n4, c4, B4, m4, d4, C4, p4, q4, rfl, o5, o6, o7, y4⟩
  obtain ⟨⟨r0, r1⟩, g0, g1⟩ := (HL3.out.b3.q y4).get2
  have hr3 := HL3.out.b3.lt
  have Y := Lib.hid (And.intro (o5.set2 (b := w.heap.size + 1 + 1) (by omega) (.slice A4 n4 c4) (.slice B4 m4 d4)) (And.intro (o6.set2 (b := w.heap.size + 1 + 1) (by omega) (.slice A4 n4 c4) (.slice B4 m4 d4)) (And.intro (o7.set2 (b := w.heap.size + 1 + 1) (by omega) (.slice A4 n4 c4) (.slice B4 m4 d4)) ((HL3.out.q.trans y4).set2 (b := w.heap.size + 1 + 1) (by omega) (.slice A4 n4 c4) (.slice B4 m4 d4)))))
  have hq3 := HL3.out.q.size
  clear o5 o6 o7 y4 b0 b1 f0 f1
  go_wp2
  refine bodyPost_ret (v := .tuple #[locV A4 n4 c4 B4 m4 d4, .slice C4 p4 q4]) (by simp [results, Try.results25, go_sem, r0, r1, g0, g1]) rfl ?_
  rw [HF.out]
  exact ⟨A4, n4, c4, B4, m4, d4, C4, p4, q4, rfl, Y.out.1.lower hq3, Y.out.2.1.lower hq3, Y.out.2.2.1.lower hq3, Y.out.2.2.2⟩
end Go.Proofs.Ytenemdpjhoebpaa
