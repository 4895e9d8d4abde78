/- LockRefAsk: merged. -/
import Derived.Test.YtncnfblnelkmbaaA3
import Derived.Test.YtncnfblnelkmbaaA2
/- Contract: the document's Ask. -/
namespace Go.Proofs.Ytncnfblnelkmbaa
set_option maxRecDepth 100000
open Go.RowKit Prm Lm Sm
set_option linter.unusedVariables false
set_option linter.unusedSimpArgs false

/-- the same, and they may be handed on. -/
def RetAi (w : World) (r : Lo × Int) (e : Ending) (w' : World) : Prop :=
  ∃ A n c B m d, e = .returned (.tuple #[locV A n c B m d, .int .i64 r.2]) ∧ In_ holdK w' A n c r.1.held ∧ In_ claimK w' B m d r.1.queue ∧ Q w w'
structure Ra (w : World) (A : Option Addr) (n c : Nat) (B : Option Addr) (m d : Nat) (x : Wn) (wr : World) : Prop where
  b1 : Bx wr w.heap.size [.slice A n c, .slice B m d]
  b2 : Bx wr (w.heap.size + 1) [.int .i64 x.mode, .string x.lo, .string x.hi]
  b3 : Bx wr (w.heap.size + 1 + 1) [.slice none 0 0, .slice none 0 0]
  q : Q w wr
section
variable {w wr w2 w7 : World} {A B A7 : Option Addr} {n c m d N c7 : Nat} {x : Wn}
theorem Ra.step (h : Ra w A n c B m d x wr) (q : Q wr w2) : Ra w A n c B m d x w2 := ⟨h.b1.q q, h.b2.q q, h.b3.q q, h.q.trans q⟩
theorem Ra.new (w : World) (A : Option Addr) (n c : Nat) (B : Option Addr) (m d : Nat) (x : Wn) : Ra w A n c B m d x (((w.alloc (.cells #[.slice A n c, .slice B m d] 25)).alloc (.cells #[.int .i64 x.mode, .string x.lo, .string x.hi] 41)).alloc (.cells #[.slice none 0 0, .slice none 0 0] 25)) := by
  have h2 := (Bx.new (w.alloc (.cells #[.slice A n c, .slice B m d] 25)) [.int .i64 x.mode, .string x.lo, .string x.hi] 41).alloc (.cells #[.slice none 0 0, .slice none 0 0] 25)
  have h3 := Bx.new ((w.alloc (.cells #[.slice A n c, .slice B m d] 25)).alloc (.cells #[.int .i64 x.mode, .string x.lo, .string x.hi] 41)) [.slice none 0 0, .slice none 0 0] 25
  rw [show (w.alloc (.cells #[.slice A n c, .slice B m d] 25)).heap.size = w.heap.size + 1 by simp] at h2
  rw [show ((w.alloc (.cells #[.slice A n c, .slice B m d] 25)).alloc (.cells #[.int .i64 x.mode, .string x.lo, .string x.hi] 41)).heap.size = w.heap.size + 1 + 1 by simp] at h3
  exact ⟨((Bx.new w [.slice A n c, .slice B m d] 25).alloc _).alloc _, h2, h3, (((Q.refl w).alloc _).alloc _).alloc _⟩
theorem Ra.fin {l : Lo} (h : Ra w A n c B m d x wr) (hA : In_ holdK w A n c l.held) (hB : In_ claimK w B m d l.queue) (er : Int) (u v : Value) : RetAi w (l, er) (.returned (.tuple #[locV A n c B m d, .int .i64 er])) ((wr.setCell ⟨w.heap.size + 1 + 1, 0, none⟩ u).setCell ⟨w.heap.size + 1 + 1, 1, none⟩ v) := by
  have q := h.q.set2 (b := w.heap.size + 1 + 1) (by omega) u v
  exact ⟨A, n, c, B, m, d, rfl, hA.q q, hB.q q, q⟩
theorem Ra.finH {hs : List Ho} {qs : List Cl} (h : Ra w A n c B m d x wr) (q : Q wr w7) (o : OwnK holdK w7 wr.heap.size A7 N c7 hs) (hB : In_ claimK w B m d qs) (hN : N ≤ 400000) (er : Int) (y u v : Value) : RetAi w (⟨hs, qs⟩, er) (.returned (.tuple #[locV A7 N c7 B m d, .int .i64 er])) (((w7.setCell ⟨w.heap.size, 0, none⟩ y).setCell ⟨w.heap.size + 1 + 1, 0, none⟩ u).setCell ⟨w.heap.size + 1 + 1, 1, none⟩ v) := by
  have hl := h.b3.lt
  have q2 := ((h.q.trans q).setCell (p := ⟨w.heap.size, 0, none⟩) (Nat.le_refl _) y).set2 (b := w.heap.size + 1 + 1) (by omega) u v
  exact ⟨A7, N, c7, B, m, d, rfl, (((o.setCell (p := ⟨w.heap.size, 0, none⟩) (by show w.heap.size < _; omega) y).set2 (b := w.heap.size + 1 + 1) (by omega) u v)).in_ (by show N * 48 ≤ _; omega), hB.q q2, q2⟩
theorem Ra.finC {hs : List Ho} {qs : List Cl} (h : Ra w A n c B m d x wr) (q : Q wr w7) (o : OwnK claimK w7 wr.heap.size A7 N c7 qs) (hA : In_ holdK w A n c hs) (hN : N ≤ 400000) (er : Int) (y u v : Value) : RetAi w (⟨hs, qs⟩, er) (.returned (.tuple #[locV A n c A7 N c7, .int .i64 er])) (((w7.setCell ⟨w.heap.size, 1, none⟩ y).setCell ⟨w.heap.size + 1 + 1, 0, none⟩ u).setCell ⟨w.heap.size + 1 + 1, 1, none⟩ v) := by
  have hl := h.b3.lt
  have q2 := ((h.q.trans q).setCell (p := ⟨w.heap.size, 1, none⟩) (Nat.le_refl _) y).set2 (b := w.heap.size + 1 + 1) (by omega) u v
  exact ⟨A, n, c, A7, N, c7, rfl, hA.q q2, (((o.setCell (p := ⟨w.heap.size, 1, none⟩) (by show w.heap.size < _; omega) y).set2 (b := w.heap.size + 1 + 1) (by omega) u v)).in_ (by show N * 56 ≤ _; omega), q2⟩
end

set_option maxHeartbeats 8000000 in
set_option maxRecDepth 100000 in
theorem rask_a1 (A B : Option Addr) (n c m d : Nat) (l : Lo) (txn : Int) (x : Wn) (til : Nat) (w : World) (hA : In_ holdK w A n c l.held) (hB : In_ claimK w B m d l.queue) (hx : WnS x) (hh : WnsH l.held) (hc : WnsC l.queue) (hn : n ≤ 300000) (hm : m ≤ 300000) (h1 : txn < 1) :
    Calls Try.prog 21 #[locV A n c B m d, .int .i64 txn, wnV x, .int .u64 (til : Int)] w fun e w' => RetAi w (l, 1) e w' := by
  have HA := Lib.hid hA
  have HB := Lib.hid hB
  have HX := Lib.hid hx
  have HWH := Lib.hid hh
  have HWC := Lib.hid hc
  have HAl := Lib.hid hA.len
  have KM := Lib.hid (fun W => rmay_any x W hx)
  generalize may x = r at KM
  clear hA hB hx hh hc
  have HR := Lib.hid (Ra.new w A n c B m d x)
  unfold wnV at *
  go_enter Try.func21, Try.ntmps21
  go_upto_region 1 with (fail)
  generalize ((w.alloc (.cells #[.slice A n c, .slice B m d] 25)).alloc (.cells #[.int .i64 x.mode, .string x.lo, .string x.hi] 41)).alloc (.cells #[.slice none 0 0, .slice none 0 0] 25) = W0 at HR ⊢
  obtain ⟨⟨b0, b1⟩, f0, f1⟩ := HR.out.b1.get2
  obtain ⟨⟨r0, r1⟩, g0, g1⟩ := HR.out.b3.get2
  obtain ⟨⟨x0, x1, x2⟩, _⟩ := HR.out.b2.get3
  go_wp2_with fail
  refine (KM.out _).mono ?_
  rintro e v0 ⟨rfl, q2⟩
  have HR := Lib.hid (HR.out.step q2)
  clear q2 b0 b1 f0 f1 r0 r1 g0 g1 x0 x1 x2
  obtain ⟨⟨b0, b1⟩, f0, f1⟩ := HR.out.b1.get2
  obtain ⟨⟨r0, r1⟩, g0, g1⟩ := HR.out.b3.get2
  obtain ⟨⟨x0, x1, x2⟩, _⟩ := HR.out.b2.get3
  go_wp2
  refine bodyPost_ret (v := .tuple #[locV A n c B m d, .int .i64 1]) (by simp [results, Try.results21, go_sem, r0, r1, g0, g1]) rfl ?_
  exact HR.out.fin HA.out HB.out 1 _ _

set_option maxHeartbeats 8000000 in
set_option maxRecDepth 100000 in
theorem rask_a2 (A B : Option Addr) (n c m d : Nat) (l : Lo) (txn : Int) (x : Wn) (til : Nat) (w : World) (hA : In_ holdK w A n c l.held) (hB : In_ claimK w B m d l.queue) (hx : WnS x) (hh : WnsH l.held) (hc : WnsC l.queue) (hn : n ≤ 300000) (hm : m ≤ 300000) (h1 : 1 ≤ txn) (h2 : may x = false) :
    Calls Try.prog 21 #[locV A n c B m d, .int .i64 txn, wnV x, .int .u64 (til : Int)] w fun e w' => RetAi w (l, 1) e w' := by
  have HA := Lib.hid hA
  have HB := Lib.hid hB
  have HX := Lib.hid hx
  have HWH := Lib.hid hh
  have HWC := Lib.hid hc
  have HAl := Lib.hid hA.len
  have KM := Lib.hid (fun W => rmay_any x W hx)
  rw [h2] at KM
  clear hA hB hx hh hc h2
  have h1 : ¬ txn < 1 := by omega
  have HR := Lib.hid (Ra.new w A n c B m d x)
  unfold wnV at *
  go_enter Try.func21, Try.ntmps21
  go_upto_region 1 with (fail)
  generalize ((w.alloc (.cells #[.slice A n c, .slice B m d] 25)).alloc (.cells #[.int .i64 x.mode, .string x.lo, .string x.hi] 41)).alloc (.cells #[.slice none 0 0, .slice none 0 0] 25) = W0 at HR ⊢
  obtain ⟨⟨b0, b1⟩, f0, f1⟩ := HR.out.b1.get2
  obtain ⟨⟨r0, r1⟩, g0, g1⟩ := HR.out.b3.get2
  obtain ⟨⟨x0, x1, x2⟩, _⟩ := HR.out.b2.get3
  go_wp2_with fail
  refine (KM.out _).mono ?_
  rintro e v0 ⟨rfl, q2⟩
  have HR := Lib.hid (HR.out.step q2)
  clear q2 b0 b1 f0 f1 r0 r1 g0 g1 x0 x1 x2
  obtain ⟨⟨b0, b1⟩, f0, f1⟩ := HR.out.b1.get2
  obtain ⟨⟨r0, r1⟩, g0, g1⟩ := HR.out.b3.get2
  obtain ⟨⟨x0, x1, x2⟩, _⟩ := HR.out.b2.get3
  go_wp2
  refine bodyPost_ret (v := .tuple #[locV A n c B m d, .int .i64 1]) (by simp [results, Try.results21, go_sem, r0, r1, g0, g1]) rfl ?_
  exact HR.out.fin HA.out HB.out 1 _ _

set_option maxHeartbeats 8000000 in
set_option maxRecDepth 100000 in
theorem rask_a3 (A B : Option Addr) (n c m d : Nat) (l : Lo) (txn : Int) (x : Wn) (til : Nat) (w : World) (hA : In_ holdK w A n c l.held) (hB : In_ claimK w B m d l.queue) (hx : WnS x) (hh : WnsH l.held) (hc : WnsC l.queue) (hn : n ≤ 300000) (hm : m ≤ 300000) (h1 : 1 ≤ txn) (h2 : may x = true) (h3 : waits l txn = true) :
    Calls Try.prog 21 #[locV A n c B m d, .int .i64 txn, wnV x, .int .u64 (til : Int)] w fun e w' => RetAi w (l, 8) e w' := by
  have HA := Lib.hid hA
  have HB := Lib.hid hB
  have HX := Lib.hid hx
  have HWH := Lib.hid hh
  have HWC := Lib.hid hc
  have HAl := Lib.hid hA.len
  have KM := Lib.hid (fun W => rmay_any x W hx)
  rw [h2] at KM
  have KW := Lib.hid (fun W hq => rwaits_any A B n c m d l txn W hq (by omega))
  rw [h3] at KW
  clear hA hB hx hh hc h2 h3
  have h1 : ¬ txn < 1 := by omega
  have HR := Lib.hid (Ra.new w A n c B m d x)
  unfold wnV at *
  go_enter Try.func21, Try.ntmps21
  go_upto_region 1 with (fail)
  generalize ((w.alloc (.cells #[.slice A n c, .slice B m d] 25)).alloc (.cells #[.int .i64 x.mode, .string x.lo, .string x.hi] 41)).alloc (.cells #[.slice none 0 0, .slice none 0 0] 25) = W0 at HR ⊢
  obtain ⟨⟨b0, b1⟩, f0, f1⟩ := HR.out.b1.get2
  obtain ⟨⟨r0, r1⟩, g0, g1⟩ := HR.out.b3.get2
  obtain ⟨⟨x0, x1, x2⟩, _⟩ := HR.out.b2.get3
  go_wp2_with fail
  refine (KM.out _).mono ?_
  rintro e v0 ⟨rfl, q2⟩
  have HR := Lib.hid (HR.out.step q2)
  clear q2 b0 b1 f0 f1 r0 r1 g0 g1 x0 x1 x2
  obtain ⟨⟨b0, b1⟩, f0, f1⟩ := HR.out.b1.get2
  obtain ⟨⟨r0, r1⟩, g0, g1⟩ := HR.out.b3.get2
  obtain ⟨⟨x0, x1, x2⟩, _⟩ := HR.out.b2.get3
  go_wp2_with fail
  refine (KW.out _ (HB.out.lst.q HR.out.q)).mono ?_
  rintro e v1 ⟨rfl, q2⟩
  have HR := Lib.hid (HR.out.step q2)
  clear q2 b0 b1 f0 f1 r0 r1 g0 g1 x0 x1 x2
  obtain ⟨⟨b0, b1⟩, f0, f1⟩ := HR.out.b1.get2
  obtain ⟨⟨r0, r1⟩, g0, g1⟩ := HR.out.b3.get2
  obtain ⟨⟨x0, x1, x2⟩, _⟩ := HR.out.b2.get3
  go_wp2
  refine bodyPost_ret (v := .tuple #[locV A n c B m d, .int .i64 8]) (by simp [results, Try.results21, go_sem, r0, r1, g0, g1]) rfl ?_
  exact HR.out.fin HA.out HB.out 8 _ _

set_option maxHeartbeats 8000000 in
set_option maxRecDepth 100000 in
theorem rask_a4 (A B : Option Addr) (n c m d : Nat) (l : Lo) (txn : Int) (x : Wn) (til : Nat) (w : World) (hA : In_ holdK w A n c l.held) (hB : In_ claimK w B m d l.queue) (hx : WnS x) (hh : WnsH l.held) (hc : WnsC l.queue) (hn : n ≤ 300000) (hm : m ≤ 300000) (h1 : 1 ≤ txn) (h2 : may x = true) (h3 : waits l txn = false) (h4 : covered l txn x = true) :
    Calls Try.prog 21 #[locV A n c B m d, .int .i64 txn, wnV x, .int .u64 (til : Int)] w fun e w' => RetAi w (l, 0) e w' := by
  have HA := Lib.hid hA
  have HB := Lib.hid hB
  have HX := Lib.hid hx
  have HWH := Lib.hid hh
  have HWC := Lib.hid hc
  have HAl := Lib.hid hA.len
  have KM := Lib.hid (fun W => rmay_any x W hx)
  rw [h2] at KM
  have KW := Lib.hid (fun W hq => rwaits_any A B n c m d l txn W hq (by omega))
  rw [h3] at KW
  have HCV := Lib.hid (show l.held.any (hasH txn x) = true by rw [← h4]; unfold covered hasH; congr 1; funext h; exact Bool.and_comm _ _)
  clear hA hB hx hh hc h2 h3 h4
  have h1 : ¬ txn < 1 := by omega
  have HR := Lib.hid (Ra.new w A n c B m d x)
  unfold wnV at *
  go_enter Try.func21, Try.ntmps21
  go_upto_region 1 with (fail)
  generalize ((w.alloc (.cells #[.slice A n c, .slice B m d] 25)).alloc (.cells #[.int .i64 x.mode, .string x.lo, .string x.hi] 41)).alloc (.cells #[.slice none 0 0, .slice none 0 0] 25) = W0 at HR ⊢
  obtain ⟨⟨b0, b1⟩, f0, f1⟩ := HR.out.b1.get2
  obtain ⟨⟨r0, r1⟩, g0, g1⟩ := HR.out.b3.get2
  obtain ⟨⟨x0, x1, x2⟩, _⟩ := HR.out.b2.get3
  go_wp2_with fail
  refine (KM.out _).mono ?_
  rintro e v0 ⟨rfl, q2⟩
  have HR := Lib.hid (HR.out.step q2)
  clear q2 b0 b1 f0 f1 r0 r1 g0 g1 x0 x1 x2
  obtain ⟨⟨b0, b1⟩, f0, f1⟩ := HR.out.b1.get2
  obtain ⟨⟨r0, r1⟩, g0, g1⟩ := HR.out.b3.get2
  obtain ⟨⟨x0, x1, x2⟩, _⟩ := HR.out.b2.get3
  go_wp2_with fail
  refine (KW.out _ (HB.out.lst.q HR.out.q)).mono ?_
  rintro e v1 ⟨rfl, q2⟩
  have HR := Lib.hid (HR.out.step q2)
  clear q2 b0 b1 f0 f1 r0 r1 g0 g1 x0 x1 x2
  obtain ⟨⟨b0, b1⟩, f0, f1⟩ := HR.out.b1.get2
  obtain ⟨⟨r0, r1⟩, g0, g1⟩ := HR.out.b3.get2
  obtain ⟨⟨x0, x1, x2⟩, _⟩ := HR.out.b2.get3
  go_wp2
  go_loopw [12] (fun i wr => ∃ k : Nat, k ≤ n ∧ i = .int .i64 k ∧ Ra w A n c B m d x wr ∧ (l.held.drop k).any (hasH txn x) = true) (fun i _ => n - (intOf i).toNat)
  case atStart => exact ⟨0, Nat.zero_le _, rfl, HR.out, HCV.out⟩
  case round =>
    clear b0 b1 f0 f1 r0 r1 g0 g1 x0 x1 x2 HR
    obtain ⟨k, hk, rfl, hr, hcv⟩ := hrel
    have HR := Lib.hid hr
    have HCk := Lib.hid hcv
    clear hr hcv
    obtain ⟨⟨b0, b1⟩, f0, f1⟩ := HR.out.b1.get2
    obtain ⟨⟨r0, r1⟩, g0, g1⟩ := HR.out.b3.get2
    obtain ⟨⟨x0, x1, x2⟩, _⟩ := HR.out.b2.get3
    by_cases hlt : k < n
    · have hkl : k < l.held.length := by have := HAl.out; omega
      have hkn : (k : Int) < (n : Int) := by omega
      have HG := Lib.hid (any_drop (hasH txn x) l.held hkl)
      have HWk := Lib.hid (HWH.out _ (List.getElem_mem hkl))
      obtain ⟨ad, rfl, hab, y0, y1, y2, y3⟩ := load_hold (HA.out.lst.q HR.out.q) hlt hkl
      generalize l.held[k] = h at y0 y1 y2 y3 HG HWk
      have KC := Lib.hid (fun W => rcovers_any h.w x W HWk.out HX.out)
      unfold wnV at KC
      rw [HG.out] at HCk
      unfold hasH at HCk
      go_wp2
      cases hcl : covers h.w x
      case false =>
        rw [hcl] at KC HCk
        simp only [Bool.and_false, Bool.false_or] at HCk
        clear hcl
        refine wp_region_held_drew (S := Q wr) (by kernel_rfl) ?szz0 (fun hHeld => ?rzz0)
        case szz0 =>
          exact (Q.refl wr).drew
        case' rzz0 => skip
        refine wpAnyH_take (i := 0) (oi := ?ozz1) (v := ?vzz1) ?hzz1 ?azz1 ?bzz1 ?czz1 ?qzz1 ?yzz1 ?szz1 ?rzz1
        case hzz1 => simp only [List.getElem?_toArray, List.getElem?_cons_zero]; rfl
        case azz1 => kernel_rfl
        case bzz1 => kernel_rfl
        case czz1 => kernel_rfl
        case yzz1 =>
          refine Or.inl ⟨by rfl, ?_⟩
          intro w hSw
          have zb0 := box_ hSw b0; have zb1 := box_ hSw b1; have zx0 := box_ hSw x0; have zx1 := box_ hSw x1; have zx2 := box_ hSw x2; have zy0 := box_ hSw y0; have zy1 := box_ hSw y1; have zy2 := box_ hSw y2; have zy3 := box_ hSw y3; clear hSw
          go_simp
          try with_reducible rfl
        case qzz1 => exact fun _ _ _ h => h
        case szz1 => first | assumption | trivial
        case' rzz1 => simp only [Act.put, List.setIfInBounds_toArray, List.set_cons_zero, List.set_cons_succ]
        refine wpAnyH_take (i := 1) (oi := ?ozz2) (v := ?vzz2) ?hzz2 ?azz2 ?bzz2 ?czz2 ?qzz2 ?yzz2 ?szz2 ?rzz2
        case hzz2 => simp only [List.getElem?_toArray, List.getElem?_cons_zero, List.getElem?_cons_succ]; rfl
        case azz2 => kernel_rfl
        case bzz2 => kernel_rfl
        case czz2 => kernel_rfl
        case yzz2 =>
          refine Or.inl ⟨by rfl, ?_⟩
          intro w hSw
          have zb0 := box_ hSw b0; have zb1 := box_ hSw b1; have zx0 := box_ hSw x0; have zx1 := box_ hSw x1; have zx2 := box_ hSw x2; have zy0 := box_ hSw y0; have zy1 := box_ hSw y1; have zy2 := box_ hSw y2; have zy3 := box_ hSw y3; clear hSw
          go_simp
          try with_reducible rfl
        case qzz2 => exact fun _ _ _ h => h
        case szz2 => first | assumption | trivial
        case' rzz2 => simp only [Act.put, List.setIfInBounds_toArray, List.set_cons_zero, List.set_cons_succ]
        refine wpAnyH_take (i := 2) (oi := ?ozz3) (v := ?vzz3) ?hzz3 ?azz3 ?bzz3 ?czz3 ?qzz3 ?yzz3 ?szz3 ?rzz3
        case hzz3 => simp only [List.getElem?_toArray, List.getElem?_cons_zero, List.getElem?_cons_succ]; rfl
        case azz3 => kernel_rfl
        case bzz3 => kernel_rfl
        case czz3 => kernel_rfl
        case yzz3 =>
          refine Or.inl ⟨by rfl, ?_⟩
          intro w hSw
          have zb0 := box_ hSw b0; have zb1 := box_ hSw b1; have zx0 := box_ hSw x0; have zx1 := box_ hSw x1; have zx2 := box_ hSw x2; have zy0 := box_ hSw y0; have zy1 := box_ hSw y1; have zy2 := box_ hSw y2; have zy3 := box_ hSw y3; clear hSw
          go_simp
          try with_reducible rfl
        case qzz3 => exact fun _ _ _ h => h
        case szz3 => first | assumption | trivial
        case' rzz3 => simp only [Act.put, List.setIfInBounds_toArray, List.set_cons_zero, List.set_cons_succ]
        refine wpAnyH_take (i := 3) (oi := ?ozz4) (v := ?vzz4) ?hzz4 ?azz4 ?bzz4 ?czz4 ?qzz4 ?yzz4 ?szz4 ?rzz4
        case hzz4 => simp only [List.getElem?_toArray, List.getElem?_cons_zero, List.getElem?_cons_succ]; rfl
        case azz4 => kernel_rfl
        case bzz4 => kernel_rfl
        case czz4 => kernel_rfl
        case yzz4 =>
          refine Or.inl ⟨by rfl, ?_⟩
          intro w hSw
          have zb0 := box_ hSw b0; have zb1 := box_ hSw b1; have zx0 := box_ hSw x0; have zx1 := box_ hSw x1; have zx2 := box_ hSw x2; have zy0 := box_ hSw y0; have zy1 := box_ hSw y1; have zy2 := box_ hSw y2; have zy3 := box_ hSw y3; clear hSw
          go_simp
          try with_reducible rfl
        case qzz4 => exact fun _ _ _ h => h
        case szz4 => first | assumption | trivial
        case' rzz4 => simp only [Act.put, List.setIfInBounds_toArray, List.set_cons_zero, List.set_cons_succ]
        refine wpAnyH_take (i := 4) (oi := ?ozz5) (v := ?vzz5) ?hzz5 ?azz5 ?bzz5 ?czz5 ?qzz5 ?yzz5 ?szz5 ?rzz5
        case hzz5 => simp only [List.getElem?_toArray, List.getElem?_cons_zero, List.getElem?_cons_succ]; rfl
        case azz5 => kernel_rfl
        case bzz5 => kernel_rfl
        case czz5 => kernel_rfl
        case yzz5 =>
          refine Or.inl ⟨by rfl, ?_⟩
          intro w hSw
          have zb0 := box_ hSw b0; have zb1 := box_ hSw b1; have zx0 := box_ hSw x0; have zx1 := box_ hSw x1; have zx2 := box_ hSw x2; have zy0 := box_ hSw y0; have zy1 := box_ hSw y1; have zy2 := box_ hSw y2; have zy3 := box_ hSw y3; clear hSw
          go_simp
          try with_reducible rfl
        case qzz5 => exact fun _ _ _ h => h
        case szz5 => first | assumption | trivial
        case' rzz5 => simp only [Act.put, List.setIfInBounds_toArray, List.set_cons_zero, List.set_cons_succ]
        refine wpAnyH_take (i := 5) (oi := ?ozz6) (v := ?vzz6) ?hzz6 ?azz6 ?bzz6 ?czz6 ?qzz6 ?yzz6 ?szz6 ?rzz6
        case hzz6 => simp only [List.getElem?_toArray, List.getElem?_cons_zero, List.getElem?_cons_succ]; rfl
        case azz6 => kernel_rfl
        case bzz6 => kernel_rfl
        case czz6 => kernel_rfl
        case yzz6 =>
          refine Or.inl ⟨by rfl, ?_⟩
          intro w hSw
          have zb0 := box_ hSw b0; have zb1 := box_ hSw b1; have zx0 := box_ hSw x0; have zx1 := box_ hSw x1; have zx2 := box_ hSw x2; have zy0 := box_ hSw y0; have zy1 := box_ hSw y1; have zy2 := box_ hSw y2; have zy3 := box_ hSw y3; clear hSw
          go_simp
          try with_reducible rfl
        case qzz6 => exact fun _ _ _ h => h
        case szz6 => first | assumption | trivial
        case' rzz6 => simp only [Act.put, List.setIfInBounds_toArray, List.set_cons_zero, List.set_cons_succ]
        refine wpAnyH_take (i := 6) (oi := ?ozz7) (v := ?vzz7) ?hzz7 ?azz7 ?bzz7 ?czz7 ?qzz7 ?yzz7 ?szz7 ?rzz7
        case hzz7 => simp only [List.getElem?_toArray, List.getElem?_cons_zero, List.getElem?_cons_succ]; rfl
        case azz7 => kernel_rfl
        case bzz7 => kernel_rfl
        case czz7 => kernel_rfl
        case yzz7 =>
          refine Or.inl ⟨by rfl, ?_⟩
          intro w hSw
          have zb0 := box_ hSw b0; have zb1 := box_ hSw b1; have zx0 := box_ hSw x0; have zx1 := box_ hSw x1; have zx2 := box_ hSw x2; have zy0 := box_ hSw y0; have zy1 := box_ hSw y1; have zy2 := box_ hSw y2; have zy3 := box_ hSw y3; clear hSw
          go_simp
          try with_reducible rfl
        case qzz7 => exact fun _ _ _ h => h
        case szz7 => first | assumption | trivial
        case' rzz7 => simp only [Act.put, List.setIfInBounds_toArray, List.set_cons_zero, List.set_cons_succ]
        refine wpAnyH_ready (rs := [7]) (by kernel_rfl) (by simp) ?_
        refine AllReadyH.cons (o := ?ozz9) ?hzz9 (fun K hK => ?kzz9) ?mzz9
        case hzz9 => simp only [List.getElem?_toArray, List.getElem?_cons_zero, List.getElem?_cons_succ]; rfl
        case kzz9 =>
          go_simp
          refine (KC.out _).mono ?_
          rintro e w2 ⟨rfl, q2⟩
          go_wp2_with fail
          refine hK.out _ _ ?Szz9 (fun hHeld => ?Rzz9)
          case Szz9 =>
            exact hHeld.trans q2
          case Rzz9 =>
            clear hK K
            try simp only [Act.put, List.setIfInBounds_toArray, List.set_cons_zero, List.set_cons_succ]
            refine wpAnyH_take (i := 8) (oi := ?ozz8) (v := ?vzz8) ?hzz8 ?azz8 ?bzz8 ?czz8 ?qzz8 ?yzz8 ?szz8 ?rzz8
            case hzz8 => simp only [List.getElem?_toArray, List.getElem?_cons_zero, List.getElem?_cons_succ]; rfl
            case azz8 => kernel_rfl
            case bzz8 => kernel_rfl
            case czz8 => kernel_rfl
            case yzz8 =>
              refine Or.inl ⟨by rfl, ?_⟩
              intro w hSw
              have zb0 := box_ hSw b0; have zb1 := box_ hSw b1; have zx0 := box_ hSw x0; have zx1 := box_ hSw x1; have zx2 := box_ hSw x2; have zy0 := box_ hSw y0; have zy1 := box_ hSw y1; have zy2 := box_ hSw y2; have zy3 := box_ hSw y3; clear hSw
              go_simp
              try with_reducible rfl
            case qzz8 => exact fun _ _ _ h => h
            case szz8 => first | assumption | trivial
            case' rzz8 => simp only [Act.put, List.setIfInBounds_toArray, List.set_cons_zero, List.set_cons_succ]
            refine wpAnyH_done (by kernel_rfl) ?_ _
            have HQ2 := Lib.hid hHeld
            have HR2 := Lib.hid (HR.out.step hHeld)
            have y0 := box_ HQ2.out y0
            have y1 := box_ HQ2.out y1
            have y2 := box_ HQ2.out y2
            have y3 := box_ HQ2.out y3
            clear b0 b1 f0 f1 r0 r1 g0 g1 x0 x1 x2 HR
            have HR := HR2
            obtain ⟨⟨b0, b1⟩, f0, f1⟩ := HR.out.b1.get2
            obtain ⟨⟨r0, r1⟩, g0, g1⟩ := HR.out.b3.get2
            obtain ⟨⟨x0, x1, x2⟩, _⟩ := HR.out.b2.get3
            go_wp2
            go_roundw
            case rel => exact ⟨k + 1, by omega, by go_num, HR.out, HCk.out⟩
            case measure => simp [intOf]; omega
        case' mzz9 => skip
        exact AllReadyH.nil
      case true =>
        rw [hcl] at KC HCk
        clear hcl
        by_cases ht : h.txn = txn
        · have et : (h.txn == txn) = true := by simpa using ht
          clear ht
          refine wp_region_held_drew (S := Q wr) (by kernel_rfl) ?szz10 (fun hHeld => ?rzz10)
          case szz10 =>
            exact (Q.refl wr).drew
          case' rzz10 => skip
          refine wpAnyH_take (i := 0) (oi := ?ozz11) (v := ?vzz11) ?hzz11 ?azz11 ?bzz11 ?czz11 ?qzz11 ?yzz11 ?szz11 ?rzz11
          case hzz11 => simp only [List.getElem?_toArray, List.getElem?_cons_zero]; rfl
          case azz11 => kernel_rfl
          case bzz11 => kernel_rfl
          case czz11 => kernel_rfl
          case yzz11 =>
            refine Or.inl ⟨by rfl, ?_⟩
            intro w hSw
            have zb0 := box_ hSw b0; have zb1 := box_ hSw b1; have zx0 := box_ hSw x0; have zx1 := box_ hSw x1; have zx2 := box_ hSw x2; have zy0 := box_ hSw y0; have zy1 := box_ hSw y1; have zy2 := box_ hSw y2; have zy3 := box_ hSw y3; clear hSw
            go_simp
            try with_reducible rfl
          case qzz11 => exact fun _ _ _ h => h
          case szz11 => first | assumption | trivial
          case' rzz11 => simp only [Act.put, List.setIfInBounds_toArray, List.set_cons_zero, List.set_cons_succ]
          refine wpAnyH_take (i := 1) (oi := ?ozz12) (v := ?vzz12) ?hzz12 ?azz12 ?bzz12 ?czz12 ?qzz12 ?yzz12 ?szz12 ?rzz12
          case hzz12 => simp only [List.getElem?_toArray, List.getElem?_cons_zero, List.getElem?_cons_succ]; rfl
          case azz12 => kernel_rfl
          case bzz12 => kernel_rfl
          case czz12 => kernel_rfl
          case yzz12 =>
            refine Or.inl ⟨by rfl, ?_⟩
            intro w hSw
            have zb0 := box_ hSw b0; have zb1 := box_ hSw b1; have zx0 := box_ hSw x0; have zx1 := box_ hSw x1; have zx2 := box_ hSw x2; have zy0 := box_ hSw y0; have zy1 := box_ hSw y1; have zy2 := box_ hSw y2; have zy3 := box_ hSw y3; clear hSw
            go_simp
            try with_reducible rfl
          case qzz12 => exact fun _ _ _ h => h
          case szz12 => first | assumption | trivial
          case' rzz12 => simp only [Act.put, List.setIfInBounds_toArray, List.set_cons_zero, List.set_cons_succ]
          refine wpAnyH_take (i := 2) (oi := ?ozz13) (v := ?vzz13) ?hzz13 ?azz13 ?bzz13 ?czz13 ?qzz13 ?yzz13 ?szz13 ?rzz13
          case hzz13 => simp only [List.getElem?_toArray, List.getElem?_cons_zero, List.getElem?_cons_succ]; rfl
          case azz13 => kernel_rfl
          case bzz13 => kernel_rfl
          case czz13 => kernel_rfl
          case yzz13 =>
            refine Or.inl ⟨by rfl, ?_⟩
            intro w hSw
            have zb0 := box_ hSw b0; have zb1 := box_ hSw b1; have zx0 := box_ hSw x0; have zx1 := box_ hSw x1; have zx2 := box_ hSw x2; have zy0 := box_ hSw y0; have zy1 := box_ hSw y1; have zy2 := box_ hSw y2; have zy3 := box_ hSw y3; clear hSw
            go_simp
            try with_reducible rfl
          case qzz13 => exact fun _ _ _ h => h
          case szz13 => first | assumption | trivial
          case' rzz13 => simp only [Act.put, List.setIfInBounds_toArray, List.set_cons_zero, List.set_cons_succ]
          refine wpAnyH_take (i := 3) (oi := ?ozz14) (v := ?vzz14) ?hzz14 ?azz14 ?bzz14 ?czz14 ?qzz14 ?yzz14 ?szz14 ?rzz14
          case hzz14 => simp only [List.getElem?_toArray, List.getElem?_cons_zero, List.getElem?_cons_succ]; rfl
          case azz14 => kernel_rfl
          case bzz14 => kernel_rfl
          case czz14 => kernel_rfl
          case yzz14 =>
            refine Or.inl ⟨by rfl, ?_⟩
            intro w hSw
            have zb0 := box_ hSw b0; have zb1 := box_ hSw b1; have zx0 := box_ hSw x0; have zx1 := box_ hSw x1; have zx2 := box_ hSw x2; have zy0 := box_ hSw y0; have zy1 := box_ hSw y1; have zy2 := box_ hSw y2; have zy3 := box_ hSw y3; clear hSw
            go_simp
            try with_reducible rfl
          case qzz14 => exact fun _ _ _ h => h
          case szz14 => first | assumption | trivial
          case' rzz14 => simp only [Act.put, List.setIfInBounds_toArray, List.set_cons_zero, List.set_cons_succ]
          refine wpAnyH_take (i := 4) (oi := ?ozz15) (v := ?vzz15) ?hzz15 ?azz15 ?bzz15 ?czz15 ?qzz15 ?yzz15 ?szz15 ?rzz15
          case hzz15 => simp only [List.getElem?_toArray, List.getElem?_cons_zero, List.getElem?_cons_succ]; rfl
          case azz15 => kernel_rfl
          case bzz15 => kernel_rfl
          case czz15 => kernel_rfl
          case yzz15 =>
            refine Or.inl ⟨by rfl, ?_⟩
            intro w hSw
            have zb0 := box_ hSw b0; have zb1 := box_ hSw b1; have zx0 := box_ hSw x0; have zx1 := box_ hSw x1; have zx2 := box_ hSw x2; have zy0 := box_ hSw y0; have zy1 := box_ hSw y1; have zy2 := box_ hSw y2; have zy3 := box_ hSw y3; clear hSw
            go_simp
            try with_reducible rfl
          case qzz15 => exact fun _ _ _ h => h
          case szz15 => first | assumption | trivial
          case' rzz15 => simp only [Act.put, List.setIfInBounds_toArray, List.set_cons_zero, List.set_cons_succ]
          refine wpAnyH_take (i := 5) (oi := ?ozz16) (v := ?vzz16) ?hzz16 ?azz16 ?bzz16 ?czz16 ?qzz16 ?yzz16 ?szz16 ?rzz16
          case hzz16 => simp only [List.getElem?_toArray, List.getElem?_cons_zero, List.getElem?_cons_succ]; rfl
          case azz16 => kernel_rfl
          case bzz16 => kernel_rfl
          case czz16 => kernel_rfl
          case yzz16 =>
            refine Or.inl ⟨by rfl, ?_⟩
            intro w hSw
            have zb0 := box_ hSw b0; have zb1 := box_ hSw b1; have zx0 := box_ hSw x0; have zx1 := box_ hSw x1; have zx2 := box_ hSw x2; have zy0 := box_ hSw y0; have zy1 := box_ hSw y1; have zy2 := box_ hSw y2; have zy3 := box_ hSw y3; clear hSw
            go_simp
            try with_reducible rfl
          case qzz16 => exact fun _ _ _ h => h
          case szz16 => first | assumption | trivial
          case' rzz16 => simp only [Act.put, List.setIfInBounds_toArray, List.set_cons_zero, List.set_cons_succ]
          refine wpAnyH_take (i := 6) (oi := ?ozz17) (v := ?vzz17) ?hzz17 ?azz17 ?bzz17 ?czz17 ?qzz17 ?yzz17 ?szz17 ?rzz17
          case hzz17 => simp only [List.getElem?_toArray, List.getElem?_cons_zero, List.getElem?_cons_succ]; rfl
          case azz17 => kernel_rfl
          case bzz17 => kernel_rfl
          case czz17 => kernel_rfl
          case yzz17 =>
            refine Or.inl ⟨by rfl, ?_⟩
            intro w hSw
            have zb0 := box_ hSw b0; have zb1 := box_ hSw b1; have zx0 := box_ hSw x0; have zx1 := box_ hSw x1; have zx2 := box_ hSw x2; have zy0 := box_ hSw y0; have zy1 := box_ hSw y1; have zy2 := box_ hSw y2; have zy3 := box_ hSw y3; clear hSw
            go_simp
            try with_reducible rfl
          case qzz17 => exact fun _ _ _ h => h
          case szz17 => first | assumption | trivial
          case' rzz17 => simp only [Act.put, List.setIfInBounds_toArray, List.set_cons_zero, List.set_cons_succ]
          refine wpAnyH_ready (rs := [7]) (by kernel_rfl) (by simp) ?_
          refine AllReadyH.cons (o := ?ozz19) ?hzz19 (fun K hK => ?kzz19) ?mzz19
          case hzz19 => simp only [List.getElem?_toArray, List.getElem?_cons_zero, List.getElem?_cons_succ]; rfl
          case kzz19 =>
            go_simp
            refine (KC.out _).mono ?_
            rintro e w2 ⟨rfl, q2⟩
            go_wp2_with fail
            refine hK.out _ _ ?Szz19 (fun hHeld => ?Rzz19)
            case Szz19 =>
              exact hHeld.trans q2
            case Rzz19 =>
              clear hK K
              try simp only [Act.put, List.setIfInBounds_toArray, List.set_cons_zero, List.set_cons_succ]
              refine wpAnyH_take (i := 8) (oi := ?ozz18) (v := ?vzz18) ?hzz18 ?azz18 ?bzz18 ?czz18 ?qzz18 ?yzz18 ?szz18 ?rzz18
              case hzz18 => simp only [List.getElem?_toArray, List.getElem?_cons_zero, List.getElem?_cons_succ]; rfl
              case azz18 => kernel_rfl
              case bzz18 => kernel_rfl
              case czz18 => kernel_rfl
              case yzz18 =>
                refine Or.inl ⟨by rfl, ?_⟩
                intro w hSw
                have zb0 := box_ hSw b0; have zb1 := box_ hSw b1; have zx0 := box_ hSw x0; have zx1 := box_ hSw x1; have zx2 := box_ hSw x2; have zy0 := box_ hSw y0; have zy1 := box_ hSw y1; have zy2 := box_ hSw y2; have zy3 := box_ hSw y3; clear hSw
                go_simp
                try with_reducible rfl
              case qzz18 => exact fun _ _ _ h => h
              case szz18 => first | assumption | trivial
              case' rzz18 => simp only [Act.put, List.setIfInBounds_toArray, List.set_cons_zero, List.set_cons_succ]
              refine wpAnyH_done (by kernel_rfl) ?_ _
              have HQ2 := Lib.hid hHeld
              have HR2 := Lib.hid (HR.out.step hHeld)
              have y0 := box_ HQ2.out y0
              have y1 := box_ HQ2.out y1
              have y2 := box_ HQ2.out y2
              have y3 := box_ HQ2.out y3
              clear b0 b1 f0 f1 r0 r1 g0 g1 x0 x1 x2 HR
              have HR := HR2
              obtain ⟨⟨b0, b1⟩, f0, f1⟩ := HR.out.b1.get2
              obtain ⟨⟨r0, r1⟩, g0, g1⟩ := HR.out.b3.get2
              obtain ⟨⟨x0, x1, x2⟩, _⟩ := HR.out.b2.get3
              go_wp2
              refine bodyPost_ret (v := .tuple #[locV (some ad) n c B m d, .int .i64 0]) (by simp [results, Try.results21, go_sem, r0, r1, g0, g1]) rfl ?_
              exact HR.out.fin HA.out HB.out 0 _ _
          case' mzz19 => skip
          exact AllReadyH.nil
        · have et : (h.txn == txn) = false := by simpa using ht
          rw [decide_eq_false ht] at HCk
          simp only [Bool.false_and, Bool.false_or] at HCk
          clear ht
          refine wp_region_held_drew (S := Q wr) (by kernel_rfl) ?szz20 (fun hHeld => ?rzz20)
          case szz20 =>
            exact (Q.refl wr).drew
          case' rzz20 => skip
          refine wpAnyH_take (i := 0) (oi := ?ozz21) (v := ?vzz21) ?hzz21 ?azz21 ?bzz21 ?czz21 ?qzz21 ?yzz21 ?szz21 ?rzz21
          case hzz21 => simp only [List.getElem?_toArray, List.getElem?_cons_zero]; rfl
          case azz21 => kernel_rfl
          case bzz21 => kernel_rfl
          case czz21 => kernel_rfl
          case yzz21 =>
            refine Or.inl ⟨by rfl, ?_⟩
            intro w hSw
            have zb0 := box_ hSw b0; have zb1 := box_ hSw b1; have zx0 := box_ hSw x0; have zx1 := box_ hSw x1; have zx2 := box_ hSw x2; have zy0 := box_ hSw y0; have zy1 := box_ hSw y1; have zy2 := box_ hSw y2; have zy3 := box_ hSw y3; clear hSw
            go_simp
            try with_reducible rfl
          case qzz21 => exact fun _ _ _ h => h
          case szz21 => first | assumption | trivial
          case' rzz21 => simp only [Act.put, List.setIfInBounds_toArray, List.set_cons_zero, List.set_cons_succ]
          refine wpAnyH_take (i := 1) (oi := ?ozz22) (v := ?vzz22) ?hzz22 ?azz22 ?bzz22 ?czz22 ?qzz22 ?yzz22 ?szz22 ?rzz22
          case hzz22 => simp only [List.getElem?_toArray, List.getElem?_cons_zero, List.getElem?_cons_succ]; rfl
          case azz22 => kernel_rfl
          case bzz22 => kernel_rfl
          case czz22 => kernel_rfl
          case yzz22 =>
            refine Or.inl ⟨by rfl, ?_⟩
            intro w hSw
            have zb0 := box_ hSw b0; have zb1 := box_ hSw b1; have zx0 := box_ hSw x0; have zx1 := box_ hSw x1; have zx2 := box_ hSw x2; have zy0 := box_ hSw y0; have zy1 := box_ hSw y1; have zy2 := box_ hSw y2; have zy3 := box_ hSw y3; clear hSw
            go_simp
            try with_reducible rfl
          case qzz22 => exact fun _ _ _ h => h
          case szz22 => first | assumption | trivial
          case' rzz22 => simp only [Act.put, List.setIfInBounds_toArray, List.set_cons_zero, List.set_cons_succ]
          refine wpAnyH_take (i := 2) (oi := ?ozz23) (v := ?vzz23) ?hzz23 ?azz23 ?bzz23 ?czz23 ?qzz23 ?yzz23 ?szz23 ?rzz23
          case hzz23 => simp only [List.getElem?_toArray, List.getElem?_cons_zero, List.getElem?_cons_succ]; rfl
          case azz23 => kernel_rfl
          case bzz23 => kernel_rfl
          case czz23 => kernel_rfl
          case yzz23 =>
            refine Or.inl ⟨by rfl, ?_⟩
            intro w hSw
            have zb0 := box_ hSw b0; have zb1 := box_ hSw b1; have zx0 := box_ hSw x0; have zx1 := box_ hSw x1; have zx2 := box_ hSw x2; have zy0 := box_ hSw y0; have zy1 := box_ hSw y1; have zy2 := box_ hSw y2; have zy3 := box_ hSw y3; clear hSw
            go_simp
            try with_reducible rfl
          case qzz23 => exact fun _ _ _ h => h
          case szz23 => first | assumption | trivial
          case' rzz23 => simp only [Act.put, List.setIfInBounds_toArray, List.set_cons_zero, List.set_cons_succ]
          refine wpAnyH_take (i := 3) (oi := ?ozz24) (v := ?vzz24) ?hzz24 ?azz24 ?bzz24 ?czz24 ?qzz24 ?yzz24 ?szz24 ?rzz24
          case hzz24 => simp only [List.getElem?_toArray, List.getElem?_cons_zero, List.getElem?_cons_succ]; rfl
          case azz24 => kernel_rfl
          case bzz24 => kernel_rfl
          case czz24 => kernel_rfl
          case yzz24 =>
            refine Or.inl ⟨by rfl, ?_⟩
            intro w hSw
            have zb0 := box_ hSw b0; have zb1 := box_ hSw b1; have zx0 := box_ hSw x0; have zx1 := box_ hSw x1; have zx2 := box_ hSw x2; have zy0 := box_ hSw y0; have zy1 := box_ hSw y1; have zy2 := box_ hSw y2; have zy3 := box_ hSw y3; clear hSw
            go_simp
            try with_reducible rfl
          case qzz24 => exact fun _ _ _ h => h
          case szz24 => first | assumption | trivial
          case' rzz24 => simp only [Act.put, List.setIfInBounds_toArray, List.set_cons_zero, List.set_cons_succ]
          refine wpAnyH_take (i := 4) (oi := ?ozz25) (v := ?vzz25) ?hzz25 ?azz25 ?bzz25 ?czz25 ?qzz25 ?yzz25 ?szz25 ?rzz25
          case hzz25 => simp only [List.getElem?_toArray, List.getElem?_cons_zero, List.getElem?_cons_succ]; rfl
          case azz25 => kernel_rfl
          case bzz25 => kernel_rfl
          case czz25 => kernel_rfl
          case yzz25 =>
            refine Or.inl ⟨by rfl, ?_⟩
            intro w hSw
            have zb0 := box_ hSw b0; have zb1 := box_ hSw b1; have zx0 := box_ hSw x0; have zx1 := box_ hSw x1; have zx2 := box_ hSw x2; have zy0 := box_ hSw y0; have zy1 := box_ hSw y1; have zy2 := box_ hSw y2; have zy3 := box_ hSw y3; clear hSw
            go_simp
            try with_reducible rfl
          case qzz25 => exact fun _ _ _ h => h
          case szz25 => first | assumption | trivial
          case' rzz25 => simp only [Act.put, List.setIfInBounds_toArray, List.set_cons_zero, List.set_cons_succ]
          refine wpAnyH_take (i := 5) (oi := ?ozz26) (v := ?vzz26) ?hzz26 ?azz26 ?bzz26 ?czz26 ?qzz26 ?yzz26 ?szz26 ?rzz26
          case hzz26 => simp only [List.getElem?_toArray, List.getElem?_cons_zero, List.getElem?_cons_succ]; rfl
          case azz26 => kernel_rfl
          case bzz26 => kernel_rfl
          case czz26 => kernel_rfl
          case yzz26 =>
            refine Or.inl ⟨by rfl, ?_⟩
            intro w hSw
            have zb0 := box_ hSw b0; have zb1 := box_ hSw b1; have zx0 := box_ hSw x0; have zx1 := box_ hSw x1; have zx2 := box_ hSw x2; have zy0 := box_ hSw y0; have zy1 := box_ hSw y1; have zy2 := box_ hSw y2; have zy3 := box_ hSw y3; clear hSw
            go_simp
            try with_reducible rfl
          case qzz26 => exact fun _ _ _ h => h
          case szz26 => first | assumption | trivial
          case' rzz26 => simp only [Act.put, List.setIfInBounds_toArray, List.set_cons_zero, List.set_cons_succ]
          refine wpAnyH_take (i := 6) (oi := ?ozz27) (v := ?vzz27) ?hzz27 ?azz27 ?bzz27 ?czz27 ?qzz27 ?yzz27 ?szz27 ?rzz27
          case hzz27 => simp only [List.getElem?_toArray, List.getElem?_cons_zero, List.getElem?_cons_succ]; rfl
          case azz27 => kernel_rfl
          case bzz27 => kernel_rfl
          case czz27 => kernel_rfl
          case yzz27 =>
            refine Or.inl ⟨by rfl, ?_⟩
            intro w hSw
            have zb0 := box_ hSw b0; have zb1 := box_ hSw b1; have zx0 := box_ hSw x0; have zx1 := box_ hSw x1; have zx2 := box_ hSw x2; have zy0 := box_ hSw y0; have zy1 := box_ hSw y1; have zy2 := box_ hSw y2; have zy3 := box_ hSw y3; clear hSw
            go_simp
            try with_reducible rfl
          case qzz27 => exact fun _ _ _ h => h
          case szz27 => first | assumption | trivial
          case' rzz27 => simp only [Act.put, List.setIfInBounds_toArray, List.set_cons_zero, List.set_cons_succ]
          refine wpAnyH_ready (rs := [7]) (by kernel_rfl) (by simp) ?_
          refine AllReadyH.cons (o := ?ozz29) ?hzz29 (fun K hK => ?kzz29) ?mzz29
          case hzz29 => simp only [List.getElem?_toArray, List.getElem?_cons_zero, List.getElem?_cons_succ]; rfl
          case kzz29 =>
            go_simp
            refine (KC.out _).mono ?_
            rintro e w2 ⟨rfl, q2⟩
            go_wp2_with fail
            refine hK.out _ _ ?Szz29 (fun hHeld => ?Rzz29)
            case Szz29 =>
              exact hHeld.trans q2
            case Rzz29 =>
              clear hK K
              try simp only [Act.put, List.setIfInBounds_toArray, List.set_cons_zero, List.set_cons_succ]
              refine wpAnyH_take (i := 8) (oi := ?ozz28) (v := ?vzz28) ?hzz28 ?azz28 ?bzz28 ?czz28 ?qzz28 ?yzz28 ?szz28 ?rzz28
              case hzz28 => simp only [List.getElem?_toArray, List.getElem?_cons_zero, List.getElem?_cons_succ]; rfl
              case azz28 => kernel_rfl
              case bzz28 => kernel_rfl
              case czz28 => kernel_rfl
              case yzz28 =>
                refine Or.inl ⟨by rfl, ?_⟩
                intro w hSw
                have zb0 := box_ hSw b0; have zb1 := box_ hSw b1; have zx0 := box_ hSw x0; have zx1 := box_ hSw x1; have zx2 := box_ hSw x2; have zy0 := box_ hSw y0; have zy1 := box_ hSw y1; have zy2 := box_ hSw y2; have zy3 := box_ hSw y3; clear hSw
                go_simp
                try with_reducible rfl
              case qzz28 => exact fun _ _ _ h => h
              case szz28 => first | assumption | trivial
              case' rzz28 => simp only [Act.put, List.setIfInBounds_toArray, List.set_cons_zero, List.set_cons_succ]
              refine wpAnyH_done (by kernel_rfl) ?_ _
              have HQ2 := Lib.hid hHeld
              have HR2 := Lib.hid (HR.out.step hHeld)
              have y0 := box_ HQ2.out y0
              have y1 := box_ HQ2.out y1
              have y2 := box_ HQ2.out y2
              have y3 := box_ HQ2.out y3
              clear b0 b1 f0 f1 r0 r1 g0 g1 x0 x1 x2 HR
              have HR := HR2
              obtain ⟨⟨b0, b1⟩, f0, f1⟩ := HR.out.b1.get2
              obtain ⟨⟨r0, r1⟩, g0, g1⟩ := HR.out.b3.get2
              obtain ⟨⟨x0, x1, x2⟩, _⟩ := HR.out.b2.get3
              go_wp2
              go_roundw
              case rel => exact ⟨k + 1, by omega, by go_num, HR.out, HCk.out⟩
              case measure => simp [intOf]; omega
          case' mzz29 => skip
          exact AllReadyH.nil
    · exfalso
      have := HCk.out
      rw [List.drop_of_length_le (by have := HAl.out; omega)] at this
      cases this

set_option maxHeartbeats 8000000 in
set_option maxRecDepth 100000 in
theorem rask_a5 (A B : Option Addr) (n c m d : Nat) (l : Lo) (txn : Int) (x : Wn) (til : Nat) (w : World) (hA : In_ holdK w A n c l.held) (hB : In_ claimK w B m d l.queue) (hx : WnS x) (hh : WnsH l.held) (hc : WnsC l.queue) (hn : n ≤ 300000) (hm : m ≤ 300000) (h1 : 1 ≤ txn) (h2 : may x = true) (h3 : waits l txn = false) (h4 : covered l txn x = false) (h5 : blk l txn x m = []) :
    Calls Try.prog 21 #[locV A n c B m d, .int .i64 txn, wnV x, .int .u64 (til : Int)] w fun e w' => RetAi w (⟨l.held ++ [⟨txn, x⟩], l.queue⟩, 0) e w' := by
  have HA := Lib.hid hA
  have HB := Lib.hid hB
  have HX := Lib.hid hx
  have HWH := Lib.hid hh
  have HWC := Lib.hid hc
  have HAl := Lib.hid hA.len
  have KM := Lib.hid (fun W => rmay_any x W hx)
  rw [h2] at KM
  have KW := Lib.hid (fun W hq => rwaits_any A B n c m d l txn W hq (by omega))
  rw [h3] at KW
  have HCV := Lib.hid (show l.held.any (hasH txn x) = false by rw [← h4]; unfold covered hasH; congr 1; funext h; exact Bool.and_comm _ _)
  have KB := Lib.hid (fun W hp hq => rblk_any A B n c m d l txn x (m : Int) W hp hq hx hh hc (by omega) (by omega))
  rw [Int.toNat_natCast] at KB
  rw [h5] at KB
  have NF0 := Lib.hid (show n * 48 ≤ 140737488355328 by omega)
  have NF1 := Lib.hid (show (n + 1) * 48 ≤ 140737488355328 by omega)
  clear hA hB hx hh hc h2 h3 h4 h5
  have h1 : ¬ txn < 1 := by omega
  have HR := Lib.hid (Ra.new w A n c B m d x)
  unfold wnV at *
  go_enter Try.func21, Try.ntmps21
  go_upto_region 1 with (fail)
  generalize ((w.alloc (.cells #[.slice A n c, .slice B m d] 25)).alloc (.cells #[.int .i64 x.mode, .string x.lo, .string x.hi] 41)).alloc (.cells #[.slice none 0 0, .slice none 0 0] 25) = W0 at HR ⊢
  obtain ⟨⟨b0, b1⟩, f0, f1⟩ := HR.out.b1.get2
  obtain ⟨⟨r0, r1⟩, g0, g1⟩ := HR.out.b3.get2
  obtain ⟨⟨x0, x1, x2⟩, _⟩ := HR.out.b2.get3
  go_wp2_with fail
  refine (KM.out _).mono ?_
  rintro e v0 ⟨rfl, q2⟩
  have HR := Lib.hid (HR.out.step q2)
  clear q2 b0 b1 f0 f1 r0 r1 g0 g1 x0 x1 x2
  obtain ⟨⟨b0, b1⟩, f0, f1⟩ := HR.out.b1.get2
  obtain ⟨⟨r0, r1⟩, g0, g1⟩ := HR.out.b3.get2
  obtain ⟨⟨x0, x1, x2⟩, _⟩ := HR.out.b2.get3
  go_wp2_with fail
  refine (KW.out _ (HB.out.lst.q HR.out.q)).mono ?_
  rintro e v1 ⟨rfl, q2⟩
  have HR := Lib.hid (HR.out.step q2)
  clear q2 b0 b1 f0 f1 r0 r1 g0 g1 x0 x1 x2
  obtain ⟨⟨b0, b1⟩, f0, f1⟩ := HR.out.b1.get2
  obtain ⟨⟨r0, r1⟩, g0, g1⟩ := HR.out.b3.get2
  obtain ⟨⟨x0, x1, x2⟩, _⟩ := HR.out.b2.get3
  go_wp2
  go_loopw [12] (fun i wr => ∃ k : Nat, k ≤ n ∧ i = .int .i64 k ∧ Ra w A n c B m d x wr ∧ (l.held.drop k).any (hasH txn x) = false) (fun i _ => n - (intOf i).toNat)
  case atStart => exact ⟨0, Nat.zero_le _, rfl, HR.out, HCV.out⟩
  case round =>
    clear b0 b1 f0 f1 r0 r1 g0 g1 x0 x1 x2 HR
    obtain ⟨k, hk, rfl, hr, hcv⟩ := hrel
    have HR := Lib.hid hr
    have HCk := Lib.hid hcv
    clear hr hcv
    obtain ⟨⟨b0, b1⟩, f0, f1⟩ := HR.out.b1.get2
    obtain ⟨⟨r0, r1⟩, g0, g1⟩ := HR.out.b3.get2
    obtain ⟨⟨x0, x1, x2⟩, _⟩ := HR.out.b2.get3
    by_cases hlt : k < n
    · have hkl : k < l.held.length := by have := HAl.out; omega
      have hkn : (k : Int) < (n : Int) := by omega
      have HG := Lib.hid (any_drop (hasH txn x) l.held hkl)
      have HWk := Lib.hid (HWH.out _ (List.getElem_mem hkl))
      obtain ⟨ad, rfl, hab, y0, y1, y2, y3⟩ := load_hold (HA.out.lst.q HR.out.q) hlt hkl
      generalize l.held[k] = h at y0 y1 y2 y3 HG HWk
      have KC := Lib.hid (fun W => rcovers_any h.w x W HWk.out HX.out)
      unfold wnV at KC
      rw [HG.out] at HCk
      unfold hasH at HCk
      go_wp2
      cases hcl : covers h.w x
      case false =>
        rw [hcl] at KC HCk
        simp only [Bool.and_false, Bool.false_or] at HCk
        clear hcl
        refine wp_region_held_drew (S := Q wr) (by kernel_rfl) ?szz30 (fun hHeld => ?rzz30)
        case szz30 =>
          exact (Q.refl wr).drew
        case' rzz30 => skip
        refine wpAnyH_take (i := 0) (oi := ?ozz31) (v := ?vzz31) ?hzz31 ?azz31 ?bzz31 ?czz31 ?qzz31 ?yzz31 ?szz31 ?rzz31
        case hzz31 => simp only [List.getElem?_toArray, List.getElem?_cons_zero]; rfl
        case azz31 => kernel_rfl
        case bzz31 => kernel_rfl
        case czz31 => kernel_rfl
        case yzz31 =>
          refine Or.inl ⟨by rfl, ?_⟩
          intro w hSw
          have zb0 := box_ hSw b0; have zb1 := box_ hSw b1; have zx0 := box_ hSw x0; have zx1 := box_ hSw x1; have zx2 := box_ hSw x2; have zy0 := box_ hSw y0; have zy1 := box_ hSw y1; have zy2 := box_ hSw y2; have zy3 := box_ hSw y3; clear hSw
          go_simp
          try with_reducible rfl
        case qzz31 => exact fun _ _ _ h => h
        case szz31 => first | assumption | trivial
        case' rzz31 => simp only [Act.put, List.setIfInBounds_toArray, List.set_cons_zero, List.set_cons_succ]
        refine wpAnyH_take (i := 1) (oi := ?ozz32) (v := ?vzz32) ?hzz32 ?azz32 ?bzz32 ?czz32 ?qzz32 ?yzz32 ?szz32 ?rzz32
        case hzz32 => simp only [List.getElem?_toArray, List.getElem?_cons_zero, List.getElem?_cons_succ]; rfl
        case azz32 => kernel_rfl
        case bzz32 => kernel_rfl
        case czz32 => kernel_rfl
        case yzz32 =>
          refine Or.inl ⟨by rfl, ?_⟩
          intro w hSw
          have zb0 := box_ hSw b0; have zb1 := box_ hSw b1; have zx0 := box_ hSw x0; have zx1 := box_ hSw x1; have zx2 := box_ hSw x2; have zy0 := box_ hSw y0; have zy1 := box_ hSw y1; have zy2 := box_ hSw y2; have zy3 := box_ hSw y3; clear hSw
          go_simp
          try with_reducible rfl
        case qzz32 => exact fun _ _ _ h => h
        case szz32 => first | assumption | trivial
        case' rzz32 => simp only [Act.put, List.setIfInBounds_toArray, List.set_cons_zero, List.set_cons_succ]
        refine wpAnyH_take (i := 2) (oi := ?ozz33) (v := ?vzz33) ?hzz33 ?azz33 ?bzz33 ?czz33 ?qzz33 ?yzz33 ?szz33 ?rzz33
        case hzz33 => simp only [List.getElem?_toArray, List.getElem?_cons_zero, List.getElem?_cons_succ]; rfl
        case azz33 => kernel_rfl
        case bzz33 => kernel_rfl
        case czz33 => kernel_rfl
        case yzz33 =>
          refine Or.inl ⟨by rfl, ?_⟩
          intro w hSw
          have zb0 := box_ hSw b0; have zb1 := box_ hSw b1; have zx0 := box_ hSw x0; have zx1 := box_ hSw x1; have zx2 := box_ hSw x2; have zy0 := box_ hSw y0; have zy1 := box_ hSw y1; have zy2 := box_ hSw y2; have zy3 := box_ hSw y3; clear hSw
          go_simp
          try with_reducible rfl
        case qzz33 => exact fun _ _ _ h => h
        case szz33 => first | assumption | trivial
        case' rzz33 => simp only [Act.put, List.setIfInBounds_toArray, List.set_cons_zero, List.set_cons_succ]
        refine wpAnyH_take (i := 3) (oi := ?ozz34) (v := ?vzz34) ?hzz34 ?azz34 ?bzz34 ?czz34 ?qzz34 ?yzz34 ?szz34 ?rzz34
        case hzz34 => simp only [List.getElem?_toArray, List.getElem?_cons_zero, List.getElem?_cons_succ]; rfl
        case azz34 => kernel_rfl
        case bzz34 => kernel_rfl
        case czz34 => kernel_rfl
        case yzz34 =>
          refine Or.inl ⟨by rfl, ?_⟩
          intro w hSw
          have zb0 := box_ hSw b0; have zb1 := box_ hSw b1; have zx0 := box_ hSw x0; have zx1 := box_ hSw x1; have zx2 := box_ hSw x2; have zy0 := box_ hSw y0; have zy1 := box_ hSw y1; have zy2 := box_ hSw y2; have zy3 := box_ hSw y3; clear hSw
          go_simp
          try with_reducible rfl
        case qzz34 => exact fun _ _ _ h => h
        case szz34 => first | assumption | trivial
        case' rzz34 => simp only [Act.put, List.setIfInBounds_toArray, List.set_cons_zero, List.set_cons_succ]
        refine wpAnyH_take (i := 4) (oi := ?ozz35) (v := ?vzz35) ?hzz35 ?azz35 ?bzz35 ?czz35 ?qzz35 ?yzz35 ?szz35 ?rzz35
        case hzz35 => simp only [List.getElem?_toArray, List.getElem?_cons_zero, List.getElem?_cons_succ]; rfl
        case azz35 => kernel_rfl
        case bzz35 => kernel_rfl
        case czz35 => kernel_rfl
        case yzz35 =>
          refine Or.inl ⟨by rfl, ?_⟩
          intro w hSw
          have zb0 := box_ hSw b0; have zb1 := box_ hSw b1; have zx0 := box_ hSw x0; have zx1 := box_ hSw x1; have zx2 := box_ hSw x2; have zy0 := box_ hSw y0; have zy1 := box_ hSw y1; have zy2 := box_ hSw y2; have zy3 := box_ hSw y3; clear hSw
          go_simp
          try with_reducible rfl
        case qzz35 => exact fun _ _ _ h => h
        case szz35 => first | assumption | trivial
        case' rzz35 => simp only [Act.put, List.setIfInBounds_toArray, List.set_cons_zero, List.set_cons_succ]
        refine wpAnyH_take (i := 5) (oi := ?ozz36) (v := ?vzz36) ?hzz36 ?azz36 ?bzz36 ?czz36 ?qzz36 ?yzz36 ?szz36 ?rzz36
        case hzz36 => simp only [List.getElem?_toArray, List.getElem?_cons_zero, List.getElem?_cons_succ]; rfl
        case azz36 => kernel_rfl
        case bzz36 => kernel_rfl
        case czz36 => kernel_rfl
        case yzz36 =>
          refine Or.inl ⟨by rfl, ?_⟩
          intro w hSw
          have zb0 := box_ hSw b0; have zb1 := box_ hSw b1; have zx0 := box_ hSw x0; have zx1 := box_ hSw x1; have zx2 := box_ hSw x2; have zy0 := box_ hSw y0; have zy1 := box_ hSw y1; have zy2 := box_ hSw y2; have zy3 := box_ hSw y3; clear hSw
          go_simp
          try with_reducible rfl
        case qzz36 => exact fun _ _ _ h => h
        case szz36 => first | assumption | trivial
        case' rzz36 => simp only [Act.put, List.setIfInBounds_toArray, List.set_cons_zero, List.set_cons_succ]
        refine wpAnyH_take (i := 6) (oi := ?ozz37) (v := ?vzz37) ?hzz37 ?azz37 ?bzz37 ?czz37 ?qzz37 ?yzz37 ?szz37 ?rzz37
        case hzz37 => simp only [List.getElem?_toArray, List.getElem?_cons_zero, List.getElem?_cons_succ]; rfl
        case azz37 => kernel_rfl
        case bzz37 => kernel_rfl
        case czz37 => kernel_rfl
        case yzz37 =>
          refine Or.inl ⟨by rfl, ?_⟩
          intro w hSw
          have zb0 := box_ hSw b0; have zb1 := box_ hSw b1; have zx0 := box_ hSw x0; have zx1 := box_ hSw x1; have zx2 := box_ hSw x2; have zy0 := box_ hSw y0; have zy1 := box_ hSw y1; have zy2 := box_ hSw y2; have zy3 := box_ hSw y3; clear hSw
          go_simp
          try with_reducible rfl
        case qzz37 => exact fun _ _ _ h => h
        case szz37 => first | assumption | trivial
        case' rzz37 => simp only [Act.put, List.setIfInBounds_toArray, List.set_cons_zero, List.set_cons_succ]
        refine wpAnyH_ready (rs := [7]) (by kernel_rfl) (by simp) ?_
        refine AllReadyH.cons (o := ?ozz39) ?hzz39 (fun K hK => ?kzz39) ?mzz39
        case hzz39 => simp only [List.getElem?_toArray, List.getElem?_cons_zero, List.getElem?_cons_succ]; rfl
        case kzz39 =>
          go_simp
          refine (KC.out _).mono ?_
          rintro e w2 ⟨rfl, q2⟩
          go_wp2_with fail
          refine hK.out _ _ ?Szz39 (fun hHeld => ?Rzz39)
          case Szz39 =>
            exact hHeld.trans q2
          case Rzz39 =>
            clear hK K
            try simp only [Act.put, List.setIfInBounds_toArray, List.set_cons_zero, List.set_cons_succ]
            refine wpAnyH_take (i := 8) (oi := ?ozz38) (v := ?vzz38) ?hzz38 ?azz38 ?bzz38 ?czz38 ?qzz38 ?yzz38 ?szz38 ?rzz38
            case hzz38 => simp only [List.getElem?_toArray, List.getElem?_cons_zero, List.getElem?_cons_succ]; rfl
            case azz38 => kernel_rfl
            case bzz38 => kernel_rfl
            case czz38 => kernel_rfl
            case yzz38 =>
              refine Or.inl ⟨by rfl, ?_⟩
              intro w hSw
              have zb0 := box_ hSw b0; have zb1 := box_ hSw b1; have zx0 := box_ hSw x0; have zx1 := box_ hSw x1; have zx2 := box_ hSw x2; have zy0 := box_ hSw y0; have zy1 := box_ hSw y1; have zy2 := box_ hSw y2; have zy3 := box_ hSw y3; clear hSw
              go_simp
              try with_reducible rfl
            case qzz38 => exact fun _ _ _ h => h
            case szz38 => first | assumption | trivial
            case' rzz38 => simp only [Act.put, List.setIfInBounds_toArray, List.set_cons_zero, List.set_cons_succ]
            refine wpAnyH_done (by kernel_rfl) ?_ _
            have HQ2 := Lib.hid hHeld
            have HR2 := Lib.hid (HR.out.step hHeld)
            have y0 := box_ HQ2.out y0
            have y1 := box_ HQ2.out y1
            have y2 := box_ HQ2.out y2
            have y3 := box_ HQ2.out y3
            clear b0 b1 f0 f1 r0 r1 g0 g1 x0 x1 x2 HR
            have HR := HR2
            obtain ⟨⟨b0, b1⟩, f0, f1⟩ := HR.out.b1.get2
            obtain ⟨⟨r0, r1⟩, g0, g1⟩ := HR.out.b3.get2
            obtain ⟨⟨x0, x1, x2⟩, _⟩ := HR.out.b2.get3
            go_wp2
            go_roundw
            case rel => exact ⟨k + 1, by omega, by go_num, HR.out, HCk.out⟩
            case measure => simp [intOf]; omega
        case' mzz39 => skip
        exact AllReadyH.nil
      case true =>
        rw [hcl] at KC HCk
        clear hcl
        by_cases ht : h.txn = txn
        · exfalso
          have := HCk.out
          simp [ht] at this
        · have et : (h.txn == txn) = false := by simpa using ht
          rw [decide_eq_false ht] at HCk
          simp only [Bool.false_and, Bool.false_or] at HCk
          clear ht
          refine wp_region_held_drew (S := Q wr) (by kernel_rfl) ?szz40 (fun hHeld => ?rzz40)
          case szz40 =>
            exact (Q.refl wr).drew
          case' rzz40 => skip
          refine wpAnyH_take (i := 0) (oi := ?ozz41) (v := ?vzz41) ?hzz41 ?azz41 ?bzz41 ?czz41 ?qzz41 ?yzz41 ?szz41 ?rzz41
          case hzz41 => simp only [List.getElem?_toArray, List.getElem?_cons_zero]; rfl
          case azz41 => kernel_rfl
          case bzz41 => kernel_rfl
          case czz41 => kernel_rfl
          case yzz41 =>
            refine Or.inl ⟨by rfl, ?_⟩
            intro w hSw
            have zb0 := box_ hSw b0; have zb1 := box_ hSw b1; have zx0 := box_ hSw x0; have zx1 := box_ hSw x1; have zx2 := box_ hSw x2; have zy0 := box_ hSw y0; have zy1 := box_ hSw y1; have zy2 := box_ hSw y2; have zy3 := box_ hSw y3; clear hSw
            go_simp
            try with_reducible rfl
          case qzz41 => exact fun _ _ _ h => h
          case szz41 => first | assumption | trivial
          case' rzz41 => simp only [Act.put, List.setIfInBounds_toArray, List.set_cons_zero, List.set_cons_succ]
          refine wpAnyH_take (i := 1) (oi := ?ozz42) (v := ?vzz42) ?hzz42 ?azz42 ?bzz42 ?czz42 ?qzz42 ?yzz42 ?szz42 ?rzz42
          case hzz42 => simp only [List.getElem?_toArray, List.getElem?_cons_zero, List.getElem?_cons_succ]; rfl
          case azz42 => kernel_rfl
          case bzz42 => kernel_rfl
          case czz42 => kernel_rfl
          case yzz42 =>
            refine Or.inl ⟨by rfl, ?_⟩
            intro w hSw
            have zb0 := box_ hSw b0; have zb1 := box_ hSw b1; have zx0 := box_ hSw x0; have zx1 := box_ hSw x1; have zx2 := box_ hSw x2; have zy0 := box_ hSw y0; have zy1 := box_ hSw y1; have zy2 := box_ hSw y2; have zy3 := box_ hSw y3; clear hSw
            go_simp
            try with_reducible rfl
          case qzz42 => exact fun _ _ _ h => h
          case szz42 => first | assumption | trivial
          case' rzz42 => simp only [Act.put, List.setIfInBounds_toArray, List.set_cons_zero, List.set_cons_succ]
          refine wpAnyH_take (i := 2) (oi := ?ozz43) (v := ?vzz43) ?hzz43 ?azz43 ?bzz43 ?czz43 ?qzz43 ?yzz43 ?szz43 ?rzz43
          case hzz43 => simp only [List.getElem?_toArray, List.getElem?_cons_zero, List.getElem?_cons_succ]; rfl
          case azz43 => kernel_rfl
          case bzz43 => kernel_rfl
          case czz43 => kernel_rfl
          case yzz43 =>
            refine Or.inl ⟨by rfl, ?_⟩
            intro w hSw
            have zb0 := box_ hSw b0; have zb1 := box_ hSw b1; have zx0 := box_ hSw x0; have zx1 := box_ hSw x1; have zx2 := box_ hSw x2; have zy0 := box_ hSw y0; have zy1 := box_ hSw y1; have zy2 := box_ hSw y2; have zy3 := box_ hSw y3; clear hSw
            go_simp
            try with_reducible rfl
          case qzz43 => exact fun _ _ _ h => h
          case szz43 => first | assumption | trivial
          case' rzz43 => simp only [Act.put, List.setIfInBounds_toArray, List.set_cons_zero, List.set_cons_succ]
          refine wpAnyH_take (i := 3) (oi := ?ozz44) (v := ?vzz44) ?hzz44 ?azz44 ?bzz44 ?czz44 ?qzz44 ?yzz44 ?szz44 ?rzz44
          case hzz44 => simp only [List.getElem?_toArray, List.getElem?_cons_zero, List.getElem?_cons_succ]; rfl
          case azz44 => kernel_rfl
          case bzz44 => kernel_rfl
          case czz44 => kernel_rfl
          case yzz44 =>
            refine Or.inl ⟨by rfl, ?_⟩
            intro w hSw
            have zb0 := box_ hSw b0; have zb1 := box_ hSw b1; have zx0 := box_ hSw x0; have zx1 := box_ hSw x1; have zx2 := box_ hSw x2; have zy0 := box_ hSw y0; have zy1 := box_ hSw y1; have zy2 := box_ hSw y2; have zy3 := box_ hSw y3; clear hSw
            go_simp
            try with_reducible rfl
          case qzz44 => exact fun _ _ _ h => h
          case szz44 => first | assumption | trivial
          case' rzz44 => simp only [Act.put, List.setIfInBounds_toArray, List.set_cons_zero, List.set_cons_succ]
          refine wpAnyH_take (i := 4) (oi := ?ozz45) (v := ?vzz45) ?hzz45 ?azz45 ?bzz45 ?czz45 ?qzz45 ?yzz45 ?szz45 ?rzz45
          case hzz45 => simp only [List.getElem?_toArray, List.getElem?_cons_zero, List.getElem?_cons_succ]; rfl
          case azz45 => kernel_rfl
          case bzz45 => kernel_rfl
          case czz45 => kernel_rfl
          case yzz45 =>
            refine Or.inl ⟨by rfl, ?_⟩
            intro w hSw
            have zb0 := box_ hSw b0; have zb1 := box_ hSw b1; have zx0 := box_ hSw x0; have zx1 := box_ hSw x1; have zx2 := box_ hSw x2; have zy0 := box_ hSw y0; have zy1 := box_ hSw y1; have zy2 := box_ hSw y2; have zy3 := box_ hSw y3; clear hSw
            go_simp
            try with_reducible rfl
          case qzz45 => exact fun _ _ _ h => h
          case szz45 => first | assumption | trivial
          case' rzz45 => simp only [Act.put, List.setIfInBounds_toArray, List.set_cons_zero, List.set_cons_succ]
          refine wpAnyH_take (i := 5) (oi := ?ozz46) (v := ?vzz46) ?hzz46 ?azz46 ?bzz46 ?czz46 ?qzz46 ?yzz46 ?szz46 ?rzz46
          case hzz46 => simp only [List.getElem?_toArray, List.getElem?_cons_zero, List.getElem?_cons_succ]; rfl
          case azz46 => kernel_rfl
          case bzz46 => kernel_rfl
          case czz46 => kernel_rfl
          case yzz46 =>
            refine Or.inl ⟨by rfl, ?_⟩
            intro w hSw
            have zb0 := box_ hSw b0; have zb1 := box_ hSw b1; have zx0 := box_ hSw x0; have zx1 := box_ hSw x1; have zx2 := box_ hSw x2; have zy0 := box_ hSw y0; have zy1 := box_ hSw y1; have zy2 := box_ hSw y2; have zy3 := box_ hSw y3; clear hSw
            go_simp
            try with_reducible rfl
          case qzz46 => exact fun _ _ _ h => h
          case szz46 => first | assumption | trivial
          case' rzz46 => simp only [Act.put, List.setIfInBounds_toArray, List.set_cons_zero, List.set_cons_succ]
          refine wpAnyH_take (i := 6) (oi := ?ozz47) (v := ?vzz47) ?hzz47 ?azz47 ?bzz47 ?czz47 ?qzz47 ?yzz47 ?szz47 ?rzz47
          case hzz47 => simp only [List.getElem?_toArray, List.getElem?_cons_zero, List.getElem?_cons_succ]; rfl
          case azz47 => kernel_rfl
          case bzz47 => kernel_rfl
          case czz47 => kernel_rfl
          case yzz47 =>
            refine Or.inl ⟨by rfl, ?_⟩
            intro w hSw
            have zb0 := box_ hSw b0; have zb1 := box_ hSw b1; have zx0 := box_ hSw x0; have zx1 := box_ hSw x1; have zx2 := box_ hSw x2; have zy0 := box_ hSw y0; have zy1 := box_ hSw y1; have zy2 := box_ hSw y2; have zy3 := box_ hSw y3; clear hSw
            go_simp
            try with_reducible rfl
          case qzz47 => exact fun _ _ _ h => h
          case szz47 => first | assumption | trivial
          case' rzz47 => simp only [Act.put, List.setIfInBounds_toArray, List.set_cons_zero, List.set_cons_succ]
          refine wpAnyH_ready (rs := [7]) (by kernel_rfl) (by simp) ?_
          refine AllReadyH.cons (o := ?ozz49) ?hzz49 (fun K hK => ?kzz49) ?mzz49
          case hzz49 => simp only [List.getElem?_toArray, List.getElem?_cons_zero, List.getElem?_cons_succ]; rfl
          case kzz49 =>
            go_simp
            refine (KC.out _).mono ?_
            rintro e w2 ⟨rfl, q2⟩
            go_wp2_with fail
            refine hK.out _ _ ?Szz49 (fun hHeld => ?Rzz49)
            case Szz49 =>
              exact hHeld.trans q2
            case Rzz49 =>
              clear hK K
              try simp only [Act.put, List.setIfInBounds_toArray, List.set_cons_zero, List.set_cons_succ]
              refine wpAnyH_take (i := 8) (oi := ?ozz48) (v := ?vzz48) ?hzz48 ?azz48 ?bzz48 ?czz48 ?qzz48 ?yzz48 ?szz48 ?rzz48
              case hzz48 => simp only [List.getElem?_toArray, List.getElem?_cons_zero, List.getElem?_cons_succ]; rfl
              case azz48 => kernel_rfl
              case bzz48 => kernel_rfl
              case czz48 => kernel_rfl
              case yzz48 =>
                refine Or.inl ⟨by rfl, ?_⟩
                intro w hSw
                have zb0 := box_ hSw b0; have zb1 := box_ hSw b1; have zx0 := box_ hSw x0; have zx1 := box_ hSw x1; have zx2 := box_ hSw x2; have zy0 := box_ hSw y0; have zy1 := box_ hSw y1; have zy2 := box_ hSw y2; have zy3 := box_ hSw y3; clear hSw
                go_simp
                try with_reducible rfl
              case qzz48 => exact fun _ _ _ h => h
              case szz48 => first | assumption | trivial
              case' rzz48 => simp only [Act.put, List.setIfInBounds_toArray, List.set_cons_zero, List.set_cons_succ]
              refine wpAnyH_done (by kernel_rfl) ?_ _
              have HQ2 := Lib.hid hHeld
              have HR2 := Lib.hid (HR.out.step hHeld)
              have y0 := box_ HQ2.out y0
              have y1 := box_ HQ2.out y1
              have y2 := box_ HQ2.out y2
              have y3 := box_ HQ2.out y3
              clear b0 b1 f0 f1 r0 r1 g0 g1 x0 x1 x2 HR
              have HR := HR2
              obtain ⟨⟨b0, b1⟩, f0, f1⟩ := HR.out.b1.get2
              obtain ⟨⟨r0, r1⟩, g0, g1⟩ := HR.out.b3.get2
              obtain ⟨⟨x0, x1, x2⟩, _⟩ := HR.out.b2.get3
              go_wp2
              go_roundw
              case rel => exact ⟨k + 1, by omega, by go_num, HR.out, HCk.out⟩
              case measure => simp [intOf]; omega
          case' mzz49 => skip
          exact AllReadyH.nil
    · go_wp2_with fail
      refine (KB.out _ (HA.out.lst.q HR.out.q) (HB.out.lst.q HR.out.q)).mono ?_
      rintro e v2 ⟨A2, c2, rfl, o2, q2⟩
      have HR := Lib.hid (HR.out.step q2)
      clear q2 b0 b1 f0 f1 r0 r1 g0 g1 x0 x1 x2
      obtain ⟨⟨b0, b1⟩, f0, f1⟩ := HR.out.b1.get2
      obtain ⟨⟨r0, r1⟩, g0, g1⟩ := HR.out.b3.get2
      obtain ⟨⟨x0, x1, x2⟩, _⟩ := HR.out.b2.get3
      clear o2
      go_wp2
      have HBs := Lib.hid (Nat.le_refl v2.heap.size)
      refine wp_region_heldL 10 (Below (v2.heap.size) v2) (by kernel_rfl) ?szz50 (fun hHeld => ?rzz50)
      case szz50 =>
        exact Below.drew (Below.refl _ _)
      case' rzz50 => skip
      generalize hgen : v2.drew = D0 at hHeld ⊢
      clear hgen
      refine wpAnyL_take (i := 1) (oi := ?ozz51) (v := ?vzz51) ?hzz51 ?azz51 ?bzz51 ?czz51 ?kzz51 ?qzz51 ?yzz51 ?szz51 ?rzz51
      case hzz51 => simp only [List.getElem?_toArray, List.getElem?_cons_zero, List.getElem?_cons_succ]; rfl
      case azz51 => kernel_rfl
      case bzz51 => kernel_rfl
      case czz51 => kernel_rfl
      case kzz51 => kernel_rfl
      case yzz51 =>
        refine Or.inl ⟨by rfl, ?_⟩
        intro w hSw
        have zb0 := box_ hSw b0; have zb1 := box_ hSw b1; have zx0 := box_ hSw x0; have zx1 := box_ hSw x1; have zx2 := box_ hSw x2; clear hSw
        go_simp
        try with_reducible rfl
      case qzz51 => exact fun _ _ _ h => h
      case szz51 => first | assumption | trivial
      case' rzz51 => simp only [Act.put, List.setIfInBounds_toArray, List.set_cons_zero, List.set_cons_succ]
      refine wpAnyL_take (i := 2) (oi := ?ozz52) (v := ?vzz52) ?hzz52 ?azz52 ?bzz52 ?czz52 ?kzz52 ?qzz52 ?yzz52 ?szz52 ?rzz52
      case hzz52 => simp only [List.getElem?_toArray, List.getElem?_cons_zero, List.getElem?_cons_succ]; rfl
      case azz52 => kernel_rfl
      case bzz52 => kernel_rfl
      case czz52 => kernel_rfl
      case kzz52 => kernel_rfl
      case yzz52 =>
        refine Or.inl ⟨by rfl, ?_⟩
        intro w hSw
        have zb0 := box_ hSw b0; have zb1 := box_ hSw b1; have zx0 := box_ hSw x0; have zx1 := box_ hSw x1; have zx2 := box_ hSw x2; clear hSw
        go_simp
        try with_reducible rfl
      case qzz52 => exact fun _ _ _ h => h
      case szz52 => first | assumption | trivial
      case' rzz52 => simp only [Act.put, List.setIfInBounds_toArray, List.set_cons_zero, List.set_cons_succ]
      refine wpAnyL_take (i := 4) (oi := ?ozz53) (v := ?vzz53) ?hzz53 ?azz53 ?bzz53 ?czz53 ?kzz53 ?qzz53 ?yzz53 ?szz53 ?rzz53
      case hzz53 => simp only [List.getElem?_toArray, List.getElem?_cons_zero, List.getElem?_cons_succ]; rfl
      case azz53 => kernel_rfl
      case bzz53 => kernel_rfl
      case czz53 => kernel_rfl
      case kzz53 => kernel_rfl
      case yzz53 =>
        refine Or.inl ⟨by rfl, ?_⟩
        intro w hSw
        have zb0 := box_ hSw b0; have zb1 := box_ hSw b1; have zx0 := box_ hSw x0; have zx1 := box_ hSw x1; have zx2 := box_ hSw x2; clear hSw
        go_simp
        try with_reducible rfl
      case qzz53 => exact fun _ _ _ h => h
      case szz53 => first | assumption | trivial
      case' rzz53 => simp only [Act.put, List.setIfInBounds_toArray, List.set_cons_zero, List.set_cons_succ]
      refine wpAnyL_take (i := 5) (oi := ?ozz54) (v := ?vzz54) ?hzz54 ?azz54 ?bzz54 ?czz54 ?kzz54 ?qzz54 ?yzz54 ?szz54 ?rzz54
      case hzz54 => simp only [List.getElem?_toArray, List.getElem?_cons_zero, List.getElem?_cons_succ]; rfl
      case azz54 => kernel_rfl
      case bzz54 => kernel_rfl
      case czz54 => kernel_rfl
      case kzz54 => kernel_rfl
      case yzz54 =>
        refine Or.inl ⟨by rfl, ?_⟩
        intro w hSw
        have zb0 := box_ hSw b0; have zb1 := box_ hSw b1; have zx0 := box_ hSw x0; have zx1 := box_ hSw x1; have zx2 := box_ hSw x2; clear hSw
        go_simp
        try with_reducible rfl
      case qzz54 => exact fun _ _ _ h => h
      case szz54 => first | assumption | trivial
      case' rzz54 => simp only [Act.put, List.setIfInBounds_toArray, List.set_cons_zero, List.set_cons_succ]
      refine wpAnyL_take (i := 6) (oi := ?ozz55) (v := ?vzz55) ?hzz55 ?azz55 ?bzz55 ?czz55 ?kzz55 ?qzz55 ?yzz55 ?szz55 ?rzz55
      case hzz55 => simp only [List.getElem?_toArray, List.getElem?_cons_zero, List.getElem?_cons_succ]; rfl
      case azz55 => kernel_rfl
      case bzz55 => kernel_rfl
      case czz55 => kernel_rfl
      case kzz55 => kernel_rfl
      case yzz55 =>
        refine Or.inl ⟨by rfl, ?_⟩
        intro w hSw
        have zb0 := box_ hSw b0; have zb1 := box_ hSw b1; have zx0 := box_ hSw x0; have zx1 := box_ hSw x1; have zx2 := box_ hSw x2; clear hSw
        go_simp
        try with_reducible rfl
      case qzz55 => exact fun _ _ _ h => h
      case szz55 => first | assumption | trivial
      case' rzz55 => simp only [Act.put, List.setIfInBounds_toArray, List.set_cons_zero, List.set_cons_succ]
      refine wpAnyL_ready (rs := [0, 7]) (by kernel_rfl) (by simp) ?_
      refine AllReadyL.cons (o := ?ozz71) ?hzz71 (fun K hK => ?kzz71) ?mzz71
      case hzz71 => simp only [List.getElem?_toArray, List.getElem?_cons_zero]; rfl
      case kzz71 =>
        go_simp
        have OE := Lib.hid (OwnK.lit0 holdK D0 (v2.heap.size) (Nat.le_trans HBs.out hHeld.size))
        have qa := below_al hHeld HBs.out (.cells #[] 55)
        have OE0 := Lib.hid (show D0.heap.size < (D0.alloc (.cells #[] 55)).heap.size by simp)
        have OE : Hid (OwnK holdK (D0.alloc (.cells #[] 55)) (v2.heap.size) (some ⟨D0.heap.size, 0, none⟩) 0 0 []) := OE
        generalize D0.alloc (.cells #[] 55) = Y0 at OE OE0 qa ⊢
        generalize D0.heap.size = ne at OE OE0 ⊢
        refine hK.out _ _ ?Szz71 (fun hHeld => ?Rzz71)
        case Szz71 =>
          exact qa
        case Rzz71 =>
          clear hK K
          try simp only [Act.put, List.setIfInBounds_toArray, List.set_cons_zero, List.set_cons_succ]
          refine wpAnyL_ready (rs := [3, 7]) (by kernel_rfl) (by simp) ?_
          refine AllReadyL.cons (o := ?ozz64) ?hzz64 (fun K hK => ?kzz64) ?mzz64
          case hzz64 => simp only [List.getElem?_toArray, List.getElem?_cons_zero, List.getElem?_cons_succ]; rfl
          case kzz64 =>
            refine step_appKM holdK (by rfl) _ _ _ rfl (by rfl) (v2.heap.size) _ 0 0 [] (by rfl) OE.out A n c (l.held) (by rfl) (HA.out.lst.q (HR.out.q.trans hHeld)) (HA.out.nil) n (by omega) (l.held) (by simp) NF0.out (Nat.le_trans HBs.out hHeld.size) ?_
            intro A6 c6 w61 o6 b6 g6
            have q6 := hHeld.trans b6
            have O6 := Lib.hid o6
            clear o6 g6
            refine hK.out _ _ ?Szz64 (fun hHeld => ?Rzz64)
            case Szz64 =>
              exact q6
            case Rzz64 =>
              clear hK K
              try simp only [Act.put, List.setIfInBounds_toArray, List.set_cons_zero, List.set_cons_succ]
              refine wpAnyL_ready (rs := [7]) (by kernel_rfl) (by simp) ?_
              refine AllReadyL.cons (o := ?ozz59) ?hzz59 (fun K hK => ?kzz59) ?mzz59
              case hzz59 => simp only [List.getElem?_toArray, List.getElem?_cons_zero, List.getElem?_cons_succ]; rfl
              case kzz59 =>
                go_simp
                have OB : Hid (OwnK holdK (w61.alloc (.cells #[.int .i64 txn, .int .i64 x.mode, .string x.lo, .string x.hi] 55)) (v2.heap.size) (some ⟨w61.heap.size, 0, none⟩) 1 1 [⟨txn, x⟩]) := Lib.hid (OwnK.lit1 holdK w61 (v2.heap.size) (Nat.le_trans HBs.out hHeld.size) ⟨txn, x⟩)
                have OB0 := Lib.hid (show w61.heap.size < (w61.alloc (.cells #[.int .i64 txn, .int .i64 x.mode, .string x.lo, .string x.hi] 55)).heap.size by simp)
                have qa := below_al hHeld HBs.out (.cells #[.int .i64 txn, .int .i64 x.mode, .string x.lo, .string x.hi] 55)
                have O6 := Lib.hid (O6.out.alloc (.cells #[.int .i64 txn, .int .i64 x.mode, .string x.lo, .string x.hi] 55))
                generalize w61.alloc (.cells #[.int .i64 txn, .int .i64 x.mode, .string x.lo, .string x.hi] 55) = Y2 at OB OB0 qa O6 ⊢
                generalize w61.heap.size = nb at OB OB0 ⊢
                refine hK.out _ _ ?Szz59 (fun hHeld => ?Rzz59)
                case Szz59 =>
                  exact qa
                case Rzz59 =>
                  clear hK K
                  try simp only [Act.put, List.setIfInBounds_toArray, List.set_cons_zero, List.set_cons_succ]
                  refine wpAnyL_ready (rs := [8]) (by kernel_rfl) (by simp) ?_
                  refine AllReadyL.cons (o := ?ozz58) ?hzz58 (fun K hK => ?kzz58) ?mzz58
                  case hzz58 => simp only [List.getElem?_toArray, List.getElem?_cons_zero, List.getElem?_cons_succ]; rfl
                  case kzz58 =>
                    refine step_appKM holdK (by rfl) _ _ _ rfl (by rfl) (v2.heap.size) A6 n c6 (l.held) (by rfl) O6.out _ 1 1 [⟨txn, x⟩] (by rfl) OB.out.lst (fun e => by cases e) (n + 1) rfl (l.held ++ [⟨txn, x⟩]) rfl NF1.out (Nat.le_trans HBs.out hHeld.size) ?_
                    intro A7 c7 w73 o7 b7 g7
                    have q7 := hHeld.trans b7
                    refine hK.out _ _ ?Szz58 (fun hHeld => ?Rzz58)
                    case Szz58 =>
                      exact q7
                    case Rzz58 =>
                      clear hK K
                      try simp only [Act.put, List.setIfInBounds_toArray, List.set_cons_zero, List.set_cons_succ]
                      refine wpAnyL_take (i := 9) (oi := ?ozz56) (v := ?vzz56) ?hzz56 ?azz56 ?bzz56 ?czz56 ?kzz56 ?qzz56 ?yzz56 ?szz56 ?rzz56
                      case hzz56 => simp only [List.getElem?_toArray, List.getElem?_cons_zero, List.getElem?_cons_succ]; rfl
                      case azz56 => kernel_rfl
                      case bzz56 => kernel_rfl
                      case czz56 => kernel_rfl
                      case kzz56 => kernel_rfl
                      case yzz56 =>
                        refine Or.inl ⟨by rfl, ?_⟩
                        intro w hSw
                        have zb0 := box_ hSw b0; have zb1 := box_ hSw b1; have zx0 := box_ hSw x0; have zx1 := box_ hSw x1; have zx2 := box_ hSw x2; clear hSw
                        go_simp
                        try with_reducible rfl
                      case qzz56 => exact fun _ _ _ h => h
                      case szz56 => first | assumption | trivial
                      case' rzz56 => simp only [Act.put, List.setIfInBounds_toArray, List.set_cons_zero, List.set_cons_succ]
                      refine wpAnyL_ready (rs := [10]) (by kernel_rfl) (by simp) ?_
                      refine AllReadyL.consK (o := ?ozz57) ?hzz57 ?lzz57 (fun K hK => ?kzz57) ?mzz57
                      case hzz57 => simp only [List.getElem?_toArray, List.getElem?_cons_zero, List.getElem?_cons_succ]; rfl
                      case lzz57 => kernel_rfl
                      case kzz57 =>
                        have HZ := Lib.hid hHeld
                        obtain ⟨⟨p0, p1⟩, p2, p3⟩ := (HR.out.step hHeld).b1.get2
                        go_simp
                        refine hK.out _ _ ?Rzz57
                        case Rzz57 =>
                          clear hK K
                          try simp only [Act.put, List.setIfInBounds_toArray, List.set_cons_zero, List.set_cons_succ]
                          refine wpAnyH_done (by kernel_rfl) ?_ _
                          clear b0 b1 f0 f1 r0 r1 g0 g1 x0 x1 x2 p0 p1 p2 p3
                          have HR7 := Lib.hid (HR.out.step HZ.out)
                          obtain ⟨⟨b0, b1⟩, f0, f1⟩ := HR7.out.b1.get2
                          obtain ⟨⟨r0, r1⟩, g0, g1⟩ := HR7.out.b3.get2
                          go_wp2
                          refine bodyPost_ret (v := .tuple #[locV A7 (n + 1) c7 B m d, .int .i64 0]) (by simp [results, Try.results21, go_sem, r0, r1, g0, g1]) rfl ?_
                          exact HR.out.finH HZ.out o7 HB.out (by omega) 0 _ _ _
                      case' mzz57 => skip
                      exact AllReadyL.nil
                  case' mzz58 => skip
                  exact AllReadyL.nil
              case' mzz59 => skip
              exact AllReadyL.nil
          case' mzz64 => skip
          refine AllReadyL.cons (o := ?ozz65) ?hzz65 (fun K hK => ?kzz65) ?mzz65
          case hzz65 => simp only [List.getElem?_toArray, List.getElem?_cons_zero, List.getElem?_cons_succ]; rfl
          case kzz65 =>
            go_simp
            have OB : Hid (OwnK holdK (Y0.alloc (.cells #[.int .i64 txn, .int .i64 x.mode, .string x.lo, .string x.hi] 55)) (v2.heap.size) (some ⟨Y0.heap.size, 0, none⟩) 1 1 [⟨txn, x⟩]) := Lib.hid (OwnK.lit1 holdK Y0 (v2.heap.size) (Nat.le_trans HBs.out hHeld.size) ⟨txn, x⟩)
            have OB0 := Lib.hid (show Y0.heap.size < (Y0.alloc (.cells #[.int .i64 txn, .int .i64 x.mode, .string x.lo, .string x.hi] 55)).heap.size by simp)
            have qa := below_al hHeld HBs.out (.cells #[.int .i64 txn, .int .i64 x.mode, .string x.lo, .string x.hi] 55)
            have OE := Lib.hid (OE.out.alloc (.cells #[.int .i64 txn, .int .i64 x.mode, .string x.lo, .string x.hi] 55))
            have hne : ne ≠ Y0.heap.size := by have := OE0.out; omega
            generalize Y0.alloc (.cells #[.int .i64 txn, .int .i64 x.mode, .string x.lo, .string x.hi] 55) = Y4 at OB OB0 qa OE ⊢
            generalize Y0.heap.size = nb at OB OB0 hne ⊢
            refine hK.out _ _ ?Szz65 (fun hHeld => ?Rzz65)
            case Szz65 =>
              exact qa
            case Rzz65 =>
              clear hK K
              try simp only [Act.put, List.setIfInBounds_toArray, List.set_cons_zero, List.set_cons_succ]
              refine wpAnyL_ready (rs := [3]) (by kernel_rfl) (by simp) ?_
              refine AllReadyL.cons (o := ?ozz63) ?hzz63 (fun K hK => ?kzz63) ?mzz63
              case hzz63 => simp only [List.getElem?_toArray, List.getElem?_cons_zero, List.getElem?_cons_succ]; rfl
              case kzz63 =>
                refine step_appKM holdK (by rfl) _ _ _ rfl (by rfl) (v2.heap.size) _ 0 0 [] (by rfl) OE.out A n c (l.held) (by rfl) (HA.out.lst.q (HR.out.q.trans hHeld)) (HA.out.nil) n (by omega) (l.held) (by simp) NF0.out (Nat.le_trans HBs.out hHeld.size) ?_
                intro A6 c6 w65 o6 b6 g6
                have q6 := hHeld.trans b6
                have O6 := Lib.hid o6
                have OB := Lib.hid (OwnK.away OB.out g6 (by intro a b e1 e2; injection e1 with e1; injection e2 with e2; subst e1 e2; exact hne) (fun _ => trivial))
                clear o6 g6
                refine hK.out _ _ ?Szz63 (fun hHeld => ?Rzz63)
                case Szz63 =>
                  exact q6
                case Rzz63 =>
                  clear hK K
                  try simp only [Act.put, List.setIfInBounds_toArray, List.set_cons_zero, List.set_cons_succ]
                  refine wpAnyL_ready (rs := [8]) (by kernel_rfl) (by simp) ?_
                  refine AllReadyL.cons (o := ?ozz62) ?hzz62 (fun K hK => ?kzz62) ?mzz62
                  case hzz62 => simp only [List.getElem?_toArray, List.getElem?_cons_zero, List.getElem?_cons_succ]; rfl
                  case kzz62 =>
                    refine step_appKM holdK (by rfl) _ _ _ rfl (by rfl) (v2.heap.size) A6 n c6 (l.held) (by rfl) O6.out _ 1 1 [⟨txn, x⟩] (by rfl) OB.out.lst (fun e => by cases e) (n + 1) rfl (l.held ++ [⟨txn, x⟩]) rfl NF1.out (Nat.le_trans HBs.out hHeld.size) ?_
                    intro A7 c7 w76 o7 b7 g7
                    have q7 := hHeld.trans b7
                    refine hK.out _ _ ?Szz62 (fun hHeld => ?Rzz62)
                    case Szz62 =>
                      exact q7
                    case Rzz62 =>
                      clear hK K
                      try simp only [Act.put, List.setIfInBounds_toArray, List.set_cons_zero, List.set_cons_succ]
                      refine wpAnyL_take (i := 9) (oi := ?ozz60) (v := ?vzz60) ?hzz60 ?azz60 ?bzz60 ?czz60 ?kzz60 ?qzz60 ?yzz60 ?szz60 ?rzz60
                      case hzz60 => simp only [List.getElem?_toArray, List.getElem?_cons_zero, List.getElem?_cons_succ]; rfl
                      case azz60 => kernel_rfl
                      case bzz60 => kernel_rfl
                      case czz60 => kernel_rfl
                      case kzz60 => kernel_rfl
                      case yzz60 =>
                        refine Or.inl ⟨by rfl, ?_⟩
                        intro w hSw
                        have zb0 := box_ hSw b0; have zb1 := box_ hSw b1; have zx0 := box_ hSw x0; have zx1 := box_ hSw x1; have zx2 := box_ hSw x2; clear hSw
                        go_simp
                        try with_reducible rfl
                      case qzz60 => exact fun _ _ _ h => h
                      case szz60 => first | assumption | trivial
                      case' rzz60 => simp only [Act.put, List.setIfInBounds_toArray, List.set_cons_zero, List.set_cons_succ]
                      refine wpAnyL_ready (rs := [10]) (by kernel_rfl) (by simp) ?_
                      refine AllReadyL.consK (o := ?ozz61) ?hzz61 ?lzz61 (fun K hK => ?kzz61) ?mzz61
                      case hzz61 => simp only [List.getElem?_toArray, List.getElem?_cons_zero, List.getElem?_cons_succ]; rfl
                      case lzz61 => kernel_rfl
                      case kzz61 =>
                        have HZ := Lib.hid hHeld
                        obtain ⟨⟨p0, p1⟩, p2, p3⟩ := (HR.out.step hHeld).b1.get2
                        go_simp
                        refine hK.out _ _ ?Rzz61
                        case Rzz61 =>
                          clear hK K
                          try simp only [Act.put, List.setIfInBounds_toArray, List.set_cons_zero, List.set_cons_succ]
                          refine wpAnyH_done (by kernel_rfl) ?_ _
                          clear b0 b1 f0 f1 r0 r1 g0 g1 x0 x1 x2 p0 p1 p2 p3
                          have HR7 := Lib.hid (HR.out.step HZ.out)
                          obtain ⟨⟨b0, b1⟩, f0, f1⟩ := HR7.out.b1.get2
                          obtain ⟨⟨r0, r1⟩, g0, g1⟩ := HR7.out.b3.get2
                          go_wp2
                          refine bodyPost_ret (v := .tuple #[locV A7 (n + 1) c7 B m d, .int .i64 0]) (by simp [results, Try.results21, go_sem, r0, r1, g0, g1]) rfl ?_
                          exact HR.out.finH HZ.out o7 HB.out (by omega) 0 _ _ _
                      case' mzz61 => skip
                      exact AllReadyL.nil
                  case' mzz62 => skip
                  exact AllReadyL.nil
              case' mzz63 => skip
              exact AllReadyL.nil
          case' mzz65 => skip
          exact AllReadyL.nil
      case' mzz71 => skip
      refine AllReadyL.cons (o := ?ozz72) ?hzz72 (fun K hK => ?kzz72) ?mzz72
      case hzz72 => simp only [List.getElem?_toArray, List.getElem?_cons_zero, List.getElem?_cons_succ]; rfl
      case kzz72 =>
        go_simp
        have OB : Hid (OwnK holdK (D0.alloc (.cells #[.int .i64 txn, .int .i64 x.mode, .string x.lo, .string x.hi] 55)) (v2.heap.size) (some ⟨D0.heap.size, 0, none⟩) 1 1 [⟨txn, x⟩]) := Lib.hid (OwnK.lit1 holdK D0 (v2.heap.size) (Nat.le_trans HBs.out hHeld.size) ⟨txn, x⟩)
        have OB0 := Lib.hid (show D0.heap.size < (D0.alloc (.cells #[.int .i64 txn, .int .i64 x.mode, .string x.lo, .string x.hi] 55)).heap.size by simp)
        have qa := below_al hHeld HBs.out (.cells #[.int .i64 txn, .int .i64 x.mode, .string x.lo, .string x.hi] 55)
        generalize D0.alloc (.cells #[.int .i64 txn, .int .i64 x.mode, .string x.lo, .string x.hi] 55) = Y7 at OB OB0 qa ⊢
        generalize D0.heap.size = nb at OB OB0 ⊢
        refine hK.out _ _ ?Szz72 (fun hHeld => ?Rzz72)
        case Szz72 =>
          exact qa
        case Rzz72 =>
          clear hK K
          try simp only [Act.put, List.setIfInBounds_toArray, List.set_cons_zero, List.set_cons_succ]
          refine wpAnyL_ready (rs := [0]) (by kernel_rfl) (by simp) ?_
          refine AllReadyL.cons (o := ?ozz70) ?hzz70 (fun K hK => ?kzz70) ?mzz70
          case hzz70 => simp only [List.getElem?_toArray, List.getElem?_cons_zero]; rfl
          case kzz70 =>
            go_simp
            have OE := Lib.hid (OwnK.lit0 holdK Y7 (v2.heap.size) (Nat.le_trans HBs.out hHeld.size))
            have qa := below_al hHeld HBs.out (.cells #[] 55)
            have OB := Lib.hid (OB.out.alloc (.cells #[] 55))
            have hne : Y7.heap.size ≠ nb := by have := OB0.out; omega
            have OE0 := Lib.hid (show Y7.heap.size < (Y7.alloc (.cells #[] 55)).heap.size by simp)
            have OE : Hid (OwnK holdK (Y7.alloc (.cells #[] 55)) (v2.heap.size) (some ⟨Y7.heap.size, 0, none⟩) 0 0 []) := OE
            generalize Y7.alloc (.cells #[] 55) = Y8 at OE OE0 qa OB ⊢
            generalize Y7.heap.size = ne at OE OE0 hne ⊢
            refine hK.out _ _ ?Szz70 (fun hHeld => ?Rzz70)
            case Szz70 =>
              exact qa
            case Rzz70 =>
              clear hK K
              try simp only [Act.put, List.setIfInBounds_toArray, List.set_cons_zero, List.set_cons_succ]
              refine wpAnyL_ready (rs := [3]) (by kernel_rfl) (by simp) ?_
              refine AllReadyL.cons (o := ?ozz69) ?hzz69 (fun K hK => ?kzz69) ?mzz69
              case hzz69 => simp only [List.getElem?_toArray, List.getElem?_cons_zero, List.getElem?_cons_succ]; rfl
              case kzz69 =>
                refine step_appKM holdK (by rfl) _ _ _ rfl (by rfl) (v2.heap.size) _ 0 0 [] (by rfl) OE.out A n c (l.held) (by rfl) (HA.out.lst.q (HR.out.q.trans hHeld)) (HA.out.nil) n (by omega) (l.held) (by simp) NF0.out (Nat.le_trans HBs.out hHeld.size) ?_
                intro A6 c6 w69 o6 b6 g6
                have q6 := hHeld.trans b6
                have O6 := Lib.hid o6
                have OB := Lib.hid (OwnK.away OB.out g6 (by intro a b e1 e2; injection e1 with e1; injection e2 with e2; subst e1 e2; exact hne) (fun _ => trivial))
                clear o6 g6
                refine hK.out _ _ ?Szz69 (fun hHeld => ?Rzz69)
                case Szz69 =>
                  exact q6
                case Rzz69 =>
                  clear hK K
                  try simp only [Act.put, List.setIfInBounds_toArray, List.set_cons_zero, List.set_cons_succ]
                  refine wpAnyL_ready (rs := [8]) (by kernel_rfl) (by simp) ?_
                  refine AllReadyL.cons (o := ?ozz68) ?hzz68 (fun K hK => ?kzz68) ?mzz68
                  case hzz68 => simp only [List.getElem?_toArray, List.getElem?_cons_zero, List.getElem?_cons_succ]; rfl
                  case kzz68 =>
                    refine step_appKM holdK (by rfl) _ _ _ rfl (by rfl) (v2.heap.size) A6 n c6 (l.held) (by rfl) O6.out _ 1 1 [⟨txn, x⟩] (by rfl) OB.out.lst (fun e => by cases e) (n + 1) rfl (l.held ++ [⟨txn, x⟩]) rfl NF1.out (Nat.le_trans HBs.out hHeld.size) ?_
                    intro A7 c7 w710 o7 b7 g7
                    have q7 := hHeld.trans b7
                    refine hK.out _ _ ?Szz68 (fun hHeld => ?Rzz68)
                    case Szz68 =>
                      exact q7
                    case Rzz68 =>
                      clear hK K
                      try simp only [Act.put, List.setIfInBounds_toArray, List.set_cons_zero, List.set_cons_succ]
                      refine wpAnyL_take (i := 9) (oi := ?ozz66) (v := ?vzz66) ?hzz66 ?azz66 ?bzz66 ?czz66 ?kzz66 ?qzz66 ?yzz66 ?szz66 ?rzz66
                      case hzz66 => simp only [List.getElem?_toArray, List.getElem?_cons_zero, List.getElem?_cons_succ]; rfl
                      case azz66 => kernel_rfl
                      case bzz66 => kernel_rfl
                      case czz66 => kernel_rfl
                      case kzz66 => kernel_rfl
                      case yzz66 =>
                        refine Or.inl ⟨by rfl, ?_⟩
                        intro w hSw
                        have zb0 := box_ hSw b0; have zb1 := box_ hSw b1; have zx0 := box_ hSw x0; have zx1 := box_ hSw x1; have zx2 := box_ hSw x2; clear hSw
                        go_simp
                        try with_reducible rfl
                      case qzz66 => exact fun _ _ _ h => h
                      case szz66 => first | assumption | trivial
                      case' rzz66 => simp only [Act.put, List.setIfInBounds_toArray, List.set_cons_zero, List.set_cons_succ]
                      refine wpAnyL_ready (rs := [10]) (by kernel_rfl) (by simp) ?_
                      refine AllReadyL.consK (o := ?ozz67) ?hzz67 ?lzz67 (fun K hK => ?kzz67) ?mzz67
                      case hzz67 => simp only [List.getElem?_toArray, List.getElem?_cons_zero, List.getElem?_cons_succ]; rfl
                      case lzz67 => kernel_rfl
                      case kzz67 =>
                        have HZ := Lib.hid hHeld
                        obtain ⟨⟨p0, p1⟩, p2, p3⟩ := (HR.out.step hHeld).b1.get2
                        go_simp
                        refine hK.out _ _ ?Rzz67
                        case Rzz67 =>
                          clear hK K
                          try simp only [Act.put, List.setIfInBounds_toArray, List.set_cons_zero, List.set_cons_succ]
                          refine wpAnyH_done (by kernel_rfl) ?_ _
                          clear b0 b1 f0 f1 r0 r1 g0 g1 x0 x1 x2 p0 p1 p2 p3
                          have HR7 := Lib.hid (HR.out.step HZ.out)
                          obtain ⟨⟨b0, b1⟩, f0, f1⟩ := HR7.out.b1.get2
                          obtain ⟨⟨r0, r1⟩, g0, g1⟩ := HR7.out.b3.get2
                          go_wp2
                          refine bodyPost_ret (v := .tuple #[locV A7 (n + 1) c7 B m d, .int .i64 0]) (by simp [results, Try.results21, go_sem, r0, r1, g0, g1]) rfl ?_
                          exact HR.out.finH HZ.out o7 HB.out (by omega) 0 _ _ _
                      case' mzz67 => skip
                      exact AllReadyL.nil
                  case' mzz68 => skip
                  exact AllReadyL.nil
              case' mzz69 => skip
              exact AllReadyL.nil
          case' mzz70 => skip
          exact AllReadyL.nil
      case' mzz72 => skip
      exact AllReadyL.nil

set_option maxHeartbeats 8000000 in
set_option maxRecDepth 100000 in
theorem rask_a6 (A B : Option Addr) (n c m d : Nat) (l : Lo) (txn : Int) (x : Wn) (til : Nat) (w : World) (hA : In_ holdK w A n c l.held) (hB : In_ claimK w B m d l.queue) (hx : WnS x) (hh : WnsH l.held) (hc : WnsC l.queue) (hn : n ≤ 300000) (hm : m ≤ 300000) (h1 : 1 ≤ txn) (h2 : may x = true) (h3 : waits l txn = false) (h4 : covered l txn x = false) (h5 : blk l txn x m ≠ []) (h6 : 16 ≤ m) :
    Calls Try.prog 21 #[locV A n c B m d, .int .i64 txn, wnV x, .int .u64 (til : Int)] w fun e w' => RetAi w (l, 11) e w' := by
  have HA := Lib.hid hA
  have HB := Lib.hid hB
  have HX := Lib.hid hx
  have HWH := Lib.hid hh
  have HWC := Lib.hid hc
  have HAl := Lib.hid hA.len
  have KM := Lib.hid (fun W => rmay_any x W hx)
  rw [h2] at KM
  have KW := Lib.hid (fun W hq => rwaits_any A B n c m d l txn W hq (by omega))
  rw [h3] at KW
  have HCV := Lib.hid (show l.held.any (hasH txn x) = false by rw [← h4]; unfold covered hasH; congr 1; funext h; exact Bool.and_comm _ _)
  have KB := Lib.hid (fun W hp hq => rblk_any A B n c m d l txn x (m : Int) W hp hq hx hh hc (by omega) (by omega))
  rw [Int.toNat_natCast] at KB
  have hbl : 0 < (blk l txn x m).length := List.length_pos_iff.2 h5
  generalize blk l txn x m = bl at KB hbl
  have h6 : (16 : Int) ≤ (m : Int) := by omega
  clear hA hB hx hh hc h2 h3 h4 h5
  have h1 : ¬ txn < 1 := by omega
  have HR := Lib.hid (Ra.new w A n c B m d x)
  unfold wnV at *
  go_enter Try.func21, Try.ntmps21
  go_upto_region 1 with (fail)
  generalize ((w.alloc (.cells #[.slice A n c, .slice B m d] 25)).alloc (.cells #[.int .i64 x.mode, .string x.lo, .string x.hi] 41)).alloc (.cells #[.slice none 0 0, .slice none 0 0] 25) = W0 at HR ⊢
  obtain ⟨⟨b0, b1⟩, f0, f1⟩ := HR.out.b1.get2
  obtain ⟨⟨r0, r1⟩, g0, g1⟩ := HR.out.b3.get2
  obtain ⟨⟨x0, x1, x2⟩, _⟩ := HR.out.b2.get3
  go_wp2_with fail
  refine (KM.out _).mono ?_
  rintro e v0 ⟨rfl, q2⟩
  have HR := Lib.hid (HR.out.step q2)
  clear q2 b0 b1 f0 f1 r0 r1 g0 g1 x0 x1 x2
  obtain ⟨⟨b0, b1⟩, f0, f1⟩ := HR.out.b1.get2
  obtain ⟨⟨r0, r1⟩, g0, g1⟩ := HR.out.b3.get2
  obtain ⟨⟨x0, x1, x2⟩, _⟩ := HR.out.b2.get3
  go_wp2_with fail
  refine (KW.out _ (HB.out.lst.q HR.out.q)).mono ?_
  rintro e v1 ⟨rfl, q2⟩
  have HR := Lib.hid (HR.out.step q2)
  clear q2 b0 b1 f0 f1 r0 r1 g0 g1 x0 x1 x2
  obtain ⟨⟨b0, b1⟩, f0, f1⟩ := HR.out.b1.get2
  obtain ⟨⟨r0, r1⟩, g0, g1⟩ := HR.out.b3.get2
  obtain ⟨⟨x0, x1, x2⟩, _⟩ := HR.out.b2.get3
  go_wp2
  go_loopw [12] (fun i wr => ∃ k : Nat, k ≤ n ∧ i = .int .i64 k ∧ Ra w A n c B m d x wr ∧ (l.held.drop k).any (hasH txn x) = false) (fun i _ => n - (intOf i).toNat)
  case atStart => exact ⟨0, Nat.zero_le _, rfl, HR.out, HCV.out⟩
  case round =>
    clear b0 b1 f0 f1 r0 r1 g0 g1 x0 x1 x2 HR
    obtain ⟨k, hk, rfl, hr, hcv⟩ := hrel
    have HR := Lib.hid hr
    have HCk := Lib.hid hcv
    clear hr hcv
    obtain ⟨⟨b0, b1⟩, f0, f1⟩ := HR.out.b1.get2
    obtain ⟨⟨r0, r1⟩, g0, g1⟩ := HR.out.b3.get2
    obtain ⟨⟨x0, x1, x2⟩, _⟩ := HR.out.b2.get3
    by_cases hlt : k < n
    · have hkl : k < l.held.length := by have := HAl.out; omega
      have hkn : (k : Int) < (n : Int) := by omega
      have HG := Lib.hid (any_drop (hasH txn x) l.held hkl)
      have HWk := Lib.hid (HWH.out _ (List.getElem_mem hkl))
      obtain ⟨ad, rfl, hab, y0, y1, y2, y3⟩ := load_hold (HA.out.lst.q HR.out.q) hlt hkl
      generalize l.held[k] = h at y0 y1 y2 y3 HG HWk
      have KC := Lib.hid (fun W => rcovers_any h.w x W HWk.out HX.out)
      unfold wnV at KC
      rw [HG.out] at HCk
      unfold hasH at HCk
      go_wp2
      cases hcl : covers h.w x
      case false =>
        rw [hcl] at KC HCk
        simp only [Bool.and_false, Bool.false_or] at HCk
        clear hcl
        refine wp_region_held_drew (S := Q wr) (by kernel_rfl) ?szz73 (fun hHeld => ?rzz73)
        case szz73 =>
          exact (Q.refl wr).drew
        case' rzz73 => skip
        refine wpAnyH_take (i := 0) (oi := ?ozz74) (v := ?vzz74) ?hzz74 ?azz74 ?bzz74 ?czz74 ?qzz74 ?yzz74 ?szz74 ?rzz74
        case hzz74 => simp only [List.getElem?_toArray, List.getElem?_cons_zero]; rfl
        case azz74 => kernel_rfl
        case bzz74 => kernel_rfl
        case czz74 => kernel_rfl
        case yzz74 =>
          refine Or.inl ⟨by rfl, ?_⟩
          intro w hSw
          have zb0 := box_ hSw b0; have zb1 := box_ hSw b1; have zx0 := box_ hSw x0; have zx1 := box_ hSw x1; have zx2 := box_ hSw x2; have zy0 := box_ hSw y0; have zy1 := box_ hSw y1; have zy2 := box_ hSw y2; have zy3 := box_ hSw y3; clear hSw
          go_simp
          try with_reducible rfl
        case qzz74 => exact fun _ _ _ h => h
        case szz74 => first | assumption | trivial
        case' rzz74 => simp only [Act.put, List.setIfInBounds_toArray, List.set_cons_zero, List.set_cons_succ]
        refine wpAnyH_take (i := 1) (oi := ?ozz75) (v := ?vzz75) ?hzz75 ?azz75 ?bzz75 ?czz75 ?qzz75 ?yzz75 ?szz75 ?rzz75
        case hzz75 => simp only [List.getElem?_toArray, List.getElem?_cons_zero, List.getElem?_cons_succ]; rfl
        case azz75 => kernel_rfl
        case bzz75 => kernel_rfl
        case czz75 => kernel_rfl
        case yzz75 =>
          refine Or.inl ⟨by rfl, ?_⟩
          intro w hSw
          have zb0 := box_ hSw b0; have zb1 := box_ hSw b1; have zx0 := box_ hSw x0; have zx1 := box_ hSw x1; have zx2 := box_ hSw x2; have zy0 := box_ hSw y0; have zy1 := box_ hSw y1; have zy2 := box_ hSw y2; have zy3 := box_ hSw y3; clear hSw
          go_simp
          try with_reducible rfl
        case qzz75 => exact fun _ _ _ h => h
        case szz75 => first | assumption | trivial
        case' rzz75 => simp only [Act.put, List.setIfInBounds_toArray, List.set_cons_zero, List.set_cons_succ]
        refine wpAnyH_take (i := 2) (oi := ?ozz76) (v := ?vzz76) ?hzz76 ?azz76 ?bzz76 ?czz76 ?qzz76 ?yzz76 ?szz76 ?rzz76
        case hzz76 => simp only [List.getElem?_toArray, List.getElem?_cons_zero, List.getElem?_cons_succ]; rfl
        case azz76 => kernel_rfl
        case bzz76 => kernel_rfl
        case czz76 => kernel_rfl
        case yzz76 =>
          refine Or.inl ⟨by rfl, ?_⟩
          intro w hSw
          have zb0 := box_ hSw b0; have zb1 := box_ hSw b1; have zx0 := box_ hSw x0; have zx1 := box_ hSw x1; have zx2 := box_ hSw x2; have zy0 := box_ hSw y0; have zy1 := box_ hSw y1; have zy2 := box_ hSw y2; have zy3 := box_ hSw y3; clear hSw
          go_simp
          try with_reducible rfl
        case qzz76 => exact fun _ _ _ h => h
        case szz76 => first | assumption | trivial
        case' rzz76 => simp only [Act.put, List.setIfInBounds_toArray, List.set_cons_zero, List.set_cons_succ]
        refine wpAnyH_take (i := 3) (oi := ?ozz77) (v := ?vzz77) ?hzz77 ?azz77 ?bzz77 ?czz77 ?qzz77 ?yzz77 ?szz77 ?rzz77
        case hzz77 => simp only [List.getElem?_toArray, List.getElem?_cons_zero, List.getElem?_cons_succ]; rfl
        case azz77 => kernel_rfl
        case bzz77 => kernel_rfl
        case czz77 => kernel_rfl
        case yzz77 =>
          refine Or.inl ⟨by rfl, ?_⟩
          intro w hSw
          have zb0 := box_ hSw b0; have zb1 := box_ hSw b1; have zx0 := box_ hSw x0; have zx1 := box_ hSw x1; have zx2 := box_ hSw x2; have zy0 := box_ hSw y0; have zy1 := box_ hSw y1; have zy2 := box_ hSw y2; have zy3 := box_ hSw y3; clear hSw
          go_simp
          try with_reducible rfl
        case qzz77 => exact fun _ _ _ h => h
        case szz77 => first | assumption | trivial
        case' rzz77 => simp only [Act.put, List.setIfInBounds_toArray, List.set_cons_zero, List.set_cons_succ]
        refine wpAnyH_take (i := 4) (oi := ?ozz78) (v := ?vzz78) ?hzz78 ?azz78 ?bzz78 ?czz78 ?qzz78 ?yzz78 ?szz78 ?rzz78
        case hzz78 => simp only [List.getElem?_toArray, List.getElem?_cons_zero, List.getElem?_cons_succ]; rfl
        case azz78 => kernel_rfl
        case bzz78 => kernel_rfl
        case czz78 => kernel_rfl
        case yzz78 =>
          refine Or.inl ⟨by rfl, ?_⟩
          intro w hSw
          have zb0 := box_ hSw b0; have zb1 := box_ hSw b1; have zx0 := box_ hSw x0; have zx1 := box_ hSw x1; have zx2 := box_ hSw x2; have zy0 := box_ hSw y0; have zy1 := box_ hSw y1; have zy2 := box_ hSw y2; have zy3 := box_ hSw y3; clear hSw
          go_simp
          try with_reducible rfl
        case qzz78 => exact fun _ _ _ h => h
        case szz78 => first | assumption | trivial
        case' rzz78 => simp only [Act.put, List.setIfInBounds_toArray, List.set_cons_zero, List.set_cons_succ]
        refine wpAnyH_take (i := 5) (oi := ?ozz79) (v := ?vzz79) ?hzz79 ?azz79 ?bzz79 ?czz79 ?qzz79 ?yzz79 ?szz79 ?rzz79
        case hzz79 => simp only [List.getElem?_toArray, List.getElem?_cons_zero, List.getElem?_cons_succ]; rfl
        case azz79 => kernel_rfl
        case bzz79 => kernel_rfl
        case czz79 => kernel_rfl
        case yzz79 =>
          refine Or.inl ⟨by rfl, ?_⟩
          intro w hSw
          have zb0 := box_ hSw b0; have zb1 := box_ hSw b1; have zx0 := box_ hSw x0; have zx1 := box_ hSw x1; have zx2 := box_ hSw x2; have zy0 := box_ hSw y0; have zy1 := box_ hSw y1; have zy2 := box_ hSw y2; have zy3 := box_ hSw y3; clear hSw
          go_simp
          try with_reducible rfl
        case qzz79 => exact fun _ _ _ h => h
        case szz79 => first | assumption | trivial
        case' rzz79 => simp only [Act.put, List.setIfInBounds_toArray, List.set_cons_zero, List.set_cons_succ]
        refine wpAnyH_take (i := 6) (oi := ?ozz80) (v := ?vzz80) ?hzz80 ?azz80 ?bzz80 ?czz80 ?qzz80 ?yzz80 ?szz80 ?rzz80
        case hzz80 => simp only [List.getElem?_toArray, List.getElem?_cons_zero, List.getElem?_cons_succ]; rfl
        case azz80 => kernel_rfl
        case bzz80 => kernel_rfl
        case czz80 => kernel_rfl
        case yzz80 =>
          refine Or.inl ⟨by rfl, ?_⟩
          intro w hSw
          have zb0 := box_ hSw b0; have zb1 := box_ hSw b1; have zx0 := box_ hSw x0; have zx1 := box_ hSw x1; have zx2 := box_ hSw x2; have zy0 := box_ hSw y0; have zy1 := box_ hSw y1; have zy2 := box_ hSw y2; have zy3 := box_ hSw y3; clear hSw
          go_simp
          try with_reducible rfl
        case qzz80 => exact fun _ _ _ h => h
        case szz80 => first | assumption | trivial
        case' rzz80 => simp only [Act.put, List.setIfInBounds_toArray, List.set_cons_zero, List.set_cons_succ]
        refine wpAnyH_ready (rs := [7]) (by kernel_rfl) (by simp) ?_
        refine AllReadyH.cons (o := ?ozz82) ?hzz82 (fun K hK => ?kzz82) ?mzz82
        case hzz82 => simp only [List.getElem?_toArray, List.getElem?_cons_zero, List.getElem?_cons_succ]; rfl
        case kzz82 =>
          go_simp
          refine (KC.out _).mono ?_
          rintro e w2 ⟨rfl, q2⟩
          go_wp2_with fail
          refine hK.out _ _ ?Szz82 (fun hHeld => ?Rzz82)
          case Szz82 =>
            exact hHeld.trans q2
          case Rzz82 =>
            clear hK K
            try simp only [Act.put, List.setIfInBounds_toArray, List.set_cons_zero, List.set_cons_succ]
            refine wpAnyH_take (i := 8) (oi := ?ozz81) (v := ?vzz81) ?hzz81 ?azz81 ?bzz81 ?czz81 ?qzz81 ?yzz81 ?szz81 ?rzz81
            case hzz81 => simp only [List.getElem?_toArray, List.getElem?_cons_zero, List.getElem?_cons_succ]; rfl
            case azz81 => kernel_rfl
            case bzz81 => kernel_rfl
            case czz81 => kernel_rfl
            case yzz81 =>
              refine Or.inl ⟨by rfl, ?_⟩
              intro w hSw
              have zb0 := box_ hSw b0; have zb1 := box_ hSw b1; have zx0 := box_ hSw x0; have zx1 := box_ hSw x1; have zx2 := box_ hSw x2; have zy0 := box_ hSw y0; have zy1 := box_ hSw y1; have zy2 := box_ hSw y2; have zy3 := box_ hSw y3; clear hSw
              go_simp
              try with_reducible rfl
            case qzz81 => exact fun _ _ _ h => h
            case szz81 => first | assumption | trivial
            case' rzz81 => simp only [Act.put, List.setIfInBounds_toArray, List.set_cons_zero, List.set_cons_succ]
            refine wpAnyH_done (by kernel_rfl) ?_ _
            have HQ2 := Lib.hid hHeld
            have HR2 := Lib.hid (HR.out.step hHeld)
            have y0 := box_ HQ2.out y0
            have y1 := box_ HQ2.out y1
            have y2 := box_ HQ2.out y2
            have y3 := box_ HQ2.out y3
            clear b0 b1 f0 f1 r0 r1 g0 g1 x0 x1 x2 HR
            have HR := HR2
            obtain ⟨⟨b0, b1⟩, f0, f1⟩ := HR.out.b1.get2
            obtain ⟨⟨r0, r1⟩, g0, g1⟩ := HR.out.b3.get2
            obtain ⟨⟨x0, x1, x2⟩, _⟩ := HR.out.b2.get3
            go_wp2
            go_roundw
            case rel => exact ⟨k + 1, by omega, by go_num, HR.out, HCk.out⟩
            case measure => simp [intOf]; omega
        case' mzz82 => skip
        exact AllReadyH.nil
      case true =>
        rw [hcl] at KC HCk
        clear hcl
        by_cases ht : h.txn = txn
        · exfalso
          have := HCk.out
          simp [ht] at this
        · have et : (h.txn == txn) = false := by simpa using ht
          rw [decide_eq_false ht] at HCk
          simp only [Bool.false_and, Bool.false_or] at HCk
          clear ht
          refine wp_region_held_drew (S := Q wr) (by kernel_rfl) ?szz83 (fun hHeld => ?rzz83)
          case szz83 =>
            exact (Q.refl wr).drew
          case' rzz83 => skip
          refine wpAnyH_take (i := 0) (oi := ?ozz84) (v := ?vzz84) ?hzz84 ?azz84 ?bzz84 ?czz84 ?qzz84 ?yzz84 ?szz84 ?rzz84
          case hzz84 => simp only [List.getElem?_toArray, List.getElem?_cons_zero]; rfl
          case azz84 => kernel_rfl
          case bzz84 => kernel_rfl
          case czz84 => kernel_rfl
          case yzz84 =>
            refine Or.inl ⟨by rfl, ?_⟩
            intro w hSw
            have zb0 := box_ hSw b0; have zb1 := box_ hSw b1; have zx0 := box_ hSw x0; have zx1 := box_ hSw x1; have zx2 := box_ hSw x2; have zy0 := box_ hSw y0; have zy1 := box_ hSw y1; have zy2 := box_ hSw y2; have zy3 := box_ hSw y3; clear hSw
            go_simp
            try with_reducible rfl
          case qzz84 => exact fun _ _ _ h => h
          case szz84 => first | assumption | trivial
          case' rzz84 => simp only [Act.put, List.setIfInBounds_toArray, List.set_cons_zero, List.set_cons_succ]
          refine wpAnyH_take (i := 1) (oi := ?ozz85) (v := ?vzz85) ?hzz85 ?azz85 ?bzz85 ?czz85 ?qzz85 ?yzz85 ?szz85 ?rzz85
          case hzz85 => simp only [List.getElem?_toArray, List.getElem?_cons_zero, List.getElem?_cons_succ]; rfl
          case azz85 => kernel_rfl
          case bzz85 => kernel_rfl
          case czz85 => kernel_rfl
          case yzz85 =>
            refine Or.inl ⟨by rfl, ?_⟩
            intro w hSw
            have zb0 := box_ hSw b0; have zb1 := box_ hSw b1; have zx0 := box_ hSw x0; have zx1 := box_ hSw x1; have zx2 := box_ hSw x2; have zy0 := box_ hSw y0; have zy1 := box_ hSw y1; have zy2 := box_ hSw y2; have zy3 := box_ hSw y3; clear hSw
            go_simp
            try with_reducible rfl
          case qzz85 => exact fun _ _ _ h => h
          case szz85 => first | assumption | trivial
          case' rzz85 => simp only [Act.put, List.setIfInBounds_toArray, List.set_cons_zero, List.set_cons_succ]
          refine wpAnyH_take (i := 2) (oi := ?ozz86) (v := ?vzz86) ?hzz86 ?azz86 ?bzz86 ?czz86 ?qzz86 ?yzz86 ?szz86 ?rzz86
          case hzz86 => simp only [List.getElem?_toArray, List.getElem?_cons_zero, List.getElem?_cons_succ]; rfl
          case azz86 => kernel_rfl
          case bzz86 => kernel_rfl
          case czz86 => kernel_rfl
          case yzz86 =>
            refine Or.inl ⟨by rfl, ?_⟩
            intro w hSw
            have zb0 := box_ hSw b0; have zb1 := box_ hSw b1; have zx0 := box_ hSw x0; have zx1 := box_ hSw x1; have zx2 := box_ hSw x2; have zy0 := box_ hSw y0; have zy1 := box_ hSw y1; have zy2 := box_ hSw y2; have zy3 := box_ hSw y3; clear hSw
            go_simp
            try with_reducible rfl
          case qzz86 => exact fun _ _ _ h => h
          case szz86 => first | assumption | trivial
          case' rzz86 => simp only [Act.put, List.setIfInBounds_toArray, List.set_cons_zero, List.set_cons_succ]
          refine wpAnyH_take (i := 3) (oi := ?ozz87) (v := ?vzz87) ?hzz87 ?azz87 ?bzz87 ?czz87 ?qzz87 ?yzz87 ?szz87 ?rzz87
          case hzz87 => simp only [List.getElem?_toArray, List.getElem?_cons_zero, List.getElem?_cons_succ]; rfl
          case azz87 => kernel_rfl
          case bzz87 => kernel_rfl
          case czz87 => kernel_rfl
          case yzz87 =>
            refine Or.inl ⟨by rfl, ?_⟩
            intro w hSw
            have zb0 := box_ hSw b0; have zb1 := box_ hSw b1; have zx0 := box_ hSw x0; have zx1 := box_ hSw x1; have zx2 := box_ hSw x2; have zy0 := box_ hSw y0; have zy1 := box_ hSw y1; have zy2 := box_ hSw y2; have zy3 := box_ hSw y3; clear hSw
            go_simp
            try with_reducible rfl
          case qzz87 => exact fun _ _ _ h => h
          case szz87 => first | assumption | trivial
          case' rzz87 => simp only [Act.put, List.setIfInBounds_toArray, List.set_cons_zero, List.set_cons_succ]
          refine wpAnyH_take (i := 4) (oi := ?ozz88) (v := ?vzz88) ?hzz88 ?azz88 ?bzz88 ?czz88 ?qzz88 ?yzz88 ?szz88 ?rzz88
          case hzz88 => simp only [List.getElem?_toArray, List.getElem?_cons_zero, List.getElem?_cons_succ]; rfl
          case azz88 => kernel_rfl
          case bzz88 => kernel_rfl
          case czz88 => kernel_rfl
          case yzz88 =>
            refine Or.inl ⟨by rfl, ?_⟩
            intro w hSw
            have zb0 := box_ hSw b0; have zb1 := box_ hSw b1; have zx0 := box_ hSw x0; have zx1 := box_ hSw x1; have zx2 := box_ hSw x2; have zy0 := box_ hSw y0; have zy1 := box_ hSw y1; have zy2 := box_ hSw y2; have zy3 := box_ hSw y3; clear hSw
            go_simp
            try with_reducible rfl
          case qzz88 => exact fun _ _ _ h => h
          case szz88 => first | assumption | trivial
          case' rzz88 => simp only [Act.put, List.setIfInBounds_toArray, List.set_cons_zero, List.set_cons_succ]
          refine wpAnyH_take (i := 5) (oi := ?ozz89) (v := ?vzz89) ?hzz89 ?azz89 ?bzz89 ?czz89 ?qzz89 ?yzz89 ?szz89 ?rzz89
          case hzz89 => simp only [List.getElem?_toArray, List.getElem?_cons_zero, List.getElem?_cons_succ]; rfl
          case azz89 => kernel_rfl
          case bzz89 => kernel_rfl
          case czz89 => kernel_rfl
          case yzz89 =>
            refine Or.inl ⟨by rfl, ?_⟩
            intro w hSw
            have zb0 := box_ hSw b0; have zb1 := box_ hSw b1; have zx0 := box_ hSw x0; have zx1 := box_ hSw x1; have zx2 := box_ hSw x2; have zy0 := box_ hSw y0; have zy1 := box_ hSw y1; have zy2 := box_ hSw y2; have zy3 := box_ hSw y3; clear hSw
            go_simp
            try with_reducible rfl
          case qzz89 => exact fun _ _ _ h => h
          case szz89 => first | assumption | trivial
          case' rzz89 => simp only [Act.put, List.setIfInBounds_toArray, List.set_cons_zero, List.set_cons_succ]
          refine wpAnyH_take (i := 6) (oi := ?ozz90) (v := ?vzz90) ?hzz90 ?azz90 ?bzz90 ?czz90 ?qzz90 ?yzz90 ?szz90 ?rzz90
          case hzz90 => simp only [List.getElem?_toArray, List.getElem?_cons_zero, List.getElem?_cons_succ]; rfl
          case azz90 => kernel_rfl
          case bzz90 => kernel_rfl
          case czz90 => kernel_rfl
          case yzz90 =>
            refine Or.inl ⟨by rfl, ?_⟩
            intro w hSw
            have zb0 := box_ hSw b0; have zb1 := box_ hSw b1; have zx0 := box_ hSw x0; have zx1 := box_ hSw x1; have zx2 := box_ hSw x2; have zy0 := box_ hSw y0; have zy1 := box_ hSw y1; have zy2 := box_ hSw y2; have zy3 := box_ hSw y3; clear hSw
            go_simp
            try with_reducible rfl
          case qzz90 => exact fun _ _ _ h => h
          case szz90 => first | assumption | trivial
          case' rzz90 => simp only [Act.put, List.setIfInBounds_toArray, List.set_cons_zero, List.set_cons_succ]
          refine wpAnyH_ready (rs := [7]) (by kernel_rfl) (by simp) ?_
          refine AllReadyH.cons (o := ?ozz92) ?hzz92 (fun K hK => ?kzz92) ?mzz92
          case hzz92 => simp only [List.getElem?_toArray, List.getElem?_cons_zero, List.getElem?_cons_succ]; rfl
          case kzz92 =>
            go_simp
            refine (KC.out _).mono ?_
            rintro e w2 ⟨rfl, q2⟩
            go_wp2_with fail
            refine hK.out _ _ ?Szz92 (fun hHeld => ?Rzz92)
            case Szz92 =>
              exact hHeld.trans q2
            case Rzz92 =>
              clear hK K
              try simp only [Act.put, List.setIfInBounds_toArray, List.set_cons_zero, List.set_cons_succ]
              refine wpAnyH_take (i := 8) (oi := ?ozz91) (v := ?vzz91) ?hzz91 ?azz91 ?bzz91 ?czz91 ?qzz91 ?yzz91 ?szz91 ?rzz91
              case hzz91 => simp only [List.getElem?_toArray, List.getElem?_cons_zero, List.getElem?_cons_succ]; rfl
              case azz91 => kernel_rfl
              case bzz91 => kernel_rfl
              case czz91 => kernel_rfl
              case yzz91 =>
                refine Or.inl ⟨by rfl, ?_⟩
                intro w hSw
                have zb0 := box_ hSw b0; have zb1 := box_ hSw b1; have zx0 := box_ hSw x0; have zx1 := box_ hSw x1; have zx2 := box_ hSw x2; have zy0 := box_ hSw y0; have zy1 := box_ hSw y1; have zy2 := box_ hSw y2; have zy3 := box_ hSw y3; clear hSw
                go_simp
                try with_reducible rfl
              case qzz91 => exact fun _ _ _ h => h
              case szz91 => first | assumption | trivial
              case' rzz91 => simp only [Act.put, List.setIfInBounds_toArray, List.set_cons_zero, List.set_cons_succ]
              refine wpAnyH_done (by kernel_rfl) ?_ _
              have HQ2 := Lib.hid hHeld
              have HR2 := Lib.hid (HR.out.step hHeld)
              have y0 := box_ HQ2.out y0
              have y1 := box_ HQ2.out y1
              have y2 := box_ HQ2.out y2
              have y3 := box_ HQ2.out y3
              clear b0 b1 f0 f1 r0 r1 g0 g1 x0 x1 x2 HR
              have HR := HR2
              obtain ⟨⟨b0, b1⟩, f0, f1⟩ := HR.out.b1.get2
              obtain ⟨⟨r0, r1⟩, g0, g1⟩ := HR.out.b3.get2
              obtain ⟨⟨x0, x1, x2⟩, _⟩ := HR.out.b2.get3
              go_wp2
              go_roundw
              case rel => exact ⟨k + 1, by omega, by go_num, HR.out, HCk.out⟩
              case measure => simp [intOf]; omega
          case' mzz92 => skip
          exact AllReadyH.nil
    · go_wp2_with fail
      refine (KB.out _ (HA.out.lst.q HR.out.q) (HB.out.lst.q HR.out.q)).mono ?_
      rintro e v2 ⟨A2, c2, rfl, o2, q2⟩
      have HR := Lib.hid (HR.out.step q2)
      clear q2 b0 b1 f0 f1 r0 r1 g0 g1 x0 x1 x2
      obtain ⟨⟨b0, b1⟩, f0, f1⟩ := HR.out.b1.get2
      obtain ⟨⟨r0, r1⟩, g0, g1⟩ := HR.out.b3.get2
      obtain ⟨⟨x0, x1, x2⟩, _⟩ := HR.out.b2.get3
      clear o2
      go_wp2
      refine bodyPost_ret (v := .tuple #[locV A n c B m d, .int .i64 11]) (by simp [results, Try.results21, go_sem, r0, r1, g0, g1]) rfl ?_
      exact HR.out.fin HA.out HB.out 11 _ _

set_option maxHeartbeats 8000000 in
set_option maxRecDepth 100000 in
theorem rask_a7 (A B : Option Addr) (n c m d : Nat) (l : Lo) (txn : Int) (x : Wn) (til : Nat) (w : World) (hA : In_ holdK w A n c l.held) (hB : In_ claimK w B m d l.queue) (hx : WnS x) (hh : WnsH l.held) (hc : WnsC l.queue) (hn : n ≤ 300000) (hm : m ≤ 300000) (h1 : 1 ≤ txn) (h2 : may x = true) (h3 : waits l txn = false) (h4 : covered l txn x = false) (h5 : blk l txn x m ≠ []) (h6 : m < 16) :
    Calls Try.prog 21 #[locV A n c B m d, .int .i64 txn, wnV x, .int .u64 (til : Int)] w fun e w' => RetAi w (⟨l.held, l.queue ++ [⟨txn, x, til⟩]⟩, 12) e w' := by
  have HA := Lib.hid hA
  have HB := Lib.hid hB
  have HX := Lib.hid hx
  have HWH := Lib.hid hh
  have HWC := Lib.hid hc
  have HAl := Lib.hid hA.len
  have KM := Lib.hid (fun W => rmay_any x W hx)
  rw [h2] at KM
  have KW := Lib.hid (fun W hq => rwaits_any A B n c m d l txn W hq (by omega))
  rw [h3] at KW
  have HCV := Lib.hid (show l.held.any (hasH txn x) = false by rw [← h4]; unfold covered hasH; congr 1; funext h; exact Bool.and_comm _ _)
  have KB := Lib.hid (fun W hp hq => rblk_any A B n c m d l txn x (m : Int) W hp hq hx hh hc (by omega) (by omega))
  rw [Int.toNat_natCast] at KB
  have hbl : 0 < (blk l txn x m).length := List.length_pos_iff.2 h5
  generalize blk l txn x m = bl at KB hbl
  have h6 : ¬ (16 : Int) ≤ (m : Int) := by omega
  have NF0 := Lib.hid (show m * 56 ≤ 140737488355328 by omega)
  have NF1 := Lib.hid (show (m + 1) * 56 ≤ 140737488355328 by omega)
  clear hA hB hx hh hc h2 h3 h4 h5
  have h1 : ¬ txn < 1 := by omega
  have HR := Lib.hid (Ra.new w A n c B m d x)
  unfold wnV at *
  go_enter Try.func21, Try.ntmps21
  go_upto_region 1 with (fail)
  generalize ((w.alloc (.cells #[.slice A n c, .slice B m d] 25)).alloc (.cells #[.int .i64 x.mode, .string x.lo, .string x.hi] 41)).alloc (.cells #[.slice none 0 0, .slice none 0 0] 25) = W0 at HR ⊢
  obtain ⟨⟨b0, b1⟩, f0, f1⟩ := HR.out.b1.get2
  obtain ⟨⟨r0, r1⟩, g0, g1⟩ := HR.out.b3.get2
  obtain ⟨⟨x0, x1, x2⟩, _⟩ := HR.out.b2.get3
  go_wp2_with fail
  refine (KM.out _).mono ?_
  rintro e v0 ⟨rfl, q2⟩
  have HR := Lib.hid (HR.out.step q2)
  clear q2 b0 b1 f0 f1 r0 r1 g0 g1 x0 x1 x2
  obtain ⟨⟨b0, b1⟩, f0, f1⟩ := HR.out.b1.get2
  obtain ⟨⟨r0, r1⟩, g0, g1⟩ := HR.out.b3.get2
  obtain ⟨⟨x0, x1, x2⟩, _⟩ := HR.out.b2.get3
  go_wp2_with fail
  refine (KW.out _ (HB.out.lst.q HR.out.q)).mono ?_
  rintro e v1 ⟨rfl, q2⟩
  have HR := Lib.hid (HR.out.step q2)
  clear q2 b0 b1 f0 f1 r0 r1 g0 g1 x0 x1 x2
  obtain ⟨⟨b0, b1⟩, f0, f1⟩ := HR.out.b1.get2
  obtain ⟨⟨r0, r1⟩, g0, g1⟩ := HR.out.b3.get2
  obtain ⟨⟨x0, x1, x2⟩, _⟩ := HR.out.b2.get3
  go_wp2
  go_loopw [12] (fun i wr => ∃ k : Nat, k ≤ n ∧ i = .int .i64 k ∧ Ra w A n c B m d x wr ∧ (l.held.drop k).any (hasH txn x) = false) (fun i _ => n - (intOf i).toNat)
  case atStart => exact ⟨0, Nat.zero_le _, rfl, HR.out, HCV.out⟩
  case round =>
    clear b0 b1 f0 f1 r0 r1 g0 g1 x0 x1 x2 HR
    obtain ⟨k, hk, rfl, hr, hcv⟩ := hrel
    have HR := Lib.hid hr
    have HCk := Lib.hid hcv
    clear hr hcv
    obtain ⟨⟨b0, b1⟩, f0, f1⟩ := HR.out.b1.get2
    obtain ⟨⟨r0, r1⟩, g0, g1⟩ := HR.out.b3.get2
    obtain ⟨⟨x0, x1, x2⟩, _⟩ := HR.out.b2.get3
    by_cases hlt : k < n
    · have hkl : k < l.held.length := by have := HAl.out; omega
      have hkn : (k : Int) < (n : Int) := by omega
      have HG := Lib.hid (any_drop (hasH txn x) l.held hkl)
      have HWk := Lib.hid (HWH.out _ (List.getElem_mem hkl))
      obtain ⟨ad, rfl, hab, y0, y1, y2, y3⟩ := load_hold (HA.out.lst.q HR.out.q) hlt hkl
      generalize l.held[k] = h at y0 y1 y2 y3 HG HWk
      have KC := Lib.hid (fun W => rcovers_any h.w x W HWk.out HX.out)
      unfold wnV at KC
      rw [HG.out] at HCk
      unfold hasH at HCk
      go_wp2
      cases hcl : covers h.w x
      case false =>
        rw [hcl] at KC HCk
        simp only [Bool.and_false, Bool.false_or] at HCk
        clear hcl
        refine wp_region_held_drew (S := Q wr) (by kernel_rfl) ?szz93 (fun hHeld => ?rzz93)
        case szz93 =>
          exact (Q.refl wr).drew
        case' rzz93 => skip
        refine wpAnyH_take (i := 0) (oi := ?ozz94) (v := ?vzz94) ?hzz94 ?azz94 ?bzz94 ?czz94 ?qzz94 ?yzz94 ?szz94 ?rzz94
        case hzz94 => simp only [List.getElem?_toArray, List.getElem?_cons_zero]; rfl
        case azz94 => kernel_rfl
        case bzz94 => kernel_rfl
        case czz94 => kernel_rfl
        case yzz94 =>
          refine Or.inl ⟨by rfl, ?_⟩
          intro w hSw
          have zb0 := box_ hSw b0; have zb1 := box_ hSw b1; have zx0 := box_ hSw x0; have zx1 := box_ hSw x1; have zx2 := box_ hSw x2; have zy0 := box_ hSw y0; have zy1 := box_ hSw y1; have zy2 := box_ hSw y2; have zy3 := box_ hSw y3; clear hSw
          go_simp
          try with_reducible rfl
        case qzz94 => exact fun _ _ _ h => h
        case szz94 => first | assumption | trivial
        case' rzz94 => simp only [Act.put, List.setIfInBounds_toArray, List.set_cons_zero, List.set_cons_succ]
        refine wpAnyH_take (i := 1) (oi := ?ozz95) (v := ?vzz95) ?hzz95 ?azz95 ?bzz95 ?czz95 ?qzz95 ?yzz95 ?szz95 ?rzz95
        case hzz95 => simp only [List.getElem?_toArray, List.getElem?_cons_zero, List.getElem?_cons_succ]; rfl
        case azz95 => kernel_rfl
        case bzz95 => kernel_rfl
        case czz95 => kernel_rfl
        case yzz95 =>
          refine Or.inl ⟨by rfl, ?_⟩
          intro w hSw
          have zb0 := box_ hSw b0; have zb1 := box_ hSw b1; have zx0 := box_ hSw x0; have zx1 := box_ hSw x1; have zx2 := box_ hSw x2; have zy0 := box_ hSw y0; have zy1 := box_ hSw y1; have zy2 := box_ hSw y2; have zy3 := box_ hSw y3; clear hSw
          go_simp
          try with_reducible rfl
        case qzz95 => exact fun _ _ _ h => h
        case szz95 => first | assumption | trivial
        case' rzz95 => simp only [Act.put, List.setIfInBounds_toArray, List.set_cons_zero, List.set_cons_succ]
        refine wpAnyH_take (i := 2) (oi := ?ozz96) (v := ?vzz96) ?hzz96 ?azz96 ?bzz96 ?czz96 ?qzz96 ?yzz96 ?szz96 ?rzz96
        case hzz96 => simp only [List.getElem?_toArray, List.getElem?_cons_zero, List.getElem?_cons_succ]; rfl
        case azz96 => kernel_rfl
        case bzz96 => kernel_rfl
        case czz96 => kernel_rfl
        case yzz96 =>
          refine Or.inl ⟨by rfl, ?_⟩
          intro w hSw
          have zb0 := box_ hSw b0; have zb1 := box_ hSw b1; have zx0 := box_ hSw x0; have zx1 := box_ hSw x1; have zx2 := box_ hSw x2; have zy0 := box_ hSw y0; have zy1 := box_ hSw y1; have zy2 := box_ hSw y2; have zy3 := box_ hSw y3; clear hSw
          go_simp
          try with_reducible rfl
        case qzz96 => exact fun _ _ _ h => h
        case szz96 => first | assumption | trivial
        case' rzz96 => simp only [Act.put, List.setIfInBounds_toArray, List.set_cons_zero, List.set_cons_succ]
        refine wpAnyH_take (i := 3) (oi := ?ozz97) (v := ?vzz97) ?hzz97 ?azz97 ?bzz97 ?czz97 ?qzz97 ?yzz97 ?szz97 ?rzz97
        case hzz97 => simp only [List.getElem?_toArray, List.getElem?_cons_zero, List.getElem?_cons_succ]; rfl
        case azz97 => kernel_rfl
        case bzz97 => kernel_rfl
        case czz97 => kernel_rfl
        case yzz97 =>
          refine Or.inl ⟨by rfl, ?_⟩
          intro w hSw
          have zb0 := box_ hSw b0; have zb1 := box_ hSw b1; have zx0 := box_ hSw x0; have zx1 := box_ hSw x1; have zx2 := box_ hSw x2; have zy0 := box_ hSw y0; have zy1 := box_ hSw y1; have zy2 := box_ hSw y2; have zy3 := box_ hSw y3; clear hSw
          go_simp
          try with_reducible rfl
        case qzz97 => exact fun _ _ _ h => h
        case szz97 => first | assumption | trivial
        case' rzz97 => simp only [Act.put, List.setIfInBounds_toArray, List.set_cons_zero, List.set_cons_succ]
        refine wpAnyH_take (i := 4) (oi := ?ozz98) (v := ?vzz98) ?hzz98 ?azz98 ?bzz98 ?czz98 ?qzz98 ?yzz98 ?szz98 ?rzz98
        case hzz98 => simp only [List.getElem?_toArray, List.getElem?_cons_zero, List.getElem?_cons_succ]; rfl
        case azz98 => kernel_rfl
        case bzz98 => kernel_rfl
        case czz98 => kernel_rfl
        case yzz98 =>
          refine Or.inl ⟨by rfl, ?_⟩
          intro w hSw
          have zb0 := box_ hSw b0; have zb1 := box_ hSw b1; have zx0 := box_ hSw x0; have zx1 := box_ hSw x1; have zx2 := box_ hSw x2; have zy0 := box_ hSw y0; have zy1 := box_ hSw y1; have zy2 := box_ hSw y2; have zy3 := box_ hSw y3; clear hSw
          go_simp
          try with_reducible rfl
        case qzz98 => exact fun _ _ _ h => h
        case szz98 => first | assumption | trivial
        case' rzz98 => simp only [Act.put, List.setIfInBounds_toArray, List.set_cons_zero, List.set_cons_succ]
        refine wpAnyH_take (i := 5) (oi := ?ozz99) (v := ?vzz99) ?hzz99 ?azz99 ?bzz99 ?czz99 ?qzz99 ?yzz99 ?szz99 ?rzz99
        case hzz99 => simp only [List.getElem?_toArray, List.getElem?_cons_zero, List.getElem?_cons_succ]; rfl
        case azz99 => kernel_rfl
        case bzz99 => kernel_rfl
        case czz99 => kernel_rfl
        case yzz99 =>
          refine Or.inl ⟨by rfl, ?_⟩
          intro w hSw
          have zb0 := box_ hSw b0; have zb1 := box_ hSw b1; have zx0 := box_ hSw x0; have zx1 := box_ hSw x1; have zx2 := box_ hSw x2; have zy0 := box_ hSw y0; have zy1 := box_ hSw y1; have zy2 := box_ hSw y2; have zy3 := box_ hSw y3; clear hSw
          go_simp
          try with_reducible rfl
        case qzz99 => exact fun _ _ _ h => h
        case szz99 => first | assumption | trivial
        case' rzz99 => simp only [Act.put, List.setIfInBounds_toArray, List.set_cons_zero, List.set_cons_succ]
        refine wpAnyH_take (i := 6) (oi := ?ozz100) (v := ?vzz100) ?hzz100 ?azz100 ?bzz100 ?czz100 ?qzz100 ?yzz100 ?szz100 ?rzz100
        case hzz100 => simp only [List.getElem?_toArray, List.getElem?_cons_zero, List.getElem?_cons_succ]; rfl
        case azz100 => kernel_rfl
        case bzz100 => kernel_rfl
        case czz100 => kernel_rfl
        case yzz100 =>
          refine Or.inl ⟨by rfl, ?_⟩
          intro w hSw
          have zb0 := box_ hSw b0; have zb1 := box_ hSw b1; have zx0 := box_ hSw x0; have zx1 := box_ hSw x1; have zx2 := box_ hSw x2; have zy0 := box_ hSw y0; have zy1 := box_ hSw y1; have zy2 := box_ hSw y2; have zy3 := box_ hSw y3; clear hSw
          go_simp
          try with_reducible rfl
        case qzz100 => exact fun _ _ _ h => h
        case szz100 => first | assumption | trivial
        case' rzz100 => simp only [Act.put, List.setIfInBounds_toArray, List.set_cons_zero, List.set_cons_succ]
        refine wpAnyH_ready (rs := [7]) (by kernel_rfl) (by simp) ?_
        refine AllReadyH.cons (o := ?ozz102) ?hzz102 (fun K hK => ?kzz102) ?mzz102
        case hzz102 => simp only [List.getElem?_toArray, List.getElem?_cons_zero, List.getElem?_cons_succ]; rfl
        case kzz102 =>
          go_simp
          refine (KC.out _).mono ?_
          rintro e w2 ⟨rfl, q2⟩
          go_wp2_with fail
          refine hK.out _ _ ?Szz102 (fun hHeld => ?Rzz102)
          case Szz102 =>
            exact hHeld.trans q2
          case Rzz102 =>
            clear hK K
            try simp only [Act.put, List.setIfInBounds_toArray, List.set_cons_zero, List.set_cons_succ]
            refine wpAnyH_take (i := 8) (oi := ?ozz101) (v := ?vzz101) ?hzz101 ?azz101 ?bzz101 ?czz101 ?qzz101 ?yzz101 ?szz101 ?rzz101
            case hzz101 => simp only [List.getElem?_toArray, List.getElem?_cons_zero, List.getElem?_cons_succ]; rfl
            case azz101 => kernel_rfl
            case bzz101 => kernel_rfl
            case czz101 => kernel_rfl
            case yzz101 =>
              refine Or.inl ⟨by rfl, ?_⟩
              intro w hSw
              have zb0 := box_ hSw b0; have zb1 := box_ hSw b1; have zx0 := box_ hSw x0; have zx1 := box_ hSw x1; have zx2 := box_ hSw x2; have zy0 := box_ hSw y0; have zy1 := box_ hSw y1; have zy2 := box_ hSw y2; have zy3 := box_ hSw y3; clear hSw
              go_simp
              try with_reducible rfl
            case qzz101 => exact fun _ _ _ h => h
            case szz101 => first | assumption | trivial
            case' rzz101 => simp only [Act.put, List.setIfInBounds_toArray, List.set_cons_zero, List.set_cons_succ]
            refine wpAnyH_done (by kernel_rfl) ?_ _
            have HQ2 := Lib.hid hHeld
            have HR2 := Lib.hid (HR.out.step hHeld)
            have y0 := box_ HQ2.out y0
            have y1 := box_ HQ2.out y1
            have y2 := box_ HQ2.out y2
            have y3 := box_ HQ2.out y3
            clear b0 b1 f0 f1 r0 r1 g0 g1 x0 x1 x2 HR
            have HR := HR2
            obtain ⟨⟨b0, b1⟩, f0, f1⟩ := HR.out.b1.get2
            obtain ⟨⟨r0, r1⟩, g0, g1⟩ := HR.out.b3.get2
            obtain ⟨⟨x0, x1, x2⟩, _⟩ := HR.out.b2.get3
            go_wp2
            go_roundw
            case rel => exact ⟨k + 1, by omega, by go_num, HR.out, HCk.out⟩
            case measure => simp [intOf]; omega
        case' mzz102 => skip
        exact AllReadyH.nil
      case true =>
        rw [hcl] at KC HCk
        clear hcl
        by_cases ht : h.txn = txn
        · exfalso
          have := HCk.out
          simp [ht] at this
        · have et : (h.txn == txn) = false := by simpa using ht
          rw [decide_eq_false ht] at HCk
          simp only [Bool.false_and, Bool.false_or] at HCk
          clear ht
          refine wp_region_held_drew (S := Q wr) (by kernel_rfl) ?szz103 (fun hHeld => ?rzz103)
          case szz103 =>
            exact (Q.refl wr).drew
          case' rzz103 => skip
          refine wpAnyH_take (i := 0) (oi := ?ozz104) (v := ?vzz104) ?hzz104 ?azz104 ?bzz104 ?czz104 ?qzz104 ?yzz104 ?szz104 ?rzz104
          case hzz104 => simp only [List.getElem?_toArray, List.getElem?_cons_zero]; rfl
          case azz104 => kernel_rfl
          case bzz104 => kernel_rfl
          case czz104 => kernel_rfl
          case yzz104 =>
            refine Or.inl ⟨by rfl, ?_⟩
            intro w hSw
            have zb0 := box_ hSw b0; have zb1 := box_ hSw b1; have zx0 := box_ hSw x0; have zx1 := box_ hSw x1; have zx2 := box_ hSw x2; have zy0 := box_ hSw y0; have zy1 := box_ hSw y1; have zy2 := box_ hSw y2; have zy3 := box_ hSw y3; clear hSw
            go_simp
            try with_reducible rfl
          case qzz104 => exact fun _ _ _ h => h
          case szz104 => first | assumption | trivial
          case' rzz104 => simp only [Act.put, List.setIfInBounds_toArray, List.set_cons_zero, List.set_cons_succ]
          refine wpAnyH_take (i := 1) (oi := ?ozz105) (v := ?vzz105) ?hzz105 ?azz105 ?bzz105 ?czz105 ?qzz105 ?yzz105 ?szz105 ?rzz105
          case hzz105 => simp only [List.getElem?_toArray, List.getElem?_cons_zero, List.getElem?_cons_succ]; rfl
          case azz105 => kernel_rfl
          case bzz105 => kernel_rfl
          case czz105 => kernel_rfl
          case yzz105 =>
            refine Or.inl ⟨by rfl, ?_⟩
            intro w hSw
            have zb0 := box_ hSw b0; have zb1 := box_ hSw b1; have zx0 := box_ hSw x0; have zx1 := box_ hSw x1; have zx2 := box_ hSw x2; have zy0 := box_ hSw y0; have zy1 := box_ hSw y1; have zy2 := box_ hSw y2; have zy3 := box_ hSw y3; clear hSw
            go_simp
            try with_reducible rfl
          case qzz105 => exact fun _ _ _ h => h
          case szz105 => first | assumption | trivial
          case' rzz105 => simp only [Act.put, List.setIfInBounds_toArray, List.set_cons_zero, List.set_cons_succ]
          refine wpAnyH_take (i := 2) (oi := ?ozz106) (v := ?vzz106) ?hzz106 ?azz106 ?bzz106 ?czz106 ?qzz106 ?yzz106 ?szz106 ?rzz106
          case hzz106 => simp only [List.getElem?_toArray, List.getElem?_cons_zero, List.getElem?_cons_succ]; rfl
          case azz106 => kernel_rfl
          case bzz106 => kernel_rfl
          case czz106 => kernel_rfl
          case yzz106 =>
            refine Or.inl ⟨by rfl, ?_⟩
            intro w hSw
            have zb0 := box_ hSw b0; have zb1 := box_ hSw b1; have zx0 := box_ hSw x0; have zx1 := box_ hSw x1; have zx2 := box_ hSw x2; have zy0 := box_ hSw y0; have zy1 := box_ hSw y1; have zy2 := box_ hSw y2; have zy3 := box_ hSw y3; clear hSw
            go_simp
            try with_reducible rfl
          case qzz106 => exact fun _ _ _ h => h
          case szz106 => first | assumption | trivial
          case' rzz106 => simp only [Act.put, List.setIfInBounds_toArray, List.set_cons_zero, List.set_cons_succ]
          refine wpAnyH_take (i := 3) (oi := ?ozz107) (v := ?vzz107) ?hzz107 ?azz107 ?bzz107 ?czz107 ?qzz107 ?yzz107 ?szz107 ?rzz107
          case hzz107 => simp only [List.getElem?_toArray, List.getElem?_cons_zero, List.getElem?_cons_succ]; rfl
          case azz107 => kernel_rfl
          case bzz107 => kernel_rfl
          case czz107 => kernel_rfl
          case yzz107 =>
            refine Or.inl ⟨by rfl, ?_⟩
            intro w hSw
            have zb0 := box_ hSw b0; have zb1 := box_ hSw b1; have zx0 := box_ hSw x0; have zx1 := box_ hSw x1; have zx2 := box_ hSw x2; have zy0 := box_ hSw y0; have zy1 := box_ hSw y1; have zy2 := box_ hSw y2; have zy3 := box_ hSw y3; clear hSw
            go_simp
            try with_reducible rfl
          case qzz107 => exact fun _ _ _ h => h
          case szz107 => first | assumption | trivial
          case' rzz107 => simp only [Act.put, List.setIfInBounds_toArray, List.set_cons_zero, List.set_cons_succ]
          refine wpAnyH_take (i := 4) (oi := ?ozz108) (v := ?vzz108) ?hzz108 ?azz108 ?bzz108 ?czz108 ?qzz108 ?yzz108 ?szz108 ?rzz108
          case hzz108 => simp only [List.getElem?_toArray, List.getElem?_cons_zero, List.getElem?_cons_succ]; rfl
          case azz108 => kernel_rfl
          case bzz108 => kernel_rfl
          case czz108 => kernel_rfl
          case yzz108 =>
            refine Or.inl ⟨by rfl, ?_⟩
            intro w hSw
            have zb0 := box_ hSw b0; have zb1 := box_ hSw b1; have zx0 := box_ hSw x0; have zx1 := box_ hSw x1; have zx2 := box_ hSw x2; have zy0 := box_ hSw y0; have zy1 := box_ hSw y1; have zy2 := box_ hSw y2; have zy3 := box_ hSw y3; clear hSw
            go_simp
            try with_reducible rfl
          case qzz108 => exact fun _ _ _ h => h
          case szz108 => first | assumption | trivial
          case' rzz108 => simp only [Act.put, List.setIfInBounds_toArray, List.set_cons_zero, List.set_cons_succ]
          refine wpAnyH_take (i := 5) (oi := ?ozz109) (v := ?vzz109) ?hzz109 ?azz109 ?bzz109 ?czz109 ?qzz109 ?yzz109 ?szz109 ?rzz109
          case hzz109 => simp only [List.getElem?_toArray, List.getElem?_cons_zero, List.getElem?_cons_succ]; rfl
          case azz109 => kernel_rfl
          case bzz109 => kernel_rfl
          case czz109 => kernel_rfl
          case yzz109 =>
            refine Or.inl ⟨by rfl, ?_⟩
            intro w hSw
            have zb0 := box_ hSw b0; have zb1 := box_ hSw b1; have zx0 := box_ hSw x0; have zx1 := box_ hSw x1; have zx2 := box_ hSw x2; have zy0 := box_ hSw y0; have zy1 := box_ hSw y1; have zy2 := box_ hSw y2; have zy3 := box_ hSw y3; clear hSw
            go_simp
            try with_reducible rfl
          case qzz109 => exact fun _ _ _ h => h
          case szz109 => first | assumption | trivial
          case' rzz109 => simp only [Act.put, List.setIfInBounds_toArray, List.set_cons_zero, List.set_cons_succ]
          refine wpAnyH_take (i := 6) (oi := ?ozz110) (v := ?vzz110) ?hzz110 ?azz110 ?bzz110 ?czz110 ?qzz110 ?yzz110 ?szz110 ?rzz110
          case hzz110 => simp only [List.getElem?_toArray, List.getElem?_cons_zero, List.getElem?_cons_succ]; rfl
          case azz110 => kernel_rfl
          case bzz110 => kernel_rfl
          case czz110 => kernel_rfl
          case yzz110 =>
            refine Or.inl ⟨by rfl, ?_⟩
            intro w hSw
            have zb0 := box_ hSw b0; have zb1 := box_ hSw b1; have zx0 := box_ hSw x0; have zx1 := box_ hSw x1; have zx2 := box_ hSw x2; have zy0 := box_ hSw y0; have zy1 := box_ hSw y1; have zy2 := box_ hSw y2; have zy3 := box_ hSw y3; clear hSw
            go_simp
            try with_reducible rfl
          case qzz110 => exact fun _ _ _ h => h
          case szz110 => first | assumption | trivial
          case' rzz110 => simp only [Act.put, List.setIfInBounds_toArray, List.set_cons_zero, List.set_cons_succ]
          refine wpAnyH_ready (rs := [7]) (by kernel_rfl) (by simp) ?_
          refine AllReadyH.cons (o := ?ozz112) ?hzz112 (fun K hK => ?kzz112) ?mzz112
          case hzz112 => simp only [List.getElem?_toArray, List.getElem?_cons_zero, List.getElem?_cons_succ]; rfl
          case kzz112 =>
            go_simp
            refine (KC.out _).mono ?_
            rintro e w2 ⟨rfl, q2⟩
            go_wp2_with fail
            refine hK.out _ _ ?Szz112 (fun hHeld => ?Rzz112)
            case Szz112 =>
              exact hHeld.trans q2
            case Rzz112 =>
              clear hK K
              try simp only [Act.put, List.setIfInBounds_toArray, List.set_cons_zero, List.set_cons_succ]
              refine wpAnyH_take (i := 8) (oi := ?ozz111) (v := ?vzz111) ?hzz111 ?azz111 ?bzz111 ?czz111 ?qzz111 ?yzz111 ?szz111 ?rzz111
              case hzz111 => simp only [List.getElem?_toArray, List.getElem?_cons_zero, List.getElem?_cons_succ]; rfl
              case azz111 => kernel_rfl
              case bzz111 => kernel_rfl
              case czz111 => kernel_rfl
              case yzz111 =>
                refine Or.inl ⟨by rfl, ?_⟩
                intro w hSw
                have zb0 := box_ hSw b0; have zb1 := box_ hSw b1; have zx0 := box_ hSw x0; have zx1 := box_ hSw x1; have zx2 := box_ hSw x2; have zy0 := box_ hSw y0; have zy1 := box_ hSw y1; have zy2 := box_ hSw y2; have zy3 := box_ hSw y3; clear hSw
                go_simp
                try with_reducible rfl
              case qzz111 => exact fun _ _ _ h => h
              case szz111 => first | assumption | trivial
              case' rzz111 => simp only [Act.put, List.setIfInBounds_toArray, List.set_cons_zero, List.set_cons_succ]
              refine wpAnyH_done (by kernel_rfl) ?_ _
              have HQ2 := Lib.hid hHeld
              have HR2 := Lib.hid (HR.out.step hHeld)
              have y0 := box_ HQ2.out y0
              have y1 := box_ HQ2.out y1
              have y2 := box_ HQ2.out y2
              have y3 := box_ HQ2.out y3
              clear b0 b1 f0 f1 r0 r1 g0 g1 x0 x1 x2 HR
              have HR := HR2
              obtain ⟨⟨b0, b1⟩, f0, f1⟩ := HR.out.b1.get2
              obtain ⟨⟨r0, r1⟩, g0, g1⟩ := HR.out.b3.get2
              obtain ⟨⟨x0, x1, x2⟩, _⟩ := HR.out.b2.get3
              go_wp2
              go_roundw
              case rel => exact ⟨k + 1, by omega, by go_num, HR.out, HCk.out⟩
              case measure => simp [intOf]; omega
          case' mzz112 => skip
          exact AllReadyH.nil
    · go_wp2_with fail
      refine (KB.out _ (HA.out.lst.q HR.out.q) (HB.out.lst.q HR.out.q)).mono ?_
      rintro e v2 ⟨A2, c2, rfl, o2, q2⟩
      have HR := Lib.hid (HR.out.step q2)
      clear q2 b0 b1 f0 f1 r0 r1 g0 g1 x0 x1 x2
      obtain ⟨⟨b0, b1⟩, f0, f1⟩ := HR.out.b1.get2
      obtain ⟨⟨r0, r1⟩, g0, g1⟩ := HR.out.b3.get2
      obtain ⟨⟨x0, x1, x2⟩, _⟩ := HR.out.b2.get3
      clear o2
      go_wp2
      have HBs := Lib.hid (Nat.le_refl v2.heap.size)
      refine wp_region_heldL 11 (Below (v2.heap.size) v2) (by kernel_rfl) ?szz113 (fun hHeld => ?rzz113)
      case szz113 =>
        exact Below.drew (Below.refl _ _)
      case' rzz113 => skip
      generalize hgen : v2.drew = D0 at hHeld ⊢
      clear hgen
      refine wpAnyL_take (i := 1) (oi := ?ozz114) (v := ?vzz114) ?hzz114 ?azz114 ?bzz114 ?czz114 ?kzz114 ?qzz114 ?yzz114 ?szz114 ?rzz114
      case hzz114 => simp only [List.getElem?_toArray, List.getElem?_cons_zero, List.getElem?_cons_succ]; rfl
      case azz114 => kernel_rfl
      case bzz114 => kernel_rfl
      case czz114 => kernel_rfl
      case kzz114 => kernel_rfl
      case yzz114 =>
        refine Or.inl ⟨by rfl, ?_⟩
        intro w hSw
        have zb0 := box_ hSw b0; have zb1 := box_ hSw b1; have zx0 := box_ hSw x0; have zx1 := box_ hSw x1; have zx2 := box_ hSw x2; clear hSw
        go_simp
        try with_reducible rfl
      case qzz114 => exact fun _ _ _ h => h
      case szz114 => first | assumption | trivial
      case' rzz114 => simp only [Act.put, List.setIfInBounds_toArray, List.set_cons_zero, List.set_cons_succ]
      refine wpAnyL_take (i := 2) (oi := ?ozz115) (v := ?vzz115) ?hzz115 ?azz115 ?bzz115 ?czz115 ?kzz115 ?qzz115 ?yzz115 ?szz115 ?rzz115
      case hzz115 => simp only [List.getElem?_toArray, List.getElem?_cons_zero, List.getElem?_cons_succ]; rfl
      case azz115 => kernel_rfl
      case bzz115 => kernel_rfl
      case czz115 => kernel_rfl
      case kzz115 => kernel_rfl
      case yzz115 =>
        refine Or.inl ⟨by rfl, ?_⟩
        intro w hSw
        have zb0 := box_ hSw b0; have zb1 := box_ hSw b1; have zx0 := box_ hSw x0; have zx1 := box_ hSw x1; have zx2 := box_ hSw x2; clear hSw
        go_simp
        try with_reducible rfl
      case qzz115 => exact fun _ _ _ h => h
      case szz115 => first | assumption | trivial
      case' rzz115 => simp only [Act.put, List.setIfInBounds_toArray, List.set_cons_zero, List.set_cons_succ]
      refine wpAnyL_take (i := 4) (oi := ?ozz116) (v := ?vzz116) ?hzz116 ?azz116 ?bzz116 ?czz116 ?kzz116 ?qzz116 ?yzz116 ?szz116 ?rzz116
      case hzz116 => simp only [List.getElem?_toArray, List.getElem?_cons_zero, List.getElem?_cons_succ]; rfl
      case azz116 => kernel_rfl
      case bzz116 => kernel_rfl
      case czz116 => kernel_rfl
      case kzz116 => kernel_rfl
      case yzz116 =>
        refine Or.inl ⟨by rfl, ?_⟩
        intro w hSw
        have zb0 := box_ hSw b0; have zb1 := box_ hSw b1; have zx0 := box_ hSw x0; have zx1 := box_ hSw x1; have zx2 := box_ hSw x2; clear hSw
        go_simp
        try with_reducible rfl
      case qzz116 => exact fun _ _ _ h => h
      case szz116 => first | assumption | trivial
      case' rzz116 => simp only [Act.put, List.setIfInBounds_toArray, List.set_cons_zero, List.set_cons_succ]
      refine wpAnyL_take (i := 5) (oi := ?ozz117) (v := ?vzz117) ?hzz117 ?azz117 ?bzz117 ?czz117 ?kzz117 ?qzz117 ?yzz117 ?szz117 ?rzz117
      case hzz117 => simp only [List.getElem?_toArray, List.getElem?_cons_zero, List.getElem?_cons_succ]; rfl
      case azz117 => kernel_rfl
      case bzz117 => kernel_rfl
      case czz117 => kernel_rfl
      case kzz117 => kernel_rfl
      case yzz117 =>
        refine Or.inl ⟨by rfl, ?_⟩
        intro w hSw
        have zb0 := box_ hSw b0; have zb1 := box_ hSw b1; have zx0 := box_ hSw x0; have zx1 := box_ hSw x1; have zx2 := box_ hSw x2; clear hSw
        go_simp
        try with_reducible rfl
      case qzz117 => exact fun _ _ _ h => h
      case szz117 => first | assumption | trivial
      case' rzz117 => simp only [Act.put, List.setIfInBounds_toArray, List.set_cons_zero, List.set_cons_succ]
      refine wpAnyL_take (i := 6) (oi := ?ozz118) (v := ?vzz118) ?hzz118 ?azz118 ?bzz118 ?czz118 ?kzz118 ?qzz118 ?yzz118 ?szz118 ?rzz118
      case hzz118 => simp only [List.getElem?_toArray, List.getElem?_cons_zero, List.getElem?_cons_succ]; rfl
      case azz118 => kernel_rfl
      case bzz118 => kernel_rfl
      case czz118 => kernel_rfl
      case kzz118 => kernel_rfl
      case yzz118 =>
        refine Or.inl ⟨by rfl, ?_⟩
        intro w hSw
        have zb0 := box_ hSw b0; have zb1 := box_ hSw b1; have zx0 := box_ hSw x0; have zx1 := box_ hSw x1; have zx2 := box_ hSw x2; clear hSw
        go_simp
        try with_reducible rfl
      case qzz118 => exact fun _ _ _ h => h
      case szz118 => first | assumption | trivial
      case' rzz118 => simp only [Act.put, List.setIfInBounds_toArray, List.set_cons_zero, List.set_cons_succ]
      refine wpAnyL_take (i := 7) (oi := ?ozz119) (v := ?vzz119) ?hzz119 ?azz119 ?bzz119 ?czz119 ?kzz119 ?qzz119 ?yzz119 ?szz119 ?rzz119
      case hzz119 => simp only [List.getElem?_toArray, List.getElem?_cons_zero, List.getElem?_cons_succ]; rfl
      case azz119 => kernel_rfl
      case bzz119 => kernel_rfl
      case czz119 => kernel_rfl
      case kzz119 => kernel_rfl
      case yzz119 =>
        refine Or.inl ⟨by rfl, ?_⟩
        intro w hSw
        have zb0 := box_ hSw b0; have zb1 := box_ hSw b1; have zx0 := box_ hSw x0; have zx1 := box_ hSw x1; have zx2 := box_ hSw x2; clear hSw
        go_simp
        try with_reducible rfl
      case qzz119 => exact fun _ _ _ h => h
      case szz119 => first | assumption | trivial
      case' rzz119 => simp only [Act.put, List.setIfInBounds_toArray, List.set_cons_zero, List.set_cons_succ]
      refine wpAnyL_ready (rs := [0, 8]) (by kernel_rfl) (by simp) ?_
      refine AllReadyL.cons (o := ?ozz135) ?hzz135 (fun K hK => ?kzz135) ?mzz135
      case hzz135 => simp only [List.getElem?_toArray, List.getElem?_cons_zero]; rfl
      case kzz135 =>
        go_simp
        have OE := Lib.hid (OwnK.lit0 claimK D0 (v2.heap.size) (Nat.le_trans HBs.out hHeld.size))
        have qa := below_al hHeld HBs.out (.cells #[] 45)
        have OE0 := Lib.hid (show D0.heap.size < (D0.alloc (.cells #[] 45)).heap.size by simp)
        have OE : Hid (OwnK claimK (D0.alloc (.cells #[] 45)) (v2.heap.size) (some ⟨D0.heap.size, 0, none⟩) 0 0 []) := OE
        generalize D0.alloc (.cells #[] 45) = Y0 at OE OE0 qa ⊢
        generalize D0.heap.size = ne at OE OE0 ⊢
        refine hK.out _ _ ?Szz135 (fun hHeld => ?Rzz135)
        case Szz135 =>
          exact qa
        case Rzz135 =>
          clear hK K
          try simp only [Act.put, List.setIfInBounds_toArray, List.set_cons_zero, List.set_cons_succ]
          refine wpAnyL_ready (rs := [3, 8]) (by kernel_rfl) (by simp) ?_
          refine AllReadyL.cons (o := ?ozz128) ?hzz128 (fun K hK => ?kzz128) ?mzz128
          case hzz128 => simp only [List.getElem?_toArray, List.getElem?_cons_zero, List.getElem?_cons_succ]; rfl
          case kzz128 =>
            refine step_appKM claimK (by rfl) _ _ _ rfl (by rfl) (v2.heap.size) _ 0 0 [] (by rfl) OE.out B m d (l.queue) (by rfl) (HB.out.lst.q (HR.out.q.trans hHeld)) (HB.out.nil) m (by omega) (l.queue) (by simp) NF0.out (Nat.le_trans HBs.out hHeld.size) ?_
            intro A6 c6 w61 o6 b6 g6
            have q6 := hHeld.trans b6
            have O6 := Lib.hid o6
            clear o6 g6
            refine hK.out _ _ ?Szz128 (fun hHeld => ?Rzz128)
            case Szz128 =>
              exact q6
            case Rzz128 =>
              clear hK K
              try simp only [Act.put, List.setIfInBounds_toArray, List.set_cons_zero, List.set_cons_succ]
              refine wpAnyL_ready (rs := [8]) (by kernel_rfl) (by simp) ?_
              refine AllReadyL.cons (o := ?ozz123) ?hzz123 (fun K hK => ?kzz123) ?mzz123
              case hzz123 => simp only [List.getElem?_toArray, List.getElem?_cons_zero, List.getElem?_cons_succ]; rfl
              case kzz123 =>
                go_simp
                have OB : Hid (OwnK claimK (w61.alloc (.cells #[.int .i64 txn, .int .i64 x.mode, .string x.lo, .string x.hi, .int .u64 (til : Int)] 45)) (v2.heap.size) (some ⟨w61.heap.size, 0, none⟩) 1 1 [⟨txn, x, til⟩]) := Lib.hid (OwnK.lit1 claimK w61 (v2.heap.size) (Nat.le_trans HBs.out hHeld.size) ⟨txn, x, til⟩)
                have OB0 := Lib.hid (show w61.heap.size < (w61.alloc (.cells #[.int .i64 txn, .int .i64 x.mode, .string x.lo, .string x.hi, .int .u64 (til : Int)] 45)).heap.size by simp)
                have qa := below_al hHeld HBs.out (.cells #[.int .i64 txn, .int .i64 x.mode, .string x.lo, .string x.hi, .int .u64 (til : Int)] 45)
                have O6 := Lib.hid (O6.out.alloc (.cells #[.int .i64 txn, .int .i64 x.mode, .string x.lo, .string x.hi, .int .u64 (til : Int)] 45))
                generalize w61.alloc (.cells #[.int .i64 txn, .int .i64 x.mode, .string x.lo, .string x.hi, .int .u64 (til : Int)] 45) = Y2 at OB OB0 qa O6 ⊢
                generalize w61.heap.size = nb at OB OB0 ⊢
                refine hK.out _ _ ?Szz123 (fun hHeld => ?Rzz123)
                case Szz123 =>
                  exact qa
                case Rzz123 =>
                  clear hK K
                  try simp only [Act.put, List.setIfInBounds_toArray, List.set_cons_zero, List.set_cons_succ]
                  refine wpAnyL_ready (rs := [9]) (by kernel_rfl) (by simp) ?_
                  refine AllReadyL.cons (o := ?ozz122) ?hzz122 (fun K hK => ?kzz122) ?mzz122
                  case hzz122 => simp only [List.getElem?_toArray, List.getElem?_cons_zero, List.getElem?_cons_succ]; rfl
                  case kzz122 =>
                    refine step_appKM claimK (by rfl) _ _ _ rfl (by rfl) (v2.heap.size) A6 m c6 (l.queue) (by rfl) O6.out _ 1 1 [⟨txn, x, til⟩] (by rfl) OB.out.lst (fun e => by cases e) (m + 1) rfl (l.queue ++ [⟨txn, x, til⟩]) rfl NF1.out (Nat.le_trans HBs.out hHeld.size) ?_
                    intro A7 c7 w73 o7 b7 g7
                    have q7 := hHeld.trans b7
                    refine hK.out _ _ ?Szz122 (fun hHeld => ?Rzz122)
                    case Szz122 =>
                      exact q7
                    case Rzz122 =>
                      clear hK K
                      try simp only [Act.put, List.setIfInBounds_toArray, List.set_cons_zero, List.set_cons_succ]
                      refine wpAnyL_take (i := 10) (oi := ?ozz120) (v := ?vzz120) ?hzz120 ?azz120 ?bzz120 ?czz120 ?kzz120 ?qzz120 ?yzz120 ?szz120 ?rzz120
                      case hzz120 => simp only [List.getElem?_toArray, List.getElem?_cons_zero, List.getElem?_cons_succ]; rfl
                      case azz120 => kernel_rfl
                      case bzz120 => kernel_rfl
                      case czz120 => kernel_rfl
                      case kzz120 => kernel_rfl
                      case yzz120 =>
                        refine Or.inl ⟨by rfl, ?_⟩
                        intro w hSw
                        have zb0 := box_ hSw b0; have zb1 := box_ hSw b1; have zx0 := box_ hSw x0; have zx1 := box_ hSw x1; have zx2 := box_ hSw x2; clear hSw
                        go_simp
                        try with_reducible rfl
                      case qzz120 => exact fun _ _ _ h => h
                      case szz120 => first | assumption | trivial
                      case' rzz120 => simp only [Act.put, List.setIfInBounds_toArray, List.set_cons_zero, List.set_cons_succ]
                      refine wpAnyL_ready (rs := [11]) (by kernel_rfl) (by simp) ?_
                      refine AllReadyL.consK (o := ?ozz121) ?hzz121 ?lzz121 (fun K hK => ?kzz121) ?mzz121
                      case hzz121 => simp only [List.getElem?_toArray, List.getElem?_cons_zero, List.getElem?_cons_succ]; rfl
                      case lzz121 => kernel_rfl
                      case kzz121 =>
                        have HZ := Lib.hid hHeld
                        obtain ⟨⟨p0, p1⟩, p2, p3⟩ := (HR.out.step hHeld).b1.get2
                        go_simp
                        refine hK.out _ _ ?Rzz121
                        case Rzz121 =>
                          clear hK K
                          try simp only [Act.put, List.setIfInBounds_toArray, List.set_cons_zero, List.set_cons_succ]
                          refine wpAnyH_done (by kernel_rfl) ?_ _
                          clear b0 b1 f0 f1 r0 r1 g0 g1 x0 x1 x2 p0 p1 p2 p3
                          have HR7 := Lib.hid (HR.out.step HZ.out)
                          obtain ⟨⟨b0, b1⟩, f0, f1⟩ := HR7.out.b1.get2
                          obtain ⟨⟨r0, r1⟩, g0, g1⟩ := HR7.out.b3.get2
                          go_wp2
                          refine bodyPost_ret (v := .tuple #[locV A n c A7 (m + 1) c7, .int .i64 12]) (by simp [results, Try.results21, go_sem, r0, r1, g0, g1]) rfl ?_
                          exact HR.out.finC HZ.out o7 HA.out (by omega) 12 _ _ _
                      case' mzz121 => skip
                      exact AllReadyL.nil
                  case' mzz122 => skip
                  exact AllReadyL.nil
              case' mzz123 => skip
              exact AllReadyL.nil
          case' mzz128 => skip
          refine AllReadyL.cons (o := ?ozz129) ?hzz129 (fun K hK => ?kzz129) ?mzz129
          case hzz129 => simp only [List.getElem?_toArray, List.getElem?_cons_zero, List.getElem?_cons_succ]; rfl
          case kzz129 =>
            go_simp
            have OB : Hid (OwnK claimK (Y0.alloc (.cells #[.int .i64 txn, .int .i64 x.mode, .string x.lo, .string x.hi, .int .u64 (til : Int)] 45)) (v2.heap.size) (some ⟨Y0.heap.size, 0, none⟩) 1 1 [⟨txn, x, til⟩]) := Lib.hid (OwnK.lit1 claimK Y0 (v2.heap.size) (Nat.le_trans HBs.out hHeld.size) ⟨txn, x, til⟩)
            have OB0 := Lib.hid (show Y0.heap.size < (Y0.alloc (.cells #[.int .i64 txn, .int .i64 x.mode, .string x.lo, .string x.hi, .int .u64 (til : Int)] 45)).heap.size by simp)
            have qa := below_al hHeld HBs.out (.cells #[.int .i64 txn, .int .i64 x.mode, .string x.lo, .string x.hi, .int .u64 (til : Int)] 45)
            have OE := Lib.hid (OE.out.alloc (.cells #[.int .i64 txn, .int .i64 x.mode, .string x.lo, .string x.hi, .int .u64 (til : Int)] 45))
            have hne : ne ≠ Y0.heap.size := by have := OE0.out; omega
            generalize Y0.alloc (.cells #[.int .i64 txn, .int .i64 x.mode, .string x.lo, .string x.hi, .int .u64 (til : Int)] 45) = Y4 at OB OB0 qa OE ⊢
            generalize Y0.heap.size = nb at OB OB0 hne ⊢
            refine hK.out _ _ ?Szz129 (fun hHeld => ?Rzz129)
            case Szz129 =>
              exact qa
            case Rzz129 =>
              clear hK K
              try simp only [Act.put, List.setIfInBounds_toArray, List.set_cons_zero, List.set_cons_succ]
              refine wpAnyL_ready (rs := [3]) (by kernel_rfl) (by simp) ?_
              refine AllReadyL.cons (o := ?ozz127) ?hzz127 (fun K hK => ?kzz127) ?mzz127
              case hzz127 => simp only [List.getElem?_toArray, List.getElem?_cons_zero, List.getElem?_cons_succ]; rfl
              case kzz127 =>
                refine step_appKM claimK (by rfl) _ _ _ rfl (by rfl) (v2.heap.size) _ 0 0 [] (by rfl) OE.out B m d (l.queue) (by rfl) (HB.out.lst.q (HR.out.q.trans hHeld)) (HB.out.nil) m (by omega) (l.queue) (by simp) NF0.out (Nat.le_trans HBs.out hHeld.size) ?_
                intro A6 c6 w65 o6 b6 g6
                have q6 := hHeld.trans b6
                have O6 := Lib.hid o6
                have OB := Lib.hid (OwnK.away OB.out g6 (by intro a b e1 e2; injection e1 with e1; injection e2 with e2; subst e1 e2; exact hne) (fun _ => trivial))
                clear o6 g6
                refine hK.out _ _ ?Szz127 (fun hHeld => ?Rzz127)
                case Szz127 =>
                  exact q6
                case Rzz127 =>
                  clear hK K
                  try simp only [Act.put, List.setIfInBounds_toArray, List.set_cons_zero, List.set_cons_succ]
                  refine wpAnyL_ready (rs := [9]) (by kernel_rfl) (by simp) ?_
                  refine AllReadyL.cons (o := ?ozz126) ?hzz126 (fun K hK => ?kzz126) ?mzz126
                  case hzz126 => simp only [List.getElem?_toArray, List.getElem?_cons_zero, List.getElem?_cons_succ]; rfl
                  case kzz126 =>
                    refine step_appKM claimK (by rfl) _ _ _ rfl (by rfl) (v2.heap.size) A6 m c6 (l.queue) (by rfl) O6.out _ 1 1 [⟨txn, x, til⟩] (by rfl) OB.out.lst (fun e => by cases e) (m + 1) rfl (l.queue ++ [⟨txn, x, til⟩]) rfl NF1.out (Nat.le_trans HBs.out hHeld.size) ?_
                    intro A7 c7 w76 o7 b7 g7
                    have q7 := hHeld.trans b7
                    refine hK.out _ _ ?Szz126 (fun hHeld => ?Rzz126)
                    case Szz126 =>
                      exact q7
                    case Rzz126 =>
                      clear hK K
                      try simp only [Act.put, List.setIfInBounds_toArray, List.set_cons_zero, List.set_cons_succ]
                      refine wpAnyL_take (i := 10) (oi := ?ozz124) (v := ?vzz124) ?hzz124 ?azz124 ?bzz124 ?czz124 ?kzz124 ?qzz124 ?yzz124 ?szz124 ?rzz124
                      case hzz124 => simp only [List.getElem?_toArray, List.getElem?_cons_zero, List.getElem?_cons_succ]; rfl
                      case azz124 => kernel_rfl
                      case bzz124 => kernel_rfl
                      case czz124 => kernel_rfl
                      case kzz124 => kernel_rfl
                      case yzz124 =>
                        refine Or.inl ⟨by rfl, ?_⟩
                        intro w hSw
                        have zb0 := box_ hSw b0; have zb1 := box_ hSw b1; have zx0 := box_ hSw x0; have zx1 := box_ hSw x1; have zx2 := box_ hSw x2; clear hSw
                        go_simp
                        try with_reducible rfl
                      case qzz124 => exact fun _ _ _ h => h
                      case szz124 => first | assumption | trivial
                      case' rzz124 => simp only [Act.put, List.setIfInBounds_toArray, List.set_cons_zero, List.set_cons_succ]
                      refine wpAnyL_ready (rs := [11]) (by kernel_rfl) (by simp) ?_
                      refine AllReadyL.consK (o := ?ozz125) ?hzz125 ?lzz125 (fun K hK => ?kzz125) ?mzz125
                      case hzz125 => simp only [List.getElem?_toArray, List.getElem?_cons_zero, List.getElem?_cons_succ]; rfl
                      case lzz125 => kernel_rfl
                      case kzz125 =>
                        have HZ := Lib.hid hHeld
                        obtain ⟨⟨p0, p1⟩, p2, p3⟩ := (HR.out.step hHeld).b1.get2
                        go_simp
                        refine hK.out _ _ ?Rzz125
                        case Rzz125 =>
                          clear hK K
                          try simp only [Act.put, List.setIfInBounds_toArray, List.set_cons_zero, List.set_cons_succ]
                          refine wpAnyH_done (by kernel_rfl) ?_ _
                          clear b0 b1 f0 f1 r0 r1 g0 g1 x0 x1 x2 p0 p1 p2 p3
                          have HR7 := Lib.hid (HR.out.step HZ.out)
                          obtain ⟨⟨b0, b1⟩, f0, f1⟩ := HR7.out.b1.get2
                          obtain ⟨⟨r0, r1⟩, g0, g1⟩ := HR7.out.b3.get2
                          go_wp2
                          refine bodyPost_ret (v := .tuple #[locV A n c A7 (m + 1) c7, .int .i64 12]) (by simp [results, Try.results21, go_sem, r0, r1, g0, g1]) rfl ?_
                          exact HR.out.finC HZ.out o7 HA.out (by omega) 12 _ _ _
                      case' mzz125 => skip
                      exact AllReadyL.nil
                  case' mzz126 => skip
                  exact AllReadyL.nil
              case' mzz127 => skip
              exact AllReadyL.nil
          case' mzz129 => skip
          exact AllReadyL.nil
      case' mzz135 => skip
      refine AllReadyL.cons (o := ?ozz136) ?hzz136 (fun K hK => ?kzz136) ?mzz136
      case hzz136 => simp only [List.getElem?_toArray, List.getElem?_cons_zero, List.getElem?_cons_succ]; rfl
      case kzz136 =>
        go_simp
        have OB : Hid (OwnK claimK (D0.alloc (.cells #[.int .i64 txn, .int .i64 x.mode, .string x.lo, .string x.hi, .int .u64 (til : Int)] 45)) (v2.heap.size) (some ⟨D0.heap.size, 0, none⟩) 1 1 [⟨txn, x, til⟩]) := Lib.hid (OwnK.lit1 claimK D0 (v2.heap.size) (Nat.le_trans HBs.out hHeld.size) ⟨txn, x, til⟩)
        have OB0 := Lib.hid (show D0.heap.size < (D0.alloc (.cells #[.int .i64 txn, .int .i64 x.mode, .string x.lo, .string x.hi, .int .u64 (til : Int)] 45)).heap.size by simp)
        have qa := below_al hHeld HBs.out (.cells #[.int .i64 txn, .int .i64 x.mode, .string x.lo, .string x.hi, .int .u64 (til : Int)] 45)
        generalize D0.alloc (.cells #[.int .i64 txn, .int .i64 x.mode, .string x.lo, .string x.hi, .int .u64 (til : Int)] 45) = Y7 at OB OB0 qa ⊢
        generalize D0.heap.size = nb at OB OB0 ⊢
        refine hK.out _ _ ?Szz136 (fun hHeld => ?Rzz136)
        case Szz136 =>
          exact qa
        case Rzz136 =>
          clear hK K
          try simp only [Act.put, List.setIfInBounds_toArray, List.set_cons_zero, List.set_cons_succ]
          refine wpAnyL_ready (rs := [0]) (by kernel_rfl) (by simp) ?_
          refine AllReadyL.cons (o := ?ozz134) ?hzz134 (fun K hK => ?kzz134) ?mzz134
          case hzz134 => simp only [List.getElem?_toArray, List.getElem?_cons_zero]; rfl
          case kzz134 =>
            go_simp
            have OE := Lib.hid (OwnK.lit0 claimK Y7 (v2.heap.size) (Nat.le_trans HBs.out hHeld.size))
            have qa := below_al hHeld HBs.out (.cells #[] 45)
            have OB := Lib.hid (OB.out.alloc (.cells #[] 45))
            have hne : Y7.heap.size ≠ nb := by have := OB0.out; omega
            have OE0 := Lib.hid (show Y7.heap.size < (Y7.alloc (.cells #[] 45)).heap.size by simp)
            have OE : Hid (OwnK claimK (Y7.alloc (.cells #[] 45)) (v2.heap.size) (some ⟨Y7.heap.size, 0, none⟩) 0 0 []) := OE
            generalize Y7.alloc (.cells #[] 45) = Y8 at OE OE0 qa OB ⊢
            generalize Y7.heap.size = ne at OE OE0 hne ⊢
            refine hK.out _ _ ?Szz134 (fun hHeld => ?Rzz134)
            case Szz134 =>
              exact qa
            case Rzz134 =>
              clear hK K
              try simp only [Act.put, List.setIfInBounds_toArray, List.set_cons_zero, List.set_cons_succ]
              refine wpAnyL_ready (rs := [3]) (by kernel_rfl) (by simp) ?_
              refine AllReadyL.cons (o := ?ozz133) ?hzz133 (fun K hK => ?kzz133) ?mzz133
              case hzz133 => simp only [List.getElem?_toArray, List.getElem?_cons_zero, List.getElem?_cons_succ]; rfl
              case kzz133 =>
                refine step_appKM claimK (by rfl) _ _ _ rfl (by rfl) (v2.heap.size) _ 0 0 [] (by rfl) OE.out B m d (l.queue) (by rfl) (HB.out.lst.q (HR.out.q.trans hHeld)) (HB.out.nil) m (by omega) (l.queue) (by simp) NF0.out (Nat.le_trans HBs.out hHeld.size) ?_
                intro A6 c6 w69 o6 b6 g6
                have q6 := hHeld.trans b6
                have O6 := Lib.hid o6
                have OB := Lib.hid (OwnK.away OB.out g6 (by intro a b e1 e2; injection e1 with e1; injection e2 with e2; subst e1 e2; exact hne) (fun _ => trivial))
                clear o6 g6
                refine hK.out _ _ ?Szz133 (fun hHeld => ?Rzz133)
                case Szz133 =>
                  exact q6
                case Rzz133 =>
                  clear hK K
                  try simp only [Act.put, List.setIfInBounds_toArray, List.set_cons_zero, List.set_cons_succ]
                  refine wpAnyL_ready (rs := [9]) (by kernel_rfl) (by simp) ?_
                  refine AllReadyL.cons (o := ?ozz132) ?hzz132 (fun K hK => ?kzz132) ?mzz132
                  case hzz132 => simp only [List.getElem?_toArray, List.getElem?_cons_zero, List.getElem?_cons_succ]; rfl
                  case kzz132 =>
                    refine step_appKM claimK (by rfl) _ _ _ rfl (by rfl) (v2.heap.size) A6 m c6 (l.queue) (by rfl) O6.out _ 1 1 [⟨txn, x, til⟩] (by rfl) OB.out.lst (fun e => by cases e) (m + 1) rfl (l.queue ++ [⟨txn, x, til⟩]) rfl NF1.out (Nat.le_trans HBs.out hHeld.size) ?_
                    intro A7 c7 w710 o7 b7 g7
                    have q7 := hHeld.trans b7
                    refine hK.out _ _ ?Szz132 (fun hHeld => ?Rzz132)
                    case Szz132 =>
                      exact q7
                    case Rzz132 =>
                      clear hK K
                      try simp only [Act.put, List.setIfInBounds_toArray, List.set_cons_zero, List.set_cons_succ]
                      refine wpAnyL_take (i := 10) (oi := ?ozz130) (v := ?vzz130) ?hzz130 ?azz130 ?bzz130 ?czz130 ?kzz130 ?qzz130 ?yzz130 ?szz130 ?rzz130
                      case hzz130 => simp only [List.getElem?_toArray, List.getElem?_cons_zero, List.getElem?_cons_succ]; rfl
                      case azz130 => kernel_rfl
                      case bzz130 => kernel_rfl
                      case czz130 => kernel_rfl
                      case kzz130 => kernel_rfl
                      case yzz130 =>
                        refine Or.inl ⟨by rfl, ?_⟩
                        intro w hSw
                        have zb0 := box_ hSw b0; have zb1 := box_ hSw b1; have zx0 := box_ hSw x0; have zx1 := box_ hSw x1; have zx2 := box_ hSw x2; clear hSw
                        go_simp
                        try with_reducible rfl
                      case qzz130 => exact fun _ _ _ h => h
                      case szz130 => first | assumption | trivial
                      case' rzz130 => simp only [Act.put, List.setIfInBounds_toArray, List.set_cons_zero, List.set_cons_succ]
                      refine wpAnyL_ready (rs := [11]) (by kernel_rfl) (by simp) ?_
                      refine AllReadyL.consK (o := ?ozz131) ?hzz131 ?lzz131 (fun K hK => ?kzz131) ?mzz131
                      case hzz131 => simp only [List.getElem?_toArray, List.getElem?_cons_zero, List.getElem?_cons_succ]; rfl
                      case lzz131 => kernel_rfl
                      case kzz131 =>
                        have HZ := Lib.hid hHeld
                        obtain ⟨⟨p0, p1⟩, p2, p3⟩ := (HR.out.step hHeld).b1.get2
                        go_simp
                        refine hK.out _ _ ?Rzz131
                        case Rzz131 =>
                          clear hK K
                          try simp only [Act.put, List.setIfInBounds_toArray, List.set_cons_zero, List.set_cons_succ]
                          refine wpAnyH_done (by kernel_rfl) ?_ _
                          clear b0 b1 f0 f1 r0 r1 g0 g1 x0 x1 x2 p0 p1 p2 p3
                          have HR7 := Lib.hid (HR.out.step HZ.out)
                          obtain ⟨⟨b0, b1⟩, f0, f1⟩ := HR7.out.b1.get2
                          obtain ⟨⟨r0, r1⟩, g0, g1⟩ := HR7.out.b3.get2
                          go_wp2
                          refine bodyPost_ret (v := .tuple #[locV A n c A7 (m + 1) c7, .int .i64 12]) (by simp [results, Try.results21, go_sem, r0, r1, g0, g1]) rfl ?_
                          exact HR.out.finC HZ.out o7 HA.out (by omega) 12 _ _ _
                      case' mzz131 => skip
                      exact AllReadyL.nil
                  case' mzz132 => skip
                  exact AllReadyL.nil
              case' mzz133 => skip
              exact AllReadyL.nil
          case' mzz134 => skip
          exact AllReadyL.nil
      case' mzz136 => skip
      exact AllReadyL.nil
set_option maxHeartbeats 1000000 in
theorem rask_in (A B : Option Addr) (n c m d : Nat) (l : Lo) (txn : Int) (x : Wn) (til : Nat) (w : World) (hA : In_ holdK w A n c l.held) (hB : In_ claimK w B m d l.queue) (hx : WnS x) (hh : WnsH l.held) (hc : WnsC l.queue) (hn : n ≤ 300000) (hm : m ≤ 300000) :
    Calls Try.prog 21 #[locV A n c B m d, .int .i64 txn, wnV x, .int .u64 (til : Int)] w fun e w' => RetAi w (Lm.ask l txn x til) e w' := by
  have hml := hB.len
  unfold Lm.ask
  by_cases h1 : txn < 1
  · rw [if_pos (.inl h1)]; exact rask_a1 A B n c m d l txn x til w hA hB hx hh hc hn hm h1
  have h1' : 1 ≤ txn := by omega
  cases h2 : may x with
  | false => rw [if_pos (.inr rfl)]; exact rask_a2 A B n c m d l txn x til w hA hB hx hh hc hn hm h1' h2
  | true =>
    rw [if_neg (by simp [h1])]
    cases h3 : waits l txn with
    | true => rw [if_pos rfl]; exact rask_a3 A B n c m d l txn x til w hA hB hx hh hc hn hm h1' h2 h3
    | false =>
      rw [if_neg (by simp)]
      cases h4 : covered l txn x with
      | true => rw [if_pos rfl]; exact rask_a4 A B n c m d l txn x til w hA hB hx hh hc hn hm h1' h2 h3 h4
      | false =>
        rw [if_neg (by simp), hml]
        by_cases h5 : blk l txn x m = []
        · rw [if_pos h5]; exact rask_a5 A B n c m d l txn x til w hA hB hx hh hc hn hm h1' h2 h3 h4 h5
        · rw [if_neg h5]
          by_cases h6 : 16 ≤ m
          · rw [if_pos h6]; exact rask_a6 A B n c m d l txn x til w hA hB hx hh hc hn hm h1' h2 h3 h4 h5 h6
          · rw [if_neg h6]; exact rask_a7 A B n c m d l txn x til w hA hB hx hh hc hn hm h1' h2 h3 h4 h5 (by omega)
end Go.Proofs.Ytncnfblnelkmbaa
