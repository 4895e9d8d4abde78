/- Contract: lock.Ask. -/
import Derived.Test.YtenemdpjhoebpaaLock
import Derived.Test.YtenemdpjhoebpaaAppK
namespace Go.Proofs.Ytenemdpjhoebpaa
set_option maxRecDepth 100000
open Go.RowKit Prm Lm Sm
set_option linter.unusedVariables false
set_option linter.unusedSimpArgs false

/-- locks of the call's own, in a box that the call keeps; and a box for the result. -/
structure La (w : World) (g r : Nat) (A : Option Addr) (n c : Nat) (B : Option Addr) (m d : Nat) (l : Lo) (wr : World) : Prop where
  b1 : Bx wr g [.slice A n c, .slice B m d]
  b3 : Bx wr r [.slice none 0 0, .slice none 0 0]
  o1 : OwnK holdK wr (r + 1) A n c l.held
  o2 : OwnK claimK wr (r + 1) B m d l.queue
  q : Q w wr
  hg : w.heap.size ≤ g
  hr : g < r
section
variable {w wr w2 w4 w5 : World} {g r n c m d n2 c2 m2 d2 : Nat} {A B A2 B2 : Option Addr} {l l2 : Lo}
theorem La.step (h : La w g r A n c B m d l wr) (q : Q wr w2) : La w g r A n c B m d l w2 := ⟨h.b1.q q, h.b3.q q, h.o1.q q, h.o2.q q, h.q.trans q, h.hg, h.hr⟩
theorem La.put (h : La w g r A n c B m d l wr) (q : Q wr w2) (o1 : OwnK holdK w2 wr.heap.size A2 n2 c2 l2.held) (o2 : OwnK claimK w2 wr.heap.size B2 m2 d2 l2.queue) :
    La w g r A2 n2 c2 B2 m2 d2 l2 ((w2.setCell ⟨g, 0, none⟩ (.slice A2 n2 c2)).setCell ⟨g, 1, none⟩ (.slice B2 m2 d2)) := by
  have hr := h.hr
  have hrl := h.b3.lt
  have hgl := h.hg
  exact ⟨(h.b1.q q).set2 _ _, (h.b3.q q).far2 (by omega) _ _, (o1.set2 (b := g) (by omega) _ _).lower (by omega), (o2.set2 (b := g) (by omega) _ _).lower (by omega), (h.q.trans q).set2 hgl _ _, h.hg, h.hr⟩
/-- rows of unlike elements lie apart. -/
theorem apt_kinds {α β : Type} {K1 : Kind α} {K2 : Kind β} (hT : K1.T ≠ K2.T) {w : World} {b1 b2 : Nat} {l1 : List α} {l2 : List β} (h1 : OwnK K1 w b1 A n c l1) (h2 : OwnK K2 w b2 B m d l2) : Apt A B := by
  intro a b ea eb e
  subst ea eb
  rcases h1.parts with ⟨e1, _⟩ | ⟨g1, cur1, e1, _, hh1, _⟩
  · cases e1
  rcases h2.parts with ⟨e2, _⟩ | ⟨g2, cur2, e2, _, hh2, _⟩
  · cases e2
  injection e1 with e1
  injection e2 with e2
  subst e1 e2
  simp only at e
  subst e
  rw [hh1] at hh2
  injection hh2 with hh2
  injection hh2 with _ hT2
  exact hT hT2
theorem tHC : holdK.T ≠ claimK.T := by decide
theorem La.pushH (h : La w g r A n c B m d l wr) (q : Q wr w4) {hs : List Ho} (o : OwnK holdK w5 (r + 1) A2 n2 c2 hs) (gr : w4.grownBy w5 (Value.slice A n c).ownBlock) :
    La w g r A2 n2 c2 B m d ⟨hs, l.queue⟩ (w5.setCell ⟨g, 0, none⟩ (.slice A2 n2 c2)) := by
  have h4 := h.step q
  have hr := h.hr
  have hrl := h4.b3.lt
  have hgl := h.hg
  have hb : Below (r + 1) w4 w5 := grown_below h4.o1 gr (by omega)
  have ap := apt_kinds tHC h4.o1 h4.o2
  refine ⟨?_, ?_, o.setCell (p := ⟨g, 0, none⟩) (by show g < r + 1; omega) _, (h4.o2.away gr ap (fun _ => trivial)).setCell (p := ⟨g, 0, none⟩) (by show g < r + 1; omega) _, ?_, h.hg, h.hr⟩
  · exact (h4.b1.below hb (by omega)).set (k := 0) (by simp) _
  · exact (h4.b3.below hb (by omega)).far (p := ⟨g, 0, none⟩) (by show g ≠ r; omega) _
  · exact Q.setCell (h4.q.below.trans (hb.mono (by omega))) (p := ⟨g, 0, none⟩) hgl _
theorem La.pushC (h : La w g r A n c B m d l wr) (q : Q wr w4) {hs : List Cl} (o : OwnK claimK w5 (r + 1) B2 m2 d2 hs) (gr : w4.grownBy w5 (Value.slice B m d).ownBlock) :
    La w g r A n c B2 m2 d2 ⟨l.held, hs⟩ (w5.setCell ⟨g, 1, none⟩ (.slice B2 m2 d2)) := by
  have h4 := h.step q
  have hr := h.hr
  have hrl := h4.b3.lt
  have hgl := h.hg
  have hb : Below (r + 1) w4 w5 := grown_below h4.o2 gr (by omega)
  have ap := (apt_kinds tHC h4.o1 h4.o2).symm
  refine ⟨?_, ?_, (h4.o1.away gr ap (fun _ => trivial)).setCell (p := ⟨g, 1, none⟩) (by show g < r + 1; omega) _, o.setCell (p := ⟨g, 1, none⟩) (by show g < r + 1; omega) _, ?_, h.hg, h.hr⟩
  · exact (h4.b1.below hb (by omega)).set (k := 1) (by simp) _
  · exact (h4.b3.below hb (by omega)).far (p := ⟨g, 1, none⟩) (by show g ≠ r; omega) _
  · exact Q.setCell (h4.q.below.trans (hb.mono (by omega))) (p := ⟨g, 1, none⟩) hgl _
end
/-- locks of the call's own and a number. -/
def RetA (w : World) (r : Lo × Int) (e : Ending) (w' : World) : Prop :=
  ∃ A n c B m d, e = .returned (.tuple #[locV A n c B m d, .int .i64 r.2]) ∧ OwnK holdK w' w.heap.size A n c r.1.held ∧ OwnK claimK w' w.heap.size B m d r.1.queue ∧ Q w w'
theorem La.fin {w wr : World} {g r n c m d : Nat} {A B : Option Addr} {l : Lo} (h : La w g r A n c B m d l wr) (er : Int) (x y : Value) : RetA w (l, er) (.returned (.tuple #[locV A n c B m d, .int .i64 er])) ((wr.setCell ⟨r, 0, none⟩ x).setCell ⟨r, 1, none⟩ y) := by
  have hr := h.hr
  have hgl := h.hg
  exact ⟨A, n, c, B, m, d, rfl, (h.o1.set2 (b := r) (by omega) _ _).lower (by omega), (h.o2.set2 (b := r) (by omega) _ _).lower (by omega), h.q.set2 (by omega) _ _⟩
/-- bounds on what is held and asked. -/
structure Few (A : Option Addr) (n c : Nat) (B : Option Addr) (m d : Nat) (l : Lo) : Prop where
  n : n ≤ 300000
  m : m ≤ 300000
  i : I64H l.held
  j : I64C l.queue

theorem La.first {w W0 w1 : World} {n c m d : Nat} {A B A1 B1 : Option Addr} {n1 c1 m1 d1 : Nat} {l : Lo} {r : Nat} (h1 : Bx W0 w.heap.size [.slice A n c, .slice B m d]) (h3 : Bx W0 r [.slice none 0 0, .slice none 0 0]) (q0 : Q w W0) (q1 : Q W0 w1) (o1 : OwnK holdK w1 W0.heap.size A1 n1 c1 l.held) (o2 : OwnK claimK w1 W0.heap.size B1 m1 d1 l.queue) (hr : w.heap.size < r := by omega) :
    La w w.heap.size r A1 n1 c1 B1 m1 d1 l ((w1.setCell ⟨w.heap.size, 0, none⟩ (.slice A1 n1 c1)).setCell ⟨w.heap.size, 1, none⟩ (.slice B1 m1 d1)) := by
  have hrl := h3.lt
  exact ⟨(h1.q q1).set2 _ _, (h3.q q1).far2 (by omega) _ _, (o1.set2 (b := w.heap.size) (by omega) _ _).lower (by omega), (o2.set2 (b := w.heap.size) (by omega) _ _).lower (by omega), (q0.trans q1).set2 (Nat.le_refl _) _ _, Nat.le_refl _, hr⟩

set_option maxHeartbeats 4000000 in
theorem ask_w1 (A B : Option Addr) (n c m d : Nat) (l : Lo) (txn : Int) (x : Wn) (til : Nat) (w : World) (hA : In_ holdK w A n c l.held) (hB : In_ claimK w B m d l.queue) (hf : Few A n c B m d l) (h1 : txn < 1) :
    Calls Try.prog 12 #[locV A n c B m d, .int .i64 txn, wnV x, .int .u64 (til : Int)] w fun e w' => RetA w (l, 1) e w' := by
  have KO := Lib.hid (fun W q => lown_any A B n c m d l W (hA.q q) (hB.q q))
  have KM := Lib.hid (fun W => smay_any x W)
  have KW := Lib.hid (fun A2 B2 c2 d2 W hB2 => lwaits_any A2 B2 n c2 m d2 l txn W hB2 (by have := hf.m; unfold maxLen; omega))
  have KC := Lib.hid (fun A2 B2 c2 d2 W hA2 => lhas_any A2 B2 n c2 m d2 l txn x W hA2 (by have := hf.n; unfold maxLen; omega))
  have KB := Lib.hid (fun A2 B2 c2 d2 W hA2 hB2 => lblocked_any A2 B2 n c2 m d2 l txn x (m : Int) W hA2 hB2 hf.i hf.j (by have := hf.n; omega) (by have := hf.m; omega))
  have HN := Lib.hid hA.len
  have HM := Lib.hid hB.len
  have HF := Lib.hid hf
  have hfn := hf.n
  have hfm := hf.m
  rw [Int.toNat_natCast] at KB
  clear hA hB hf 
  clear KW
  clear KC
  clear KB
  unfold wnV at *
  have HL0 : Hid (Bx (((w.alloc (.cells #[.slice A n c, .slice B m d] 25)).alloc (.cells #[.int .i64 x.mode, .string x.lo, .string x.hi] 27)).alloc (.cells #[.slice none 0 0, .slice none 0 0] 25)) w.heap.size [.slice A n c, .slice B m d] ∧ Bx (((w.alloc (.cells #[.slice A n c, .slice B m d] 25)).alloc (.cells #[.int .i64 x.mode, .string x.lo, .string x.hi] 27)).alloc (.cells #[.slice none 0 0, .slice none 0 0] 25)) (w.heap.size + 1) [.int .i64 x.mode, .string x.lo, .string x.hi] ∧ Bx (((w.alloc (.cells #[.slice A n c, .slice B m d] 25)).alloc (.cells #[.int .i64 x.mode, .string x.lo, .string x.hi] 27)).alloc (.cells #[.slice none 0 0, .slice none 0 0] 25)) (w.heap.size + 1 + 1) [.slice none 0 0, .slice none 0 0] ∧ Q w (((w.alloc (.cells #[.slice A n c, .slice B m d] 25)).alloc (.cells #[.int .i64 x.mode, .string x.lo, .string x.hi] 27)).alloc (.cells #[.slice none 0 0, .slice none 0 0] 25))) := by
    have h2 := (Bx.new (w.alloc (.cells #[.slice A n c, .slice B m d] 25)) [.int .i64 x.mode, .string x.lo, .string x.hi] 27).alloc (.cells #[.slice none 0 0, .slice none 0 0] 25)
    have h3 := Bx.new ((w.alloc (.cells #[.slice A n c, .slice B m d] 25)).alloc (.cells #[.int .i64 x.mode, .string x.lo, .string x.hi] 27)) [.slice none 0 0, .slice none 0 0] 25
    rw [show (w.alloc (.cells #[.slice A n c, .slice B m d] 25)).heap.size = w.heap.size + 1 by simp] at h2
    rw [show ((w.alloc (.cells #[.slice A n c, .slice B m d] 25)).alloc (.cells #[.int .i64 x.mode, .string x.lo, .string x.hi] 27)).heap.size = w.heap.size + 1 + 1 by simp] at h3
    exact Lib.hid ⟨((Bx.new w [.slice A n c, .slice B m d] 25).alloc _).alloc _, h2, h3, (((Q.refl w).alloc _).alloc _).alloc _⟩
  go_enter Try.func12, Try.ntmps12
  go_upto_region 1 with (fail)
  generalize ((w.alloc (.cells #[.slice A n c, .slice B m d] 25)).alloc (.cells #[.int .i64 x.mode, .string x.lo, .string x.hi] 27)).alloc (.cells #[.slice none 0 0, .slice none 0 0] 25) = W0 at HL0 ⊢
  obtain ⟨⟨b0, b1⟩, f0, f1⟩ := HL0.out.1.get2
  go_wp2_with fail
  refine (KO.out _ HL0.out.2.2.2).mono ?_
  rintro e w1 ⟨A1, c1, B1, d1, rfl, o1, o2, q1⟩
  rw [HN.out] at o1 ⊢
  rw [HM.out] at o2 ⊢
  obtain ⟨⟨_, _⟩, f0, f1⟩ := (HL0.out.1.q q1).get2
  have HX := Lib.hid ((HL0.out.2.1.q q1).far2 (c := w.heap.size) (by omega) (.slice A1 n c1) (.slice B1 m d1))
  have HL := Lib.hid (La.first HL0.out.1 HL0.out.2.2.1 HL0.out.2.2.2 q1 o1 o2)
  clear o1 o2 q1 b0 b1
  go_upto_region 2 with (fail)
  generalize (w1.setCell ⟨w.heap.size, 0, none⟩ (.slice A1 n c1)).setCell ⟨w.heap.size, 1, none⟩ (.slice B1 m d1) = W1 at HX HL ⊢
  clear f0 f1 HL0
  obtain ⟨⟨b0, b1⟩, f0, f1⟩ := HL.out.b1.get2
  obtain ⟨⟨r0, r1⟩, g0, g1⟩ := HL.out.b3.get2
  obtain ⟨⟨x0, x1, x2⟩, _⟩ := HX.out.get3
  go_wp2
  refine bodyPost_ret (v := .tuple #[locV A1 n c1 B1 m d1, .int .i64 1]) (by simp [results, Try.results12, go_sem, r0, r1, g0, g1]) rfl ?_
  exact HL.out.fin 1 _ _

set_option maxHeartbeats 4000000 in
theorem ask_w2 (A B : Option Addr) (n c m d : Nat) (l : Lo) (txn : Int) (x : Wn) (til : Nat) (w : World) (hA : In_ holdK w A n c l.held) (hB : In_ claimK w B m d l.queue) (hf : Few A n c B m d l) (h1 : 1 ≤ txn) (h2 : may x = false) :
    Calls Try.prog 12 #[locV A n c B m d, .int .i64 txn, wnV x, .int .u64 (til : Int)] w fun e w' => RetA w (l, 1) e w' := by
  have KO := Lib.hid (fun W q => lown_any A B n c m d l W (hA.q q) (hB.q q))
  have KM := Lib.hid (fun W => smay_any x W)
  have KW := Lib.hid (fun A2 B2 c2 d2 W hB2 => lwaits_any A2 B2 n c2 m d2 l txn W hB2 (by have := hf.m; unfold maxLen; omega))
  have KC := Lib.hid (fun A2 B2 c2 d2 W hA2 => lhas_any A2 B2 n c2 m d2 l txn x W hA2 (by have := hf.n; unfold maxLen; omega))
  have KB := Lib.hid (fun A2 B2 c2 d2 W hA2 hB2 => lblocked_any A2 B2 n c2 m d2 l txn x (m : Int) W hA2 hB2 hf.i hf.j (by have := hf.n; omega) (by have := hf.m; omega))
  have HN := Lib.hid hA.len
  have HM := Lib.hid hB.len
  have HF := Lib.hid hf
  have hfn := hf.n
  have hfm := hf.m
  rw [Int.toNat_natCast] at KB
  rw [h2] at KM
  have h1 : ¬ txn < 1 := by omega
  clear hA hB hf h2
  clear KW
  clear KC
  clear KB
  unfold wnV at *
  have HL0 : Hid (Bx (((w.alloc (.cells #[.slice A n c, .slice B m d] 25)).alloc (.cells #[.int .i64 x.mode, .string x.lo, .string x.hi] 27)).alloc (.cells #[.slice none 0 0, .slice none 0 0] 25)) w.heap.size [.slice A n c, .slice B m d] ∧ Bx (((w.alloc (.cells #[.slice A n c, .slice B m d] 25)).alloc (.cells #[.int .i64 x.mode, .string x.lo, .string x.hi] 27)).alloc (.cells #[.slice none 0 0, .slice none 0 0] 25)) (w.heap.size + 1) [.int .i64 x.mode, .string x.lo, .string x.hi] ∧ Bx (((w.alloc (.cells #[.slice A n c, .slice B m d] 25)).alloc (.cells #[.int .i64 x.mode, .string x.lo, .string x.hi] 27)).alloc (.cells #[.slice none 0 0, .slice none 0 0] 25)) (w.heap.size + 1 + 1) [.slice none 0 0, .slice none 0 0] ∧ Q w (((w.alloc (.cells #[.slice A n c, .slice B m d] 25)).alloc (.cells #[.int .i64 x.mode, .string x.lo, .string x.hi] 27)).alloc (.cells #[.slice none 0 0, .slice none 0 0] 25))) := by
    have h2 := (Bx.new (w.alloc (.cells #[.slice A n c, .slice B m d] 25)) [.int .i64 x.mode, .string x.lo, .string x.hi] 27).alloc (.cells #[.slice none 0 0, .slice none 0 0] 25)
    have h3 := Bx.new ((w.alloc (.cells #[.slice A n c, .slice B m d] 25)).alloc (.cells #[.int .i64 x.mode, .string x.lo, .string x.hi] 27)) [.slice none 0 0, .slice none 0 0] 25
    rw [show (w.alloc (.cells #[.slice A n c, .slice B m d] 25)).heap.size = w.heap.size + 1 by simp] at h2
    rw [show ((w.alloc (.cells #[.slice A n c, .slice B m d] 25)).alloc (.cells #[.int .i64 x.mode, .string x.lo, .string x.hi] 27)).heap.size = w.heap.size + 1 + 1 by simp] at h3
    exact Lib.hid ⟨((Bx.new w [.slice A n c, .slice B m d] 25).alloc _).alloc _, h2, h3, (((Q.refl w).alloc _).alloc _).alloc _⟩
  go_enter Try.func12, Try.ntmps12
  go_upto_region 1 with (fail)
  generalize ((w.alloc (.cells #[.slice A n c, .slice B m d] 25)).alloc (.cells #[.int .i64 x.mode, .string x.lo, .string x.hi] 27)).alloc (.cells #[.slice none 0 0, .slice none 0 0] 25) = W0 at HL0 ⊢
  obtain ⟨⟨b0, b1⟩, f0, f1⟩ := HL0.out.1.get2
  go_wp2_with fail
  refine (KO.out _ HL0.out.2.2.2).mono ?_
  rintro e w1 ⟨A1, c1, B1, d1, rfl, o1, o2, q1⟩
  rw [HN.out] at o1 ⊢
  rw [HM.out] at o2 ⊢
  obtain ⟨⟨_, _⟩, f0, f1⟩ := (HL0.out.1.q q1).get2
  have HX := Lib.hid ((HL0.out.2.1.q q1).far2 (c := w.heap.size) (by omega) (.slice A1 n c1) (.slice B1 m d1))
  have HL := Lib.hid (La.first HL0.out.1 HL0.out.2.2.1 HL0.out.2.2.2 q1 o1 o2)
  clear o1 o2 q1 b0 b1
  go_upto_region 2 with (fail)
  generalize (w1.setCell ⟨w.heap.size, 0, none⟩ (.slice A1 n c1)).setCell ⟨w.heap.size, 1, none⟩ (.slice B1 m d1) = W1 at HX HL ⊢
  clear f0 f1 HL0
  obtain ⟨⟨b0, b1⟩, f0, f1⟩ := HL.out.b1.get2
  obtain ⟨⟨r0, r1⟩, g0, g1⟩ := HL.out.b3.get2
  obtain ⟨⟨x0, x1, x2⟩, _⟩ := HX.out.get3
  go_wp2_with fail
  refine (KM.out _).mono ?_
  rintro e v0 ⟨rfl, q2⟩
  have HL := Lib.hid (HL.out.step q2)
  have HX := Lib.hid (HX.out.q q2)
  clear q2 b0 b1 f0 f1 r0 r1 g0 g1 x0 x1 x2
  obtain ⟨⟨b0, b1⟩, f0, f1⟩ := HL.out.b1.get2
  obtain ⟨⟨r0, r1⟩, g0, g1⟩ := HL.out.b3.get2
  obtain ⟨⟨x0, x1, x2⟩, _⟩ := HX.out.get3
  go_wp2
  refine bodyPost_ret (v := .tuple #[locV A1 n c1 B1 m d1, .int .i64 1]) (by simp [results, Try.results12, go_sem, r0, r1, g0, g1]) rfl ?_
  exact HL.out.fin 1 _ _

set_option maxHeartbeats 4000000 in
theorem ask_w3 (A B : Option Addr) (n c m d : Nat) (l : Lo) (txn : Int) (x : Wn) (til : Nat) (w : World) (hA : In_ holdK w A n c l.held) (hB : In_ claimK w B m d l.queue) (hf : Few A n c B m d l) (h1 : 1 ≤ txn) (h2 : may x = true) (h3 : waits l txn = true) :
    Calls Try.prog 12 #[locV A n c B m d, .int .i64 txn, wnV x, .int .u64 (til : Int)] w fun e w' => RetA w (l, 8) e w' := by
  have KO := Lib.hid (fun W q => lown_any A B n c m d l W (hA.q q) (hB.q q))
  have KM := Lib.hid (fun W => smay_any x W)
  have KW := Lib.hid (fun A2 B2 c2 d2 W hB2 => lwaits_any A2 B2 n c2 m d2 l txn W hB2 (by have := hf.m; unfold maxLen; omega))
  have KC := Lib.hid (fun A2 B2 c2 d2 W hA2 => lhas_any A2 B2 n c2 m d2 l txn x W hA2 (by have := hf.n; unfold maxLen; omega))
  have KB := Lib.hid (fun A2 B2 c2 d2 W hA2 hB2 => lblocked_any A2 B2 n c2 m d2 l txn x (m : Int) W hA2 hB2 hf.i hf.j (by have := hf.n; omega) (by have := hf.m; omega))
  have HN := Lib.hid hA.len
  have HM := Lib.hid hB.len
  have HF := Lib.hid hf
  have hfn := hf.n
  have hfm := hf.m
  rw [Int.toNat_natCast] at KB
  rw [h2] at KM
  rw [h3] at KW
  have h1 : ¬ txn < 1 := by omega
  clear hA hB hf h2 h3
  clear KC
  clear KB
  unfold wnV at *
  have HL0 : Hid (Bx (((w.alloc (.cells #[.slice A n c, .slice B m d] 25)).alloc (.cells #[.int .i64 x.mode, .string x.lo, .string x.hi] 27)).alloc (.cells #[.slice none 0 0, .slice none 0 0] 25)) w.heap.size [.slice A n c, .slice B m d] ∧ Bx (((w.alloc (.cells #[.slice A n c, .slice B m d] 25)).alloc (.cells #[.int .i64 x.mode, .string x.lo, .string x.hi] 27)).alloc (.cells #[.slice none 0 0, .slice none 0 0] 25)) (w.heap.size + 1) [.int .i64 x.mode, .string x.lo, .string x.hi] ∧ Bx (((w.alloc (.cells #[.slice A n c, .slice B m d] 25)).alloc (.cells #[.int .i64 x.mode, .string x.lo, .string x.hi] 27)).alloc (.cells #[.slice none 0 0, .slice none 0 0] 25)) (w.heap.size + 1 + 1) [.slice none 0 0, .slice none 0 0] ∧ Q w (((w.alloc (.cells #[.slice A n c, .slice B m d] 25)).alloc (.cells #[.int .i64 x.mode, .string x.lo, .string x.hi] 27)).alloc (.cells #[.slice none 0 0, .slice none 0 0] 25))) := by
    have h2 := (Bx.new (w.alloc (.cells #[.slice A n c, .slice B m d] 25)) [.int .i64 x.mode, .string x.lo, .string x.hi] 27).alloc (.cells #[.slice none 0 0, .slice none 0 0] 25)
    have h3 := Bx.new ((w.alloc (.cells #[.slice A n c, .slice B m d] 25)).alloc (.cells #[.int .i64 x.mode, .string x.lo, .string x.hi] 27)) [.slice none 0 0, .slice none 0 0] 25
    rw [show (w.alloc (.cells #[.slice A n c, .slice B m d] 25)).heap.size = w.heap.size + 1 by simp] at h2
    rw [show ((w.alloc (.cells #[.slice A n c, .slice B m d] 25)).alloc (.cells #[.int .i64 x.mode, .string x.lo, .string x.hi] 27)).heap.size = w.heap.size + 1 + 1 by simp] at h3
    exact Lib.hid ⟨((Bx.new w [.slice A n c, .slice B m d] 25).alloc _).alloc _, h2, h3, (((Q.refl w).alloc _).alloc _).alloc _⟩
  go_enter Try.func12, Try.ntmps12
  go_upto_region 1 with (fail)
  generalize ((w.alloc (.cells #[.slice A n c, .slice B m d] 25)).alloc (.cells #[.int .i64 x.mode, .string x.lo, .string x.hi] 27)).alloc (.cells #[.slice none 0 0, .slice none 0 0] 25) = W0 at HL0 ⊢
  obtain ⟨⟨b0, b1⟩, f0, f1⟩ := HL0.out.1.get2
  go_wp2_with fail
  refine (KO.out _ HL0.out.2.2.2).mono ?_
  rintro e w1 ⟨A1, c1, B1, d1, rfl, o1, o2, q1⟩
  rw [HN.out] at o1 ⊢
  rw [HM.out] at o2 ⊢
  obtain ⟨⟨_, _⟩, f0, f1⟩ := (HL0.out.1.q q1).get2
  have HX := Lib.hid ((HL0.out.2.1.q q1).far2 (c := w.heap.size) (by omega) (.slice A1 n c1) (.slice B1 m d1))
  have HL := Lib.hid (La.first HL0.out.1 HL0.out.2.2.1 HL0.out.2.2.2 q1 o1 o2)
  clear o1 o2 q1 b0 b1
  go_upto_region 2 with (fail)
  generalize (w1.setCell ⟨w.heap.size, 0, none⟩ (.slice A1 n c1)).setCell ⟨w.heap.size, 1, none⟩ (.slice B1 m d1) = W1 at HX HL ⊢
  clear f0 f1 HL0
  obtain ⟨⟨b0, b1⟩, f0, f1⟩ := HL.out.b1.get2
  obtain ⟨⟨r0, r1⟩, g0, g1⟩ := HL.out.b3.get2
  obtain ⟨⟨x0, x1, x2⟩, _⟩ := HX.out.get3
  go_wp2_with fail
  refine (KM.out _).mono ?_
  rintro e v0 ⟨rfl, q2⟩
  have HL := Lib.hid (HL.out.step q2)
  have HX := Lib.hid (HX.out.q q2)
  clear q2 b0 b1 f0 f1 r0 r1 g0 g1 x0 x1 x2
  obtain ⟨⟨b0, b1⟩, f0, f1⟩ := HL.out.b1.get2
  obtain ⟨⟨r0, r1⟩, g0, g1⟩ := HL.out.b3.get2
  obtain ⟨⟨x0, x1, x2⟩, _⟩ := HX.out.get3
  go_wp2_with fail
  refine (KW.out A1 B1 c1 d1 _ HL.out.o2.lst).mono ?_
  rintro e v1 ⟨rfl, q2⟩
  have HL := Lib.hid (HL.out.step q2)
  have HX := Lib.hid (HX.out.q q2)
  clear q2 b0 b1 f0 f1 r0 r1 g0 g1 x0 x1 x2
  obtain ⟨⟨b0, b1⟩, f0, f1⟩ := HL.out.b1.get2
  obtain ⟨⟨r0, r1⟩, g0, g1⟩ := HL.out.b3.get2
  obtain ⟨⟨x0, x1, x2⟩, _⟩ := HX.out.get3
  go_wp2
  refine bodyPost_ret (v := .tuple #[locV A1 n c1 B1 m d1, .int .i64 8]) (by simp [results, Try.results12, go_sem, r0, r1, g0, g1]) rfl ?_
  exact HL.out.fin 8 _ _

set_option maxHeartbeats 4000000 in
theorem ask_w4 (A B : Option Addr) (n c m d : Nat) (l : Lo) (txn : Int) (x : Wn) (til : Nat) (w : World) (hA : In_ holdK w A n c l.held) (hB : In_ claimK w B m d l.queue) (hf : Few A n c B m d l) (h1 : 1 ≤ txn) (h2 : may x = true) (h3 : waits l txn = false) (h4 : covered l txn x = true) :
    Calls Try.prog 12 #[locV A n c B m d, .int .i64 txn, wnV x, .int .u64 (til : Int)] w fun e w' => RetA w (l, 0) e w' := by
  have KO := Lib.hid (fun W q => lown_any A B n c m d l W (hA.q q) (hB.q q))
  have KM := Lib.hid (fun W => smay_any x W)
  have KW := Lib.hid (fun A2 B2 c2 d2 W hB2 => lwaits_any A2 B2 n c2 m d2 l txn W hB2 (by have := hf.m; unfold maxLen; omega))
  have KC := Lib.hid (fun A2 B2 c2 d2 W hA2 => lhas_any A2 B2 n c2 m d2 l txn x W hA2 (by have := hf.n; unfold maxLen; omega))
  have KB := Lib.hid (fun A2 B2 c2 d2 W hA2 hB2 => lblocked_any A2 B2 n c2 m d2 l txn x (m : Int) W hA2 hB2 hf.i hf.j (by have := hf.n; omega) (by have := hf.m; omega))
  have HN := Lib.hid hA.len
  have HM := Lib.hid hB.len
  have HF := Lib.hid hf
  have hfn := hf.n
  have hfm := hf.m
  rw [Int.toNat_natCast] at KB
  rw [h2] at KM
  rw [h3] at KW
  rw [h4] at KC
  have h1 : ¬ txn < 1 := by omega
  clear hA hB hf h2 h3 h4
  clear KB
  unfold wnV at *
  have HL0 : Hid (Bx (((w.alloc (.cells #[.slice A n c, .slice B m d] 25)).alloc (.cells #[.int .i64 x.mode, .string x.lo, .string x.hi] 27)).alloc (.cells #[.slice none 0 0, .slice none 0 0] 25)) w.heap.size [.slice A n c, .slice B m d] ∧ Bx (((w.alloc (.cells #[.slice A n c, .slice B m d] 25)).alloc (.cells #[.int .i64 x.mode, .string x.lo, .string x.hi] 27)).alloc (.cells #[.slice none 0 0, .slice none 0 0] 25)) (w.heap.size + 1) [.int .i64 x.mode, .string x.lo, .string x.hi] ∧ Bx (((w.alloc (.cells #[.slice A n c, .slice B m d] 25)).alloc (.cells #[.int .i64 x.mode, .string x.lo, .string x.hi] 27)).alloc (.cells #[.slice none 0 0, .slice none 0 0] 25)) (w.heap.size + 1 + 1) [.slice none 0 0, .slice none 0 0] ∧ Q w (((w.alloc (.cells #[.slice A n c, .slice B m d] 25)).alloc (.cells #[.int .i64 x.mode, .string x.lo, .string x.hi] 27)).alloc (.cells #[.slice none 0 0, .slice none 0 0] 25))) := by
    have h2 := (Bx.new (w.alloc (.cells #[.slice A n c, .slice B m d] 25)) [.int .i64 x.mode, .string x.lo, .string x.hi] 27).alloc (.cells #[.slice none 0 0, .slice none 0 0] 25)
    have h3 := Bx.new ((w.alloc (.cells #[.slice A n c, .slice B m d] 25)).alloc (.cells #[.int .i64 x.mode, .string x.lo, .string x.hi] 27)) [.slice none 0 0, .slice none 0 0] 25
    rw [show (w.alloc (.cells #[.slice A n c, .slice B m d] 25)).heap.size = w.heap.size + 1 by simp] at h2
    rw [show ((w.alloc (.cells #[.slice A n c, .slice B m d] 25)).alloc (.cells #[.int .i64 x.mode, .string x.lo, .string x.hi] 27)).heap.size = w.heap.size + 1 + 1 by simp] at h3
    exact Lib.hid ⟨((Bx.new w [.slice A n c, .slice B m d] 25).alloc _).alloc _, h2, h3, (((Q.refl w).alloc _).alloc _).alloc _⟩
  go_enter Try.func12, Try.ntmps12
  go_upto_region 1 with (fail)
  generalize ((w.alloc (.cells #[.slice A n c, .slice B m d] 25)).alloc (.cells #[.int .i64 x.mode, .string x.lo, .string x.hi] 27)).alloc (.cells #[.slice none 0 0, .slice none 0 0] 25) = W0 at HL0 ⊢
  obtain ⟨⟨b0, b1⟩, f0, f1⟩ := HL0.out.1.get2
  go_wp2_with fail
  refine (KO.out _ HL0.out.2.2.2).mono ?_
  rintro e w1 ⟨A1, c1, B1, d1, rfl, o1, o2, q1⟩
  rw [HN.out] at o1 ⊢
  rw [HM.out] at o2 ⊢
  obtain ⟨⟨_, _⟩, f0, f1⟩ := (HL0.out.1.q q1).get2
  have HX := Lib.hid ((HL0.out.2.1.q q1).far2 (c := w.heap.size) (by omega) (.slice A1 n c1) (.slice B1 m d1))
  have HL := Lib.hid (La.first HL0.out.1 HL0.out.2.2.1 HL0.out.2.2.2 q1 o1 o2)
  clear o1 o2 q1 b0 b1
  go_upto_region 2 with (fail)
  generalize (w1.setCell ⟨w.heap.size, 0, none⟩ (.slice A1 n c1)).setCell ⟨w.heap.size, 1, none⟩ (.slice B1 m d1) = W1 at HX HL ⊢
  clear f0 f1 HL0
  obtain ⟨⟨b0, b1⟩, f0, f1⟩ := HL.out.b1.get2
  obtain ⟨⟨r0, r1⟩, g0, g1⟩ := HL.out.b3.get2
  obtain ⟨⟨x0, x1, x2⟩, _⟩ := HX.out.get3
  go_wp2_with fail
  refine (KM.out _).mono ?_
  rintro e v0 ⟨rfl, q2⟩
  have HL := Lib.hid (HL.out.step q2)
  have HX := Lib.hid (HX.out.q q2)
  clear q2 b0 b1 f0 f1 r0 r1 g0 g1 x0 x1 x2
  obtain ⟨⟨b0, b1⟩, f0, f1⟩ := HL.out.b1.get2
  obtain ⟨⟨r0, r1⟩, g0, g1⟩ := HL.out.b3.get2
  obtain ⟨⟨x0, x1, x2⟩, _⟩ := HX.out.get3
  go_wp2_with fail
  refine (KW.out A1 B1 c1 d1 _ HL.out.o2.lst).mono ?_
  rintro e v1 ⟨rfl, q2⟩
  have HL := Lib.hid (HL.out.step q2)
  have HX := Lib.hid (HX.out.q q2)
  clear q2 b0 b1 f0 f1 r0 r1 g0 g1 x0 x1 x2
  obtain ⟨⟨b0, b1⟩, f0, f1⟩ := HL.out.b1.get2
  obtain ⟨⟨r0, r1⟩, g0, g1⟩ := HL.out.b3.get2
  obtain ⟨⟨x0, x1, x2⟩, _⟩ := HX.out.get3
  go_wp2_with fail
  refine (KC.out A1 B1 c1 d1 _ HL.out.o1.lst).mono ?_
  rintro e v2 ⟨rfl, q2⟩
  have HL := Lib.hid (HL.out.step q2)
  have HX := Lib.hid (HX.out.q q2)
  clear q2 b0 b1 f0 f1 r0 r1 g0 g1 x0 x1 x2
  obtain ⟨⟨b0, b1⟩, f0, f1⟩ := HL.out.b1.get2
  obtain ⟨⟨r0, r1⟩, g0, g1⟩ := HL.out.b3.get2
  obtain ⟨⟨x0, x1, x2⟩, _⟩ := HX.out.get3
  go_wp2
  refine bodyPost_ret (v := .tuple #[locV A1 n c1 B1 m d1, .int .i64 0]) (by simp [results, Try.results12, go_sem, r0, r1, g0, g1]) rfl ?_
  exact HL.out.fin 0 _ _

set_option maxHeartbeats 4000000 in
theorem ask_w5 (A B : Option Addr) (n c m d : Nat) (l : Lo) (txn : Int) (x : Wn) (til : Nat) (w : World) (hA : In_ holdK w A n c l.held) (hB : In_ claimK w B m d l.queue) (hf : Few A n c B m d l) (h1 : 1 ≤ txn) (h2 : may x = true) (h3 : waits l txn = false) (h4 : covered l txn x = false) (h5 : blkd l txn x m = false) :
    Calls Try.prog 12 #[locV A n c B m d, .int .i64 txn, wnV x, .int .u64 (til : Int)] w fun e w' => RetA w (⟨l.held ++ [⟨txn, x⟩], l.queue⟩, 0) e w' := by
  have KO := Lib.hid (fun W q => lown_any A B n c m d l W (hA.q q) (hB.q q))
  have KM := Lib.hid (fun W => smay_any x W)
  have KW := Lib.hid (fun A2 B2 c2 d2 W hB2 => lwaits_any A2 B2 n c2 m d2 l txn W hB2 (by have := hf.m; unfold maxLen; omega))
  have KC := Lib.hid (fun A2 B2 c2 d2 W hA2 => lhas_any A2 B2 n c2 m d2 l txn x W hA2 (by have := hf.n; unfold maxLen; omega))
  have KB := Lib.hid (fun A2 B2 c2 d2 W hA2 hB2 => lblocked_any A2 B2 n c2 m d2 l txn x (m : Int) W hA2 hB2 hf.i hf.j (by have := hf.n; omega) (by have := hf.m; omega))
  have HN := Lib.hid hA.len
  have HM := Lib.hid hB.len
  have HF := Lib.hid hf
  have hfn := hf.n
  have hfm := hf.m
  rw [Int.toNat_natCast] at KB
  rw [h2] at KM
  rw [h3] at KW
  rw [h4] at KC
  rw [h5] at KB
  have h1 : ¬ txn < 1 := by omega
  clear hA hB hf h2 h3 h4 h5
  unfold wnV at *
  have HL0 : Hid (Bx (((w.alloc (.cells #[.slice A n c, .slice B m d] 25)).alloc (.cells #[.int .i64 x.mode, .string x.lo, .string x.hi] 27)).alloc (.cells #[.slice none 0 0, .slice none 0 0] 25)) w.heap.size [.slice A n c, .slice B m d] ∧ Bx (((w.alloc (.cells #[.slice A n c, .slice B m d] 25)).alloc (.cells #[.int .i64 x.mode, .string x.lo, .string x.hi] 27)).alloc (.cells #[.slice none 0 0, .slice none 0 0] 25)) (w.heap.size + 1) [.int .i64 x.mode, .string x.lo, .string x.hi] ∧ Bx (((w.alloc (.cells #[.slice A n c, .slice B m d] 25)).alloc (.cells #[.int .i64 x.mode, .string x.lo, .string x.hi] 27)).alloc (.cells #[.slice none 0 0, .slice none 0 0] 25)) (w.heap.size + 1 + 1) [.slice none 0 0, .slice none 0 0] ∧ Q w (((w.alloc (.cells #[.slice A n c, .slice B m d] 25)).alloc (.cells #[.int .i64 x.mode, .string x.lo, .string x.hi] 27)).alloc (.cells #[.slice none 0 0, .slice none 0 0] 25))) := by
    have h2 := (Bx.new (w.alloc (.cells #[.slice A n c, .slice B m d] 25)) [.int .i64 x.mode, .string x.lo, .string x.hi] 27).alloc (.cells #[.slice none 0 0, .slice none 0 0] 25)
    have h3 := Bx.new ((w.alloc (.cells #[.slice A n c, .slice B m d] 25)).alloc (.cells #[.int .i64 x.mode, .string x.lo, .string x.hi] 27)) [.slice none 0 0, .slice none 0 0] 25
    rw [show (w.alloc (.cells #[.slice A n c, .slice B m d] 25)).heap.size = w.heap.size + 1 by simp] at h2
    rw [show ((w.alloc (.cells #[.slice A n c, .slice B m d] 25)).alloc (.cells #[.int .i64 x.mode, .string x.lo, .string x.hi] 27)).heap.size = w.heap.size + 1 + 1 by simp] at h3
    exact Lib.hid ⟨((Bx.new w [.slice A n c, .slice B m d] 25).alloc _).alloc _, h2, h3, (((Q.refl w).alloc _).alloc _).alloc _⟩
  go_enter Try.func12, Try.ntmps12
  go_upto_region 1 with (fail)
  generalize ((w.alloc (.cells #[.slice A n c, .slice B m d] 25)).alloc (.cells #[.int .i64 x.mode, .string x.lo, .string x.hi] 27)).alloc (.cells #[.slice none 0 0, .slice none 0 0] 25) = W0 at HL0 ⊢
  obtain ⟨⟨b0, b1⟩, f0, f1⟩ := HL0.out.1.get2
  go_wp2_with fail
  refine (KO.out _ HL0.out.2.2.2).mono ?_
  rintro e w1 ⟨A1, c1, B1, d1, rfl, o1, o2, q1⟩
  rw [HN.out] at o1 ⊢
  rw [HM.out] at o2 ⊢
  obtain ⟨⟨_, _⟩, f0, f1⟩ := (HL0.out.1.q q1).get2
  have HX := Lib.hid ((HL0.out.2.1.q q1).far2 (c := w.heap.size) (by omega) (.slice A1 n c1) (.slice B1 m d1))
  have HL := Lib.hid (La.first HL0.out.1 HL0.out.2.2.1 HL0.out.2.2.2 q1 o1 o2)
  clear o1 o2 q1 b0 b1
  go_upto_region 2 with (fail)
  generalize (w1.setCell ⟨w.heap.size, 0, none⟩ (.slice A1 n c1)).setCell ⟨w.heap.size, 1, none⟩ (.slice B1 m d1) = W1 at HX HL ⊢
  clear f0 f1 HL0
  obtain ⟨⟨b0, b1⟩, f0, f1⟩ := HL.out.b1.get2
  obtain ⟨⟨r0, r1⟩, g0, g1⟩ := HL.out.b3.get2
  obtain ⟨⟨x0, x1, x2⟩, _⟩ := HX.out.get3
  go_wp2_with fail
  refine (KM.out _).mono ?_
  rintro e v0 ⟨rfl, q2⟩
  have HL := Lib.hid (HL.out.step q2)
  have HX := Lib.hid (HX.out.q q2)
  clear q2 b0 b1 f0 f1 r0 r1 g0 g1 x0 x1 x2
  obtain ⟨⟨b0, b1⟩, f0, f1⟩ := HL.out.b1.get2
  obtain ⟨⟨r0, r1⟩, g0, g1⟩ := HL.out.b3.get2
  obtain ⟨⟨x0, x1, x2⟩, _⟩ := HX.out.get3
  go_wp2_with fail
  refine (KW.out A1 B1 c1 d1 _ HL.out.o2.lst).mono ?_
  rintro e v1 ⟨rfl, q2⟩
  have HL := Lib.hid (HL.out.step q2)
  have HX := Lib.hid (HX.out.q q2)
  clear q2 b0 b1 f0 f1 r0 r1 g0 g1 x0 x1 x2
  obtain ⟨⟨b0, b1⟩, f0, f1⟩ := HL.out.b1.get2
  obtain ⟨⟨r0, r1⟩, g0, g1⟩ := HL.out.b3.get2
  obtain ⟨⟨x0, x1, x2⟩, _⟩ := HX.out.get3
  go_wp2_with fail
  refine (KC.out A1 B1 c1 d1 _ HL.out.o1.lst).mono ?_
  rintro e v2 ⟨rfl, q2⟩
  have HL := Lib.hid (HL.out.step q2)
  have HX := Lib.hid (HX.out.q q2)
  clear q2 b0 b1 f0 f1 r0 r1 g0 g1 x0 x1 x2
  obtain ⟨⟨b0, b1⟩, f0, f1⟩ := HL.out.b1.get2
  obtain ⟨⟨r0, r1⟩, g0, g1⟩ := HL.out.b3.get2
  obtain ⟨⟨x0, x1, x2⟩, _⟩ := HX.out.get3
  go_wp2_with fail
  refine (KB.out A1 B1 c1 d1 _ HL.out.o1.lst (HL.out.o2.in_ (by show m * 56 ≤ _; omega))).mono ?_
  rintro e v3 ⟨rfl, q2⟩
  have HL := Lib.hid (HL.out.step q2)
  have HX := Lib.hid (HX.out.q q2)
  clear q2 b0 b1 f0 f1 r0 r1 g0 g1 x0 x1 x2
  obtain ⟨⟨b0, b1⟩, f0, f1⟩ := HL.out.b1.get2
  obtain ⟨⟨r0, r1⟩, g0, g1⟩ := HL.out.b3.get2
  obtain ⟨⟨x0, x1, x2⟩, _⟩ := HX.out.get3
  go_wp2_with (at_builtin
               refine wpl_appKG holdK rfl _ _ 22 rfl rfl (w.heap.size + 1 + 1 + 1) A1 n c1 l.held rfl (HL.out.o1.alloc _) (some ⟨v3.heap.size, 0, none⟩) 1 1 [⟨txn, x⟩] rfl (by have := lit_hold v3 ⟨txn, x⟩; simpa using this) (fun e => by cases e) (by show (n + 1) * 48 ≤ _; omega) (by have := HL.out.b3.lt; simp; omega) ?_
               intro A5 c5 w5 o5 gr5 _
               have HL5 := Lib.hid (HL.out.pushH ((Q.refl v3).alloc (.cells #[.int .i64 txn, .int .i64 x.mode, .string x.lo, .string x.hi] 52)) o5 gr5)
               have hb5 := Lib.hid (grown_below (HL.out.o1.alloc (.cells #[.int .i64 txn, .int .i64 x.mode, .string x.lo, .string x.hi] 52)) gr5 (by have := HL.out.b3.lt; simp; omega))
               obtain ⟨⟨b0, b1⟩, f0, f1⟩ := (((HL.out.step ((Q.refl v3).alloc (.cells #[.int .i64 txn, .int .i64 x.mode, .string x.lo, .string x.hi] 52))).b1).below hb5.out (by omega)).get2
               obtain ⟨⟨r0, r1⟩, g0, g1⟩ := (((HL.out.step ((Q.refl v3).alloc (.cells #[.int .i64 txn, .int .i64 x.mode, .string x.lo, .string x.hi] 52))).b3).below hb5.out (by omega)).get2
               clear o5 gr5)
  refine bodyPost_ret (v := .tuple #[locV A5 (n + 1) c5 B1 m d1, .int .i64 0]) (by simp [results, Try.results12, go_sem, r0, r1, g0, g1]) rfl ?_
  exact HL5.out.fin 0 _ _

set_option maxHeartbeats 4000000 in
theorem ask_w6 (A B : Option Addr) (n c m d : Nat) (l : Lo) (txn : Int) (x : Wn) (til : Nat) (w : World) (hA : In_ holdK w A n c l.held) (hB : In_ claimK w B m d l.queue) (hf : Few A n c B m d l) (h1 : 1 ≤ txn) (h2 : may x = true) (h3 : waits l txn = false) (h4 : covered l txn x = false) (h5 : blkd l txn x m = true) (h6 : 16 ≤ m) :
    Calls Try.prog 12 #[locV A n c B m d, .int .i64 txn, wnV x, .int .u64 (til : Int)] w fun e w' => RetA w (l, 11) e w' := by
  have KO := Lib.hid (fun W q => lown_any A B n c m d l W (hA.q q) (hB.q q))
  have KM := Lib.hid (fun W => smay_any x W)
  have KW := Lib.hid (fun A2 B2 c2 d2 W hB2 => lwaits_any A2 B2 n c2 m d2 l txn W hB2 (by have := hf.m; unfold maxLen; omega))
  have KC := Lib.hid (fun A2 B2 c2 d2 W hA2 => lhas_any A2 B2 n c2 m d2 l txn x W hA2 (by have := hf.n; unfold maxLen; omega))
  have KB := Lib.hid (fun A2 B2 c2 d2 W hA2 hB2 => lblocked_any A2 B2 n c2 m d2 l txn x (m : Int) W hA2 hB2 hf.i hf.j (by have := hf.n; omega) (by have := hf.m; omega))
  have HN := Lib.hid hA.len
  have HM := Lib.hid hB.len
  have HF := Lib.hid hf
  have hfn := hf.n
  have hfm := hf.m
  rw [Int.toNat_natCast] at KB
  rw [h2] at KM
  rw [h3] at KW
  rw [h4] at KC
  rw [h5] at KB
  have h6 : (16 : Int) ≤ (m : Int) := by omega
  have h1 : ¬ txn < 1 := by omega
  clear hA hB hf h2 h3 h4 h5
  unfold wnV at *
  have HL0 : Hid (Bx (((w.alloc (.cells #[.slice A n c, .slice B m d] 25)).alloc (.cells #[.int .i64 x.mode, .string x.lo, .string x.hi] 27)).alloc (.cells #[.slice none 0 0, .slice none 0 0] 25)) w.heap.size [.slice A n c, .slice B m d] ∧ Bx (((w.alloc (.cells #[.slice A n c, .slice B m d] 25)).alloc (.cells #[.int .i64 x.mode, .string x.lo, .string x.hi] 27)).alloc (.cells #[.slice none 0 0, .slice none 0 0] 25)) (w.heap.size + 1) [.int .i64 x.mode, .string x.lo, .string x.hi] ∧ Bx (((w.alloc (.cells #[.slice A n c, .slice B m d] 25)).alloc (.cells #[.int .i64 x.mode, .string x.lo, .string x.hi] 27)).alloc (.cells #[.slice none 0 0, .slice none 0 0] 25)) (w.heap.size + 1 + 1) [.slice none 0 0, .slice none 0 0] ∧ Q w (((w.alloc (.cells #[.slice A n c, .slice B m d] 25)).alloc (.cells #[.int .i64 x.mode, .string x.lo, .string x.hi] 27)).alloc (.cells #[.slice none 0 0, .slice none 0 0] 25))) := by
    have h2 := (Bx.new (w.alloc (.cells #[.slice A n c, .slice B m d] 25)) [.int .i64 x.mode, .string x.lo, .string x.hi] 27).alloc (.cells #[.slice none 0 0, .slice none 0 0] 25)
    have h3 := Bx.new ((w.alloc (.cells #[.slice A n c, .slice B m d] 25)).alloc (.cells #[.int .i64 x.mode, .string x.lo, .string x.hi] 27)) [.slice none 0 0, .slice none 0 0] 25
    rw [show (w.alloc (.cells #[.slice A n c, .slice B m d] 25)).heap.size = w.heap.size + 1 by simp] at h2
    rw [show ((w.alloc (.cells #[.slice A n c, .slice B m d] 25)).alloc (.cells #[.int .i64 x.mode, .string x.lo, .string x.hi] 27)).heap.size = w.heap.size + 1 + 1 by simp] at h3
    exact Lib.hid ⟨((Bx.new w [.slice A n c, .slice B m d] 25).alloc _).alloc _, h2, h3, (((Q.refl w).alloc _).alloc _).alloc _⟩
  go_enter Try.func12, Try.ntmps12
  go_upto_region 1 with (fail)
  generalize ((w.alloc (.cells #[.slice A n c, .slice B m d] 25)).alloc (.cells #[.int .i64 x.mode, .string x.lo, .string x.hi] 27)).alloc (.cells #[.slice none 0 0, .slice none 0 0] 25) = W0 at HL0 ⊢
  obtain ⟨⟨b0, b1⟩, f0, f1⟩ := HL0.out.1.get2
  go_wp2_with fail
  refine (KO.out _ HL0.out.2.2.2).mono ?_
  rintro e w1 ⟨A1, c1, B1, d1, rfl, o1, o2, q1⟩
  rw [HN.out] at o1 ⊢
  rw [HM.out] at o2 ⊢
  obtain ⟨⟨_, _⟩, f0, f1⟩ := (HL0.out.1.q q1).get2
  have HX := Lib.hid ((HL0.out.2.1.q q1).far2 (c := w.heap.size) (by omega) (.slice A1 n c1) (.slice B1 m d1))
  have HL := Lib.hid (La.first HL0.out.1 HL0.out.2.2.1 HL0.out.2.2.2 q1 o1 o2)
  clear o1 o2 q1 b0 b1
  go_upto_region 2 with (fail)
  generalize (w1.setCell ⟨w.heap.size, 0, none⟩ (.slice A1 n c1)).setCell ⟨w.heap.size, 1, none⟩ (.slice B1 m d1) = W1 at HX HL ⊢
  clear f0 f1 HL0
  obtain ⟨⟨b0, b1⟩, f0, f1⟩ := HL.out.b1.get2
  obtain ⟨⟨r0, r1⟩, g0, g1⟩ := HL.out.b3.get2
  obtain ⟨⟨x0, x1, x2⟩, _⟩ := HX.out.get3
  go_wp2_with fail
  refine (KM.out _).mono ?_
  rintro e v0 ⟨rfl, q2⟩
  have HL := Lib.hid (HL.out.step q2)
  have HX := Lib.hid (HX.out.q q2)
  clear q2 b0 b1 f0 f1 r0 r1 g0 g1 x0 x1 x2
  obtain ⟨⟨b0, b1⟩, f0, f1⟩ := HL.out.b1.get2
  obtain ⟨⟨r0, r1⟩, g0, g1⟩ := HL.out.b3.get2
  obtain ⟨⟨x0, x1, x2⟩, _⟩ := HX.out.get3
  go_wp2_with fail
  refine (KW.out A1 B1 c1 d1 _ HL.out.o2.lst).mono ?_
  rintro e v1 ⟨rfl, q2⟩
  have HL := Lib.hid (HL.out.step q2)
  have HX := Lib.hid (HX.out.q q2)
  clear q2 b0 b1 f0 f1 r0 r1 g0 g1 x0 x1 x2
  obtain ⟨⟨b0, b1⟩, f0, f1⟩ := HL.out.b1.get2
  obtain ⟨⟨r0, r1⟩, g0, g1⟩ := HL.out.b3.get2
  obtain ⟨⟨x0, x1, x2⟩, _⟩ := HX.out.get3
  go_wp2_with fail
  refine (KC.out A1 B1 c1 d1 _ HL.out.o1.lst).mono ?_
  rintro e v2 ⟨rfl, q2⟩
  have HL := Lib.hid (HL.out.step q2)
  have HX := Lib.hid (HX.out.q q2)
  clear q2 b0 b1 f0 f1 r0 r1 g0 g1 x0 x1 x2
  obtain ⟨⟨b0, b1⟩, f0, f1⟩ := HL.out.b1.get2
  obtain ⟨⟨r0, r1⟩, g0, g1⟩ := HL.out.b3.get2
  obtain ⟨⟨x0, x1, x2⟩, _⟩ := HX.out.get3
  go_wp2_with fail
  refine (KB.out A1 B1 c1 d1 _ HL.out.o1.lst (HL.out.o2.in_ (by show m * 56 ≤ _; omega))).mono ?_
  rintro e v3 ⟨rfl, q2⟩
  have HL := Lib.hid (HL.out.step q2)
  have HX := Lib.hid (HX.out.q q2)
  clear q2 b0 b1 f0 f1 r0 r1 g0 g1 x0 x1 x2
  obtain ⟨⟨b0, b1⟩, f0, f1⟩ := HL.out.b1.get2
  obtain ⟨⟨r0, r1⟩, g0, g1⟩ := HL.out.b3.get2
  obtain ⟨⟨x0, x1, x2⟩, _⟩ := HX.out.get3
  go_wp2
  refine bodyPost_ret (v := .tuple #[locV A1 n c1 B1 m d1, .int .i64 11]) (by simp [results, Try.results12, go_sem, r0, r1, g0, g1]) rfl ?_
  exact HL.out.fin 11 _ _

set_option maxHeartbeats 4000000 in
theorem ask_w7 (A B : Option Addr) (n c m d : Nat) (l : Lo) (txn : Int) (x : Wn) (til : Nat) (w : World) (hA : In_ holdK w A n c l.held) (hB : In_ claimK w B m d l.queue) (hf : Few A n c B m d l) (h1 : 1 ≤ txn) (h2 : may x = true) (h3 : waits l txn = false) (h4 : covered l txn x = false) (h5 : blkd l txn x m = true) (h6 : m < 16) :
    Calls Try.prog 12 #[locV A n c B m d, .int .i64 txn, wnV x, .int .u64 (til : Int)] w fun e w' => RetA w (⟨l.held, l.queue ++ [⟨txn, x, til⟩]⟩, 12) e w' := by
  have KO := Lib.hid (fun W q => lown_any A B n c m d l W (hA.q q) (hB.q q))
  have KM := Lib.hid (fun W => smay_any x W)
  have KW := Lib.hid (fun A2 B2 c2 d2 W hB2 => lwaits_any A2 B2 n c2 m d2 l txn W hB2 (by have := hf.m; unfold maxLen; omega))
  have KC := Lib.hid (fun A2 B2 c2 d2 W hA2 => lhas_any A2 B2 n c2 m d2 l txn x W hA2 (by have := hf.n; unfold maxLen; omega))
  have KB := Lib.hid (fun A2 B2 c2 d2 W hA2 hB2 => lblocked_any A2 B2 n c2 m d2 l txn x (m : Int) W hA2 hB2 hf.i hf.j (by have := hf.n; omega) (by have := hf.m; omega))
  have HN := Lib.hid hA.len
  have HM := Lib.hid hB.len
  have HF := Lib.hid hf
  have hfn := hf.n
  have hfm := hf.m
  rw [Int.toNat_natCast] at KB
  rw [h2] at KM
  rw [h3] at KW
  rw [h4] at KC
  rw [h5] at KB
  have h6 : ¬ (16 : Int) ≤ (m : Int) := by omega
  have h1 : ¬ txn < 1 := by omega
  clear hA hB hf h2 h3 h4 h5
  unfold wnV at *
  have HL0 : Hid (Bx (((w.alloc (.cells #[.slice A n c, .slice B m d] 25)).alloc (.cells #[.int .i64 x.mode, .string x.lo, .string x.hi] 27)).alloc (.cells #[.slice none 0 0, .slice none 0 0] 25)) w.heap.size [.slice A n c, .slice B m d] ∧ Bx (((w.alloc (.cells #[.slice A n c, .slice B m d] 25)).alloc (.cells #[.int .i64 x.mode, .string x.lo, .string x.hi] 27)).alloc (.cells #[.slice none 0 0, .slice none 0 0] 25)) (w.heap.size + 1) [.int .i64 x.mode, .string x.lo, .string x.hi] ∧ Bx (((w.alloc (.cells #[.slice A n c, .slice B m d] 25)).alloc (.cells #[.int .i64 x.mode, .string x.lo, .string x.hi] 27)).alloc (.cells #[.slice none 0 0, .slice none 0 0] 25)) (w.heap.size + 1 + 1) [.slice none 0 0, .slice none 0 0] ∧ Q w (((w.alloc (.cells #[.slice A n c, .slice B m d] 25)).alloc (.cells #[.int .i64 x.mode, .string x.lo, .string x.hi] 27)).alloc (.cells #[.slice none 0 0, .slice none 0 0] 25))) := by
    have h2 := (Bx.new (w.alloc (.cells #[.slice A n c, .slice B m d] 25)) [.int .i64 x.mode, .string x.lo, .string x.hi] 27).alloc (.cells #[.slice none 0 0, .slice none 0 0] 25)
    have h3 := Bx.new ((w.alloc (.cells #[.slice A n c, .slice B m d] 25)).alloc (.cells #[.int .i64 x.mode, .string x.lo, .string x.hi] 27)) [.slice none 0 0, .slice none 0 0] 25
    rw [show (w.alloc (.cells #[.slice A n c, .slice B m d] 25)).heap.size = w.heap.size + 1 by simp] at h2
    rw [show ((w.alloc (.cells #[.slice A n c, .slice B m d] 25)).alloc (.cells #[.int .i64 x.mode, .string x.lo, .string x.hi] 27)).heap.size = w.heap.size + 1 + 1 by simp] at h3
    exact Lib.hid ⟨((Bx.new w [.slice A n c, .slice B m d] 25).alloc _).alloc _, h2, h3, (((Q.refl w).alloc _).alloc _).alloc _⟩
  go_enter Try.func12, Try.ntmps12
  go_upto_region 1 with (fail)
  generalize ((w.alloc (.cells #[.slice A n c, .slice B m d] 25)).alloc (.cells #[.int .i64 x.mode, .string x.lo, .string x.hi] 27)).alloc (.cells #[.slice none 0 0, .slice none 0 0] 25) = W0 at HL0 ⊢
  obtain ⟨⟨b0, b1⟩, f0, f1⟩ := HL0.out.1.get2
  go_wp2_with fail
  refine (KO.out _ HL0.out.2.2.2).mono ?_
  rintro e w1 ⟨A1, c1, B1, d1, rfl, o1, o2, q1⟩
  rw [HN.out] at o1 ⊢
  rw [HM.out] at o2 ⊢
  obtain ⟨⟨_, _⟩, f0, f1⟩ := (HL0.out.1.q q1).get2
  have HX := Lib.hid ((HL0.out.2.1.q q1).far2 (c := w.heap.size) (by omega) (.slice A1 n c1) (.slice B1 m d1))
  have HL := Lib.hid (La.first HL0.out.1 HL0.out.2.2.1 HL0.out.2.2.2 q1 o1 o2)
  clear o1 o2 q1 b0 b1
  go_upto_region 2 with (fail)
  generalize (w1.setCell ⟨w.heap.size, 0, none⟩ (.slice A1 n c1)).setCell ⟨w.heap.size, 1, none⟩ (.slice B1 m d1) = W1 at HX HL ⊢
  clear f0 f1 HL0
  obtain ⟨⟨b0, b1⟩, f0, f1⟩ := HL.out.b1.get2
  obtain ⟨⟨r0, r1⟩, g0, g1⟩ := HL.out.b3.get2
  obtain ⟨⟨x0, x1, x2⟩, _⟩ := HX.out.get3
  go_wp2_with fail
  refine (KM.out _).mono ?_
  rintro e v0 ⟨rfl, q2⟩
  have HL := Lib.hid (HL.out.step q2)
  have HX := Lib.hid (HX.out.q q2)
  clear q2 b0 b1 f0 f1 r0 r1 g0 g1 x0 x1 x2
  obtain ⟨⟨b0, b1⟩, f0, f1⟩ := HL.out.b1.get2
  obtain ⟨⟨r0, r1⟩, g0, g1⟩ := HL.out.b3.get2
  obtain ⟨⟨x0, x1, x2⟩, _⟩ := HX.out.get3
  go_wp2_with fail
  refine (KW.out A1 B1 c1 d1 _ HL.out.o2.lst).mono ?_
  rintro e v1 ⟨rfl, q2⟩
  have HL := Lib.hid (HL.out.step q2)
  have HX := Lib.hid (HX.out.q q2)
  clear q2 b0 b1 f0 f1 r0 r1 g0 g1 x0 x1 x2
  obtain ⟨⟨b0, b1⟩, f0, f1⟩ := HL.out.b1.get2
  obtain ⟨⟨r0, r1⟩, g0, g1⟩ := HL.out.b3.get2
  obtain ⟨⟨x0, x1, x2⟩, _⟩ := HX.out.get3
  go_wp2_with fail
  refine (KC.out A1 B1 c1 d1 _ HL.out.o1.lst).mono ?_
  rintro e v2 ⟨rfl, q2⟩
  have HL := Lib.hid (HL.out.step q2)
  have HX := Lib.hid (HX.out.q q2)
  clear q2 b0 b1 f0 f1 r0 r1 g0 g1 x0 x1 x2
  obtain ⟨⟨b0, b1⟩, f0, f1⟩ := HL.out.b1.get2
  obtain ⟨⟨r0, r1⟩, g0, g1⟩ := HL.out.b3.get2
  obtain ⟨⟨x0, x1, x2⟩, _⟩ := HX.out.get3
  go_wp2_with fail
  refine (KB.out A1 B1 c1 d1 _ HL.out.o1.lst (HL.out.o2.in_ (by show m * 56 ≤ _; omega))).mono ?_
  rintro e v3 ⟨rfl, q2⟩
  have HL := Lib.hid (HL.out.step q2)
  have HX := Lib.hid (HX.out.q q2)
  clear q2 b0 b1 f0 f1 r0 r1 g0 g1 x0 x1 x2
  obtain ⟨⟨b0, b1⟩, f0, f1⟩ := HL.out.b1.get2
  obtain ⟨⟨r0, r1⟩, g0, g1⟩ := HL.out.b3.get2
  obtain ⟨⟨x0, x1, x2⟩, _⟩ := HX.out.get3
  go_wp2_with (at_builtin
               refine wpl_appKG claimK rfl _ _ 23 rfl rfl (w.heap.size + 1 + 1 + 1) B1 m d1 l.queue rfl (HL.out.o2.alloc _) (some ⟨v3.heap.size, 0, none⟩) 1 1 [⟨txn, x, til⟩] rfl (by have := lit_claim v3 ⟨txn, x, til⟩; simpa using this) (fun e => by cases e) (by show (m + 1) * 56 ≤ _; omega) (by have := HL.out.b3.lt; simp; omega) ?_
               intro B5 d5 w5 o5 gr5 _
               have HL5 := Lib.hid (HL.out.pushC ((Q.refl v3).alloc (.cells #[.int .i64 txn, .int .i64 x.mode, .string x.lo, .string x.hi, .int .u64 (til : Int)] 55)) o5 gr5)
               have hb5 := Lib.hid (grown_below (HL.out.o2.alloc (.cells #[.int .i64 txn, .int .i64 x.mode, .string x.lo, .string x.hi, .int .u64 (til : Int)] 55)) gr5 (by have := HL.out.b3.lt; simp; omega))
               obtain ⟨⟨b0, b1⟩, f0, f1⟩ := (((HL.out.step ((Q.refl v3).alloc (.cells #[.int .i64 txn, .int .i64 x.mode, .string x.lo, .string x.hi, .int .u64 (til : Int)] 55))).b1).below hb5.out (by omega)).get2
               obtain ⟨⟨r0, r1⟩, g0, g1⟩ := (((HL.out.step ((Q.refl v3).alloc (.cells #[.int .i64 txn, .int .i64 x.mode, .string x.lo, .string x.hi, .int .u64 (til : Int)] 55))).b3).below hb5.out (by omega)).get2
               clear o5 gr5)
  refine bodyPost_ret (v := .tuple #[locV A1 n c1 B5 (m + 1) d5, .int .i64 12]) (by simp [results, Try.results12, go_sem, r0, r1, g0, g1]) rfl ?_
  exact HL5.out.fin 12 _ _
set_option maxHeartbeats 1000000 in
theorem lask_any (A B : Option Addr) (n c m d : Nat) (l : Lo) (txn : Int) (x : Wn) (til : Nat) (w : World) (hA : In_ holdK w A n c l.held) (hB : In_ claimK w B m d l.queue) (hf : Few A n c B m d l) :
    Calls Try.prog 12 #[locV A n c B m d, .int .i64 txn, wnV x, .int .u64 (til : Int)] w fun e w' => RetA w (Lm.ask l txn x til) e w' := by
  have hm := hB.len
  unfold Lm.ask
  by_cases h1 : txn < 1
  · rw [if_pos (.inl h1)]; exact ask_w1 A B n c m d l txn x til w hA hB hf h1
  have h1' : 1 ≤ txn := by omega
  cases h2 : may x with
  | false => rw [if_pos (.inr rfl)]; exact ask_w2 A B n c m d l txn x til w hA hB hf h1' h2
  | true =>
    rw [if_neg (by simp [h1])]
    cases h3 : waits l txn with
    | true => rw [if_pos rfl]; exact ask_w3 A B n c m d l txn x til w hA hB hf h1' h2 h3
    | false =>
      rw [if_neg (by simp)]
      cases h4 : covered l txn x with
      | true => rw [if_pos rfl]; exact ask_w4 A B n c m d l txn x til w hA hB hf h1' h2 h3 h4
      | false =>
        rw [if_neg (by simp)]
        cases h5 : blkd l txn x m with
        | false =>
          rw [if_pos (by rw [hm]; exact blkd_false.1 h5)]
          exact ask_w5 A B n c m d l txn x til w hA hB hf h1' h2 h3 h4 h5
        | true =>
          rw [if_neg (by rw [hm]; intro e; rw [blkd_false.2 e] at h5; cases h5)]
          by_cases h6 : 16 ≤ m
          · rw [if_pos (by omega)]; exact ask_w6 A B n c m d l txn x til w hA hB hf h1' h2 h3 h4 h5 h6
          · rw [if_neg (by omega)]; exact ask_w7 A B n c m d l txn x til w hA hB hf h1' h2 h3 h4 h5 (by omega)
end Go.Proofs.Ytenemdpjhoebpaa
