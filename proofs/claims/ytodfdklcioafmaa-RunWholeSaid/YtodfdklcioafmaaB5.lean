/- DiskRef3, DiskRef4, DiskRef5, DiskRef6, DiskTot, DiskVar, FrameU, Kind, KindIn, PairMath: merged. -/
import Derived.Test.YtodfdklcioafmaaB4
import Derived.Deep.RegionLaw
import Derived.Deep.DeepCutAuto
import Derived.Test.YtodfdklcioafmaaB1
import Derived.Deep.CondSized
import Derived.Test.YtodfdklcioafmaaB2
import Derived.Maps.AppendAt
import Derived.Laws.AppendOwnNone
/- Contracts: the document's Delete. -/
namespace Go.Proofs.Ytodfdklcioafmaa
set_option maxRecDepth 100000
open Go.RowKit Dkm
set_option linter.unusedVariables false

/-- a disk, and why not. -/
def RetDK (w : World) (A0 : Option Addr) (n0 : Nat) (d : Dk) (er : Int) (e : Ending) (w' : World) : Prop :=
  ∃ A' n' c', e = .returned (.tuple #[dkv A' n' c' d.room d.fuse d.off, .int .i64 er]) ∧ Dsk w' A' n' c' d.fs ∧ (A' = A0 ∧ n' = n0 ∨ ∀ ad, A' = some ad → w.heap.size ≤ ad.block) ∧ Q w w'
/-- the boxes of a call: the variable's, the result's. -/
structure Sb (w : World) (A : Option Addr) (n c : Nat) (room fuse : Int) (off : Bool) (wr : World) : Prop where
  box : Bx wr w.heap.size [.slice A n c, .int .i64 room, .int .i64 fuse, .bool off]
  res : Bx wr (w.heap.size + 1) [.slice none 0 0, .int .i64 0, .int .i64 0, .bool false]
  q : Q w wr
theorem Sb.new (w : World) (A : Option Addr) (n c : Nat) (room fuse : Int) (off : Bool) : Sb w A n c room fuse off ((w.alloc (.cells #[.slice A n c, .int .i64 room, .int .i64 fuse, .bool off] 24)).alloc (.cells #[.slice none 0 0, .int .i64 0, .int .i64 0, .bool false] 24)) :=
  ⟨(two_new w (.slice A n c) (.int .i64 room) (.int .i64 fuse) (.bool off) (.slice none 0 0) (.int .i64 0) (.int .i64 0) (.bool false) 24).1, (two_new w (.slice A n c) (.int .i64 room) (.int .i64 fuse) (.bool off) (.slice none 0 0) (.int .i64 0) (.int .i64 0) (.bool false) 24).2, ((Q.refl w).alloc _).alloc _⟩
section
variable {w wr : World} {A : Option Addr} {n c : Nat} {room fuse : Int} {off : Bool}
theorem Sb.step {w2 : World} (h : Sb w A n c room fuse off wr) (q : Q wr w2) : Sb w A n c room fuse off w2 := ⟨h.box.q q, h.res.q q, h.q.trans q⟩
theorem Sb.put4 (h : Sb w A n c room fuse off wr) (A2 : Option Addr) (n2 c2 : Nat) (room2 fuse2 : Int) (off2 : Bool) :
    Sb w A2 n2 c2 room2 fuse2 off2 ((((wr.setCell ⟨w.heap.size, 0, none⟩ (.slice A2 n2 c2)).setCell ⟨w.heap.size, 1, none⟩ (.int .i64 room2)).setCell ⟨w.heap.size, 2, none⟩ (.int .i64 fuse2)).setCell ⟨w.heap.size, 3, none⟩ (.bool off2)) :=
  ⟨h.box.put4 _ _ _ _, h.res.far4 (c := w.heap.size) (by omega) _ _ _ _, h.q.set4 (b := w.heap.size) (Nat.le_refl _) _ _ _ _⟩
theorem Sb.get (h : Sb w A n c room fuse off wr) : ((wr.cell? ⟨w.heap.size, 0, none⟩ = some (.slice A n c) ∧ wr.cell? ⟨w.heap.size, 1, none⟩ = some (.int .i64 room) ∧ wr.cell? ⟨w.heap.size, 2, none⟩ = some (.int .i64 fuse) ∧ wr.cell? ⟨w.heap.size, 3, none⟩ = some (.bool off)) ∧
    wr.frozen? ⟨w.heap.size, 0, none⟩ = false ∧ wr.frozen? ⟨w.heap.size, 1, none⟩ = false ∧ wr.frozen? ⟨w.heap.size, 2, none⟩ = false ∧ wr.frozen? ⟨w.heap.size, 3, none⟩ = false) := h.box.get4
theorem Sb.getR (h : Sb w A n c room fuse off wr) : ((wr.cell? ⟨w.heap.size + 1, 0, none⟩ = some (.slice none 0 0) ∧ wr.cell? ⟨w.heap.size + 1, 1, none⟩ = some (.int .i64 0) ∧ wr.cell? ⟨w.heap.size + 1, 2, none⟩ = some (.int .i64 0) ∧ wr.cell? ⟨w.heap.size + 1, 3, none⟩ = some (.bool false)) ∧
    wr.frozen? ⟨w.heap.size + 1, 0, none⟩ = false ∧ wr.frozen? ⟨w.heap.size + 1, 1, none⟩ = false ∧ wr.frozen? ⟨w.heap.size + 1, 2, none⟩ = false ∧ wr.frozen? ⟨w.heap.size + 1, 3, none⟩ = false) := h.res.get4
theorem Sb.endK (h : Sb w A n c room fuse off wr) {l : List Fil} (hd : Dsk w A n c l) (er : Int) (x y z u : Value) : RetDK w A n ⟨l, room, fuse, off⟩ er (.returned (.tuple #[dkv A n c room fuse off, .int .i64 er])) ((((wr.setCell ⟨w.heap.size + 1, 0, none⟩ x).setCell ⟨w.heap.size + 1, 1, none⟩ y).setCell ⟨w.heap.size + 1, 2, none⟩ z).setCell ⟨w.heap.size + 1, 3, none⟩ u) :=
  ⟨A, n, c, rfl, hd.q (h.q.set4 (b := w.heap.size + 1) (by omega) _ _ _ _), .inl ⟨rfl, rfl⟩, h.q.set4 (b := w.heap.size + 1) (by omega) _ _ _ _⟩
theorem Sb.endO (h : Sb w A n c room fuse off wr) {w2 : World} (q : Q wr w2) {A2 : Option Addr} {n2 c2 : Nat} {d : Dk} (ho : Own w2 wr.heap.size A2 n2 c2 d.fs) (hn : n2 * 48 ≤ 140737488355328) {A0 : Option Addr} {n0 : Nat} (er : Int) (x y z u : Value) : RetDK w A0 n0 d er (.returned (.tuple #[dkv A2 n2 c2 d.room d.fuse d.off, .int .i64 er])) ((((w2.setCell ⟨w.heap.size + 1, 0, none⟩ x).setCell ⟨w.heap.size + 1, 1, none⟩ y).setCell ⟨w.heap.size + 1, 2, none⟩ z).setCell ⟨w.heap.size + 1, 3, none⟩ u) :=
  ⟨A2, n2, c2, rfl, (ho.set4 h.res.lt _ _ _ _).dsk hn, .inr (fun ad e => by
    have h2 := h.q.size
    rcases ho.2 with ⟨e', _⟩ | ⟨g, cap, cur, e', hb, _⟩
    · simp only [Value.slice.injEq] at e'; rw [e'.1] at e; cases e
    · simp only [Value.slice.injEq] at e'; rw [e'.1] at e; injection e with e; subst e; simp only; omega), (h.q.trans q).set4 (b := w.heap.size + 1) (by omega) _ _ _ _⟩
end

set_option maxHeartbeats 1000000 in
theorem ref_del_off (nm : ByteArray) (A : Option Addr) (n c : Nat) (room fuse : Int) (l : List Fil) (w : World) (hd : Dsk w A n c l) :
    Calls Try.prog 33 #[dkv A n c room fuse true, .string nm] w fun e w' => RetDK w A n ⟨l, room, fuse, true⟩ 6 e w' := by
  have HD := Lib.hid hd
  clear hd
  go_enter Try.func33, Try.ntmps33
  go_wp2
  refine bodyPost_ret (v := .tuple #[dkv A n c room fuse true, .int .i64 6]) (by simp [results, Try.results33, go_sem]) rfl ?_
  exact ⟨A, n, c, rfl, HD.out.q (((Q.refl _).alloc _).alloc _), .inl ⟨rfl, rfl⟩, ((Q.refl _).alloc _).alloc _⟩

set_option maxHeartbeats 1000000 in
theorem ref_del_none (nm : ByteArray) (A : Option Addr) (n c : Nat) (room fuse : Int) (l : List Fil) (w : World) (hd : Dsk w A n c l) (p : Int) (hp : plc nm l 0 = p) (h0 : p < 0) :
    Calls Try.prog 33 #[dkv A n c room fuse false, .string nm] w fun e w' => RetDK w A n ⟨l, room, fuse, false⟩ 7 e w' := by
  have HD := Lib.hid hd
  have HP := Lib.hid hp
  clear hd hp
  have S0 := Lib.hid (Sb.new w A n c room fuse false)
  go_enter Try.func33, Try.ntmps33
  go_wp2_with fail
  refine (ref_at nm A n c room fuse false l _ (HD.out.files.q S0.out.q) HD.out.max).mono ?_
  rw [HP.out]
  rintro e w1 ⟨rfl, q1⟩
  have S1 := Lib.hid (S0.out.step q1)
  clear S0 q1
  obtain ⟨⟨e0, e1, e2, e3⟩, f0, f1, f2, f3⟩ := S1.out.get
  obtain ⟨⟨s0, s1, s2, s3⟩, h0', h1, h2, h3⟩ := S1.out.getR
  go_wp2
  refine bodyPost_ret (v := .tuple #[dkv A n c room fuse false, .int .i64 7]) (by simp [results, Try.results33, go_sem, s0, s1, s2, s3]) rfl ?_
  exact S1.out.endK HD.out 7 _ _ _ _

set_option maxHeartbeats 2000000 in
theorem ref_del_dead (nm : ByteArray) (A : Option Addr) (n c : Nat) (room : Int) (l : List Fil) (w : World) (hd : Dsk w A n c l) (k : Nat) (hp : plc nm l 0 = k) :
    Calls Try.prog 33 #[dkv A n c room 0 false, .string nm] w fun e w' => RetDK w A n ⟨l, room, 0, true⟩ 6 e w' := by
  have HD := Lib.hid hd
  have HP := Lib.hid hp
  clear hd hp
  have S0 := Lib.hid (Sb.new w A n c room 0 false)
  go_enter Try.func33, Try.ntmps33
  go_wp2_with fail
  refine (ref_at nm A n c room 0 false l _ (HD.out.files.q S0.out.q) HD.out.max).mono ?_
  rw [HP.out]
  rintro e w1 ⟨rfl, q1⟩
  have S1 := Lib.hid (S0.out.step q1)
  clear S0 q1
  obtain ⟨⟨e0, e1, e2, e3⟩, f0, f1, f2, f3⟩ := S1.out.get
  go_wp2_with fail
  have k2 := ref_power A n c ⟨l, room, 0, false⟩ w1 (by simp)
  rw [pow_zero] at k2
  refine k2.mono ?_
  clear k2
  rintro e w2 ⟨rfl, q2⟩
  have S2 := Lib.hid ((S1.out.step q2).put4 A n c room 0 true)
  have P2 := S1.out.step q2
  clear S1 q2 e0 e1 e2 e3 f0 f1 f2 f3
  obtain ⟨⟨e0, e1, e2, e3⟩, f0, f1, f2, f3⟩ := P2.get
  clear P2
  go_upto_region 6 with (fail)
  generalize ((((w2.setCell ⟨w.heap.size, 0, none⟩ (.slice A n c)).setCell ⟨w.heap.size, 1, none⟩ (.int .i64 room)).setCell ⟨w.heap.size, 2, none⟩ (.int .i64 0)).setCell ⟨w.heap.size, 3, none⟩ (.bool true)) = w3 at S2 ⊢
  clear e0 e1 e2 e3 f0 f1 f2 f3
  obtain ⟨⟨e0, e1, e2, e3⟩, f0, f1, f2, f3⟩ := S2.out.get
  obtain ⟨⟨s0, s1, s2, s3⟩, h0', h1, h2, h3⟩ := S2.out.getR
  go_wp2
  refine bodyPost_ret (v := .tuple #[dkv A n c room 0 true, .int .i64 6]) (by simp [results, Try.results33, go_sem, s0, s1, s2, s3]) rfl ?_
  exact S2.out.endK HD.out 6 _ _ _ _

set_option maxHeartbeats 2000000 in
theorem ref_del_yes (nm : ByteArray) (A : Option Addr) (n c : Nat) (room fuse : Int) (l : List Fil) (w : World) (hd : Dsk w A n c l) (hfu : fuse ≤ 9223372036854775807) (k : Nat) (hk : k < l.length) (hp : plc nm l 0 = k) (f2 : Int) (hpw : pow ⟨l, room, fuse, false⟩ = (⟨l, room, f2, false⟩, true)) (hs : l[k].sf.size + l[k].wt.size ≤ maxLen) (room2 : Int) (hR : wrap64 (room + ((l[k].sf.size + l[k].wt.size : Nat) : Int)) = room2) :
    Calls Try.prog 33 #[dkv A n c room fuse false, .string nm] w fun e w' => RetDK w A n ⟨l.eraseIdx k, room2, f2, false⟩ 0 e w' := by
  have hkn : k < n := by have := hd.len; omega
  obtain ⟨ad, rfl⟩ : ∃ ad, A = some ad := by
    cases A with
    | none => have := hd.nil rfl; omega
    | some ad => exact ⟨ad, rfl⟩
  have HD := Lib.hid hd
  have HP := Lib.hid hp
  have HW := Lib.hid hpw
  have HS := Lib.hid hs
  have HR := Lib.hid hR
  have hfew := hd.few
  clear hd hp hpw hs hR
  have S0 := Lib.hid (Sb.new w (some ad) n c room fuse false)
  go_enter Try.func33, Try.ntmps33
  go_wp2_with fail
  refine (ref_at nm (some ad) n c room fuse false l _ (HD.out.files.q S0.out.q) HD.out.max).mono ?_
  rw [HP.out]
  rintro e w1 ⟨rfl, q1⟩
  have S1 := Lib.hid (S0.out.step q1)
  clear S0 q1
  obtain ⟨⟨e0, e1, e2, e3⟩, f0, f1, f2', f3⟩ := S1.out.get
  go_wp2_with fail
  have k2 := ref_power (some ad) n c ⟨l, room, fuse, false⟩ w1 hfu
  rw [HW.out] at k2
  refine k2.mono ?_
  clear k2
  rintro e w2 ⟨rfl, q2⟩
  have S2 := Lib.hid ((S1.out.step q2).put4 (some ad) n c room f2 false)
  have P2 := S1.out.step q2
  clear S1 q2 e0 e1 e2 e3 f0 f1 f2' f3
  obtain ⟨⟨e0, e1, e2, e3⟩, f0, f1, f2', f3⟩ := P2.get
  clear P2
  go_upto_region 6 with (fail)
  generalize ((((w2.setCell ⟨w.heap.size, 0, none⟩ (.slice (some ad) n c)).setCell ⟨w.heap.size, 1, none⟩ (.int .i64 room)).setCell ⟨w.heap.size, 2, none⟩ (.int .i64 f2)).setCell ⟨w.heap.size, 3, none⟩ (.bool false)) = W at S2 ⊢
  clear e0 e1 e2 e3 f0 f1 f2' f3
  obtain ⟨⟨e0, e1, e2, e3⟩, f0, f1, f2', f3⟩ := S2.out.get
  go_wp2
  go_region_held3 (fun w' => w'.cell? ⟨w.heap.size, 0, none⟩ = some (.slice (some ad) n c) ∧ w'.cell? ⟨w.heap.size, 1, none⟩ = some (.int .i64 room) ∧ w'.cell? ⟨w.heap.size, 2, none⟩ = some (.int .i64 f2) ∧ w'.cell? ⟨w.heap.size, 3, none⟩ = some (.bool false))
    (first
      | go_keep
      | (go_split_ands
         (repeat' apply And.intro) <;> exact box_ ‹Q _ _› (by assumption)))
    (first
      | (go_at_call 56
         refine (ref_at nm (some ad) n c room f2 false l _ (HD.out.files.q S2.out.q.drew) HD.out.max).mono ?_
         rw [HP.out]
         rintro e w4 ⟨rfl, q4⟩)
      | (go_at_call 66
         refine (ref_less ad n c room f2 false k l _ (HD.out.q (S2.out.q.drew.trans q4)) hkn hk HS.out).mono ?_
         rw [HR.out]
         rintro e w5 ⟨A5, c5, rfl, ho5, q5⟩
         obtain ⟨⟨s0, s1, s2, s3⟩, h0', h1, h2, h3⟩ := (S2.out.step (((Q.refl W).drew.trans q4).trans q5)).getR))
  go_wp2
  refine bodyPost_ret (v := .tuple #[dkv A5 (n - 1) c5 room2 f2 false, .int .i64 0]) (by simp [results, Try.results33, go_sem, s0, s1, s2, s3]) rfl ?_
  exact (S2.out.step ((Q.refl W).drew.trans q4)).endO (d := ⟨l.eraseIdx k, room2, f2, false⟩) q5 ho5 (by omega) 0 _ _ _ _
end Go.Proofs.Ytodfdklcioafmaa

/- Contracts: the document's Rename. -/
namespace Go.Proofs.Ytodfdklcioafmaa
set_option maxRecDepth 100000
open Go.RowKit Dkm
set_option linter.unusedVariables false

theorem nmOk_yes {nm : ByteArray} (h : nmOk nm = true) : 1 ≤ nm.size ∧ nm.size ≤ 16 := by simpa [nmOk] using h
theorem nmOk_no {nm : ByteArray} (h : nmOk nm = false) : nm.size < 1 ∨ 16 < nm.size := by
  have : ¬ (1 ≤ nm.size ∧ nm.size ≤ 16) := by simpa [nmOk] using h
  omega

set_option maxHeartbeats 2000000 in
theorem ref_ren_off (fr tu : ByteArray) (A : Option Addr) (n c : Nat) (room fuse : Int) (l : List Fil) (w : World) (hd : Dsk w A n c l) :
    Calls Try.prog 36 #[dkv A n c room fuse true, .string fr, .string tu] w fun e w' => RetDK w A n ⟨l, room, fuse, true⟩ 6 e w' := by
  have HD := Lib.hid hd
  have hfew := hd.few
  clear hd
  go_enter Try.func36, Try.ntmps36
  go_wp2
  refine bodyPost_ret (v := .tuple #[dkv A n c room fuse true, .int .i64 6]) (by simp [results, Try.results36, go_sem]) rfl ?_
  exact ⟨A, n, c, rfl, HD.out.q (((Q.refl _).alloc _).alloc _), .inl ⟨rfl, rfl⟩, ((Q.refl _).alloc _).alloc _⟩

set_option maxHeartbeats 2000000 in
theorem ref_ren_arg (fr tu : ByteArray) (A : Option Addr) (n c : Nat) (room fuse : Int) (l : List Fil) (w : World) (hd : Dsk w A n c l) (hk : nmOk tu = false) :
    Calls Try.prog 36 #[dkv A n c room fuse false, .string fr, .string tu] w fun e w' => RetDK w A n ⟨l, room, fuse, false⟩ 1 e w' := by
  have HD := Lib.hid hd
  have hfew := hd.few
  clear hd
  rcases nmOk_no hk with h | h
  case' inl => have h' : (tu.size : Int) < 1 := by omega
  case' inr => have h' : ¬ (tu.size : Int) < 1 := by omega
  all_goals
    clear hk
    go_enter Try.func36, Try.ntmps36
    go_wp2
    refine bodyPost_ret (v := .tuple #[dkv A n c room fuse false, .int .i64 1]) (by simp [results, Try.results36, go_sem]) rfl ?_
    exact ⟨A, n, c, rfl, HD.out.q (((Q.refl _).alloc _).alloc _), .inl ⟨rfl, rfl⟩, ((Q.refl _).alloc _).alloc _⟩

set_option maxHeartbeats 2000000 in
theorem ref_ren_none (fr tu : ByteArray) (A : Option Addr) (n c : Nat) (room fuse : Int) (l : List Fil) (w : World) (hd : Dsk w A n c l) (p : Int) (hp : plc fr l 0 = p) (hk : nmOk tu = true) (h0 : p < 0) :
    Calls Try.prog 36 #[dkv A n c room fuse false, .string fr, .string tu] w fun e w' => RetDK w A n ⟨l, room, fuse, false⟩ 7 e w' := by
  have HD := Lib.hid hd
  have hfew := hd.few
  clear hd
  obtain ⟨o1, o2⟩ := nmOk_yes hk
  have o3 : ¬ (tu.size : Int) < 1 := by omega
  clear hk
  have HP := Lib.hid hp
  clear hp
  have S0 := Lib.hid (Sb.new w A n c room fuse false)
  go_enter Try.func36, Try.ntmps36
  go_wp2_with fail
  refine (ref_at fr A n c room fuse false l _ (HD.out.files.q S0.out.q) HD.out.max).mono ?_
  rw [HP.out]
  rintro e w1 ⟨rfl, q1⟩
  have S1 := Lib.hid (S0.out.step q1)
  clear S0 q1
  obtain ⟨⟨e0, e1, e2, e3⟩, f0, f1, f2', f3⟩ := S1.out.get
  obtain ⟨⟨s0, s1, s2, s3⟩, h0', h1, h2, h3⟩ := S1.out.getR
  go_wp2
  refine bodyPost_ret (v := .tuple #[dkv A n c room fuse false, .int .i64 7]) (by simp [results, Try.results36, go_sem, s0, s1, s2, s3]) rfl ?_
  exact S1.out.endK HD.out 7 _ _ _ _

set_option maxHeartbeats 2000000 in
theorem ref_ren_same (fr tu : ByteArray) (A : Option Addr) (n c : Nat) (room fuse : Int) (l : List Fil) (w : World) (hd : Dsk w A n c l) (k : Nat) (hp : plc fr l 0 = k) (hk : nmOk tu = true) (he : fr = tu) :
    Calls Try.prog 36 #[dkv A n c room fuse false, .string fr, .string tu] w fun e w' => RetDK w A n ⟨l, room, fuse, false⟩ 0 e w' := by
  have HD := Lib.hid hd
  have hfew := hd.few
  clear hd
  obtain ⟨o1, o2⟩ := nmOk_yes hk
  have o3 : ¬ (tu.size : Int) < 1 := by omega
  clear hk
  have hb := str_eqb he
  clear he
  have HP := Lib.hid hp
  clear hp
  have S0 := Lib.hid (Sb.new w A n c room fuse false)
  go_enter Try.func36, Try.ntmps36
  go_wp2_with fail
  refine (ref_at fr A n c room fuse false l _ (HD.out.files.q S0.out.q) HD.out.max).mono ?_
  rw [HP.out]
  rintro e w1 ⟨rfl, q1⟩
  have S1 := Lib.hid (S0.out.step q1)
  clear S0 q1
  obtain ⟨⟨e0, e1, e2, e3⟩, f0, f1, f2', f3⟩ := S1.out.get
  obtain ⟨⟨s0, s1, s2, s3⟩, h0', h1, h2, h3⟩ := S1.out.getR
  go_wp2
  refine bodyPost_ret (v := .tuple #[dkv A n c room fuse false, .int .i64 0]) (by simp [results, Try.results36, go_sem, s0, s1, s2, s3]) rfl ?_
  exact S1.out.endK HD.out 0 _ _ _ _

set_option maxHeartbeats 2000000 in
theorem ref_ren_dead (fr tu : ByteArray) (A : Option Addr) (n c : Nat) (room : Int) (l : List Fil) (w : World) (hd : Dsk w A n c l) (k : Nat) (hp : plc fr l 0 = k) (hk : nmOk tu = true) (he : fr ≠ tu) :
    Calls Try.prog 36 #[dkv A n c room 0 false, .string fr, .string tu] w fun e w' => RetDK w A n ⟨l, room, 0, true⟩ 6 e w' := by
  have HD := Lib.hid hd
  have hfew := hd.few
  clear hd
  obtain ⟨o1, o2⟩ := nmOk_yes hk
  have o3 : ¬ (tu.size : Int) < 1 := by omega
  clear hk
  have hb := str_ne he
  clear he
  have HP := Lib.hid hp
  clear hp
  have S0 := Lib.hid (Sb.new w A n c room 0 false)
  go_enter Try.func36, Try.ntmps36
  go_wp2_with fail
  refine (ref_at fr A n c room 0 false l _ (HD.out.files.q S0.out.q) HD.out.max).mono ?_
  rw [HP.out]
  rintro e w1 ⟨rfl, q1⟩
  have S1 := Lib.hid (S0.out.step q1)
  clear S0 q1
  obtain ⟨⟨e0, e1, e2, e3⟩, f0, f1, f2', f3⟩ := S1.out.get
  have k2 := ref_power A n c ⟨l, room, 0, false⟩ w1 (by simp)
  rw [pow_zero] at k2
  have k2 := Lib.hid k2
  go_wp2_with fail
  refine k2.out.mono ?_
  rintro e w2 ⟨rfl, q2⟩
  have S2 := Lib.hid ((S1.out.step q2).put4 A n c room 0 true)
  have P2 := S1.out.step q2
  clear S1 k2 q2 e0 e1 e2 e3 f0 f1 f2' f3
  obtain ⟨⟨e0, e1, e2, e3⟩, f0, f1, f2', f3⟩ := P2.get
  clear P2
  go_upto_region 10 with (fail)
  generalize ((((w2.setCell ⟨w.heap.size, 0, none⟩ (.slice A n c)).setCell ⟨w.heap.size, 1, none⟩ (.int .i64 room)).setCell ⟨w.heap.size, 2, none⟩ (.int .i64 0)).setCell ⟨w.heap.size, 3, none⟩ (.bool true)) = W at S2 ⊢
  clear e0 e1 e2 e3 f0 f1 f2' f3
  obtain ⟨⟨e0, e1, e2, e3⟩, f0, f1, f2', f3⟩ := S2.out.get
  obtain ⟨⟨s0, s1, s2, s3⟩, h0', h1, h2, h3⟩ := S2.out.getR
  go_wp2
  refine bodyPost_ret (v := .tuple #[dkv A n c room 0 true, .int .i64 6]) (by simp [results, Try.results36, go_sem, s0, s1, s2, s3]) rfl ?_
  exact S2.out.endK HD.out 6 _ _ _ _

set_option maxHeartbeats 2000000 in
theorem ref_ren_plain (fr tu : ByteArray) (A : Option Addr) (n c : Nat) (room fuse : Int) (l : List Fil) (w : World) (hd : Dsk w A n c l) (hfu : fuse ≤ 9223372036854775807) (k : Nat) (hkl : k < l.length) (hp : plc fr l 0 = k) (hk : nmOk tu = true) (he : fr ≠ tu) (f2 : Int) (hpw : pow ⟨l, room, fuse, false⟩ = (⟨l, room, f2, false⟩, true)) (o : Int) (ht : plc tu l 0 = o) (h0 : o < 0) :
    Calls Try.prog 36 #[dkv A n c room fuse false, .string fr, .string tu] w fun e w' => RetDK w A n ⟨l.set k ⟨tu, l[k].sf, l[k].wt⟩, room, f2, false⟩ 0 e w' := by
  have HD := Lib.hid hd
  have hfew := hd.few
  clear hd
  obtain ⟨o1, o2⟩ := nmOk_yes hk
  have o3 : ¬ (tu.size : Int) < 1 := by omega
  clear hk
  have hb := str_ne he
  clear he
  have HL := Lib.hid HD.out.len
  have hkn : k < n := by have := HL.out; omega
  have HW := Lib.hid hpw
  clear hpw
  have HT := Lib.hid ht
  clear ht
  have HP := Lib.hid hp
  clear hp
  have S0 := Lib.hid (Sb.new w A n c room fuse false)
  go_enter Try.func36, Try.ntmps36
  go_wp2_with fail
  refine (ref_at fr A n c room fuse false l _ (HD.out.files.q S0.out.q) HD.out.max).mono ?_
  rw [HP.out]
  rintro e w1 ⟨rfl, q1⟩
  have S1 := Lib.hid (S0.out.step q1)
  clear S0 q1
  obtain ⟨⟨e0, e1, e2, e3⟩, f0, f1, f2', f3⟩ := S1.out.get
  have k2 := ref_power A n c ⟨l, room, fuse, false⟩ w1 hfu
  rw [HW.out] at k2
  have k2 := Lib.hid k2
  go_wp2_with fail
  refine k2.out.mono ?_
  rintro e w2 ⟨rfl, q2⟩
  have S2 := Lib.hid ((S1.out.step q2).put4 A n c room f2 false)
  have P2 := S1.out.step q2
  clear S1 k2 q2 e0 e1 e2 e3 f0 f1 f2' f3
  obtain ⟨⟨e0, e1, e2, e3⟩, f0, f1, f2', f3⟩ := P2.get
  clear P2
  go_upto_region 10 with (fail)
  generalize ((((w2.setCell ⟨w.heap.size, 0, none⟩ (.slice A n c)).setCell ⟨w.heap.size, 1, none⟩ (.int .i64 room)).setCell ⟨w.heap.size, 2, none⟩ (.int .i64 f2)).setCell ⟨w.heap.size, 3, none⟩ (.bool false)) = W at S2 ⊢
  clear e0 e1 e2 e3 f0 f1 f2' f3
  obtain ⟨⟨e0, e1, e2, e3⟩, f0, f1, f2', f3⟩ := S2.out.get
  go_wp2_with fail
  refine (ref_at tu A n c room f2 false l _ (HD.out.files.q S2.out.q) HD.out.max).mono ?_
  rw [HT.out]
  rintro e w4 ⟨rfl, q4⟩
  have S4 := Lib.hid (S2.out.step q4)
  clear S2 q4 e0 e1 e2 e3 f0 f1 f2' f3
  obtain ⟨⟨e0, e1, e2, e3⟩, f0, f1, f2', f3⟩ := S4.out.get
  go_wp2_with fail
  refine (ref_at fr A n c room f2 false l _ (HD.out.files.q S4.out.q) HD.out.max).mono ?_
  rw [HP.out]
  rintro e w5 ⟨rfl, q5⟩
  have S5 := Lib.hid (S4.out.step q5)
  clear S4 q5 e0 e1 e2 e3 f0 f1 f2' f3
  obtain ⟨⟨e0, e1, e2, e3⟩, f0, f1, f2', f3⟩ := S5.out.get
  obtain ⟨ad, rfl, hbk, c0, c1, c2⟩ := (HD.out.files.q S5.out.q).load hkn hkl
  have z0 : w.heap.size < w5.heap.size := S5.out.box.lt
  have z1 : w.heap.size + 1 < w5.heap.size := S5.out.res.lt
  have z2 : w.heap.size ≠ w5.heap.size := by omega
  have z3 : w.heap.size + 1 ≠ w5.heap.size := by omega
  have q6 : (k : Int) < (n : Int) := by omega
  have q7 : 0 ≤ (k : Int) := by omega
  go_wp2_with fail
  refine (ref_with (some ad) n c room f2 false k ⟨tu, l[k].sf, l[k].wt⟩ l _ (HD.out.q (S5.out.q.alloc _)) hkn).mono ?_
  rintro e w6 ⟨A6, c6, rfl, ho6, q6'⟩
  have S6 := Lib.hid (S5.out.step ((Q.refl w5).alloc (.cells #[.string tu, .string l[k].sf, .string l[k].wt] 52)))
  have HO := Lib.hid ho6
  have HQ := Lib.hid q6'
  clear ho6 q6' S5 e0 e1 e2 e3 f0 f1 f2' f3 c0 c1 c2
  obtain ⟨⟨s0, s1, s2, s3⟩, h0', h1, h2, h3⟩ := (S6.out.step HQ.out).getR
  go_wp2
  refine bodyPost_ret (v := .tuple #[dkv A6 n c6 room f2 false, .int .i64 0]) (by simp [results, Try.results36, go_sem, s0, s1, s2, s3]) rfl ?_
  exact S6.out.endO (d := ⟨l.set k ⟨tu, l[k].sf, l[k].wt⟩, room, f2, false⟩) HQ.out HO.out (by omega) 0 _ _ _ _
end Go.Proofs.Ytodfdklcioafmaa

/- Contracts: the document's Rename over a file that is there; Rename and Delete whole. -/
namespace Go.Proofs.Ytodfdklcioafmaa
set_option maxRecDepth 100000
open Go.RowKit Dkm
set_option linter.unusedVariables false

theorem plc_eq {nm : ByteArray} {l : List Fil} {k : Nat} (hk : k < l.length) (hn : l[k].nm = nm) (hf : ∀ j, ∀ h : j < l.length, j < k → l[j].nm ≠ nm) : plc nm l 0 = k := by
  rcases plc_cases nm l with ⟨_, hall⟩ | ⟨k2, hk2, hp, hn2, hf2⟩
  · exact absurd hn (hall _ (List.getElem_mem hk))
  · rcases Nat.lt_trichotomy k2 k with h | h | h
    · exact absurd hn2 (hf k2 hk2 h)
    · rw [hp, h]
    · exact absurd hn (hf2 k hk h)
theorem erase_get {l : List Fil} {o j : Nat} (ho : o < l.length) (hj : j < (l.eraseIdx o).length) : (l.eraseIdx o)[j] = if h : j < o then l[j]'(by omega) else l[j + 1]'(by rw [List.length_eraseIdx, if_pos ho] at hj; omega) := List.getElem_eraseIdx ..
/-- where the file from stands once another one has gone. -/
def kk_ (k o : Nat) : Nat := if k < o then k else k - 1
theorem erase_from {l : List Fil} {o k : Nat} {fr : ByteArray} (ho : o < l.length) (hk : k < l.length) (hne : o ≠ k) (hn : l[k].nm = fr) (hf : ∀ j, ∀ h : j < l.length, j < k → l[j].nm ≠ fr) (hon : l[o].nm ≠ fr) :
    ∃ h : kk_ k o < (l.eraseIdx o).length, (l.eraseIdx o)[kk_ k o] = l[k] ∧ plc fr (l.eraseIdx o) 0 = (kk_ k o : Nat) := by
  have hlen : (l.eraseIdx o).length = l.length - 1 := by rw [List.length_eraseIdx, if_pos ho]
  have hlt : kk_ k o < (l.eraseIdx o).length := by unfold kk_; split <;> omega
  have hg : (l.eraseIdx o)[kk_ k o] = l[k] := by
    rw [erase_get ho hlt]
    unfold kk_
    by_cases h : k < o
    · simp only [if_pos h, dif_pos h]
    · have h2 : ¬ k - 1 < o := by omega
      simp only [if_neg h, dif_neg h2]
      congr 1; omega
  refine ⟨hlt, hg, plc_eq hlt (by rw [hg]; exact hn) fun j hj hjk => ?_⟩
  rw [erase_get ho hj]
  have hjk2 : j < if k < o then k else k - 1 := hjk
  split
  · exact hf j (by omega) (by split at hjk2 <;> omega)
  · by_cases h : k < o
    · rw [if_pos h] at hjk2; omega
    · rw [if_neg h] at hjk2
      exact hf (j + 1) (by omega) (by omega)
theorem erase_set {l : List Fil} {o k : Nat} (hne : o ≠ k) (g : Fil) : (l.eraseIdx o).set (kk_ k o) g = (l.set k g).eraseIdx o := by
  unfold kk_
  by_cases h : k < o
  · rw [if_pos h, List.eraseIdx_set_gt h]
  · rw [if_neg h, List.eraseIdx_set_lt (by omega)]

set_option maxHeartbeats 3000000 in
theorem ref_ren_over (fr tu : ByteArray) (ad : Addr) (n c : Nat) (room fuse : Int) (l : List Fil) (w : World) (hd : Dsk w (some ad) n c l) (hfu : fuse ≤ 9223372036854775807) (k : Nat) (hp : plc fr l 0 = k) (hk : nmOk tu = true) (he : fr ≠ tu) (f2 : Int) (hpw : pow ⟨l, room, fuse, false⟩ = (⟨l, room, f2, false⟩, true))
    (o : Nat) (ho : o < l.length) (ht : plc tu l 0 = o) (hs : l[o].sf.size + l[o].wt.size ≤ maxLen) (room2 : Int) (hR : wrap64 (room + ((l[o].sf.size + l[o].wt.size : Nat) : Int)) = room2) (k2 : Nat) (hk2 : k2 < (l.eraseIdx o).length) (hp2 : plc fr (l.eraseIdx o) 0 = k2) :
    Calls Try.prog 36 #[dkv (some ad) n c room fuse false, .string fr, .string tu] w fun e w' => RetDK w (some ad) n ⟨(l.eraseIdx o).set k2 ⟨tu, (l.eraseIdx o)[k2].sf, (l.eraseIdx o)[k2].wt⟩, room2, f2, false⟩ 0 e w' := by
  have HD := Lib.hid hd
  have hfew := hd.few
  obtain ⟨o1, o2⟩ := nmOk_yes hk
  have o3 : ¬ (tu.size : Int) < 1 := by omega
  have hb := str_ne he
  have HL := Lib.hid hd.len
  have hon : o < n := by have := HL.out; omega
  have HE := Lib.hid (show (l.eraseIdx o).length = n - 1 by rw [List.length_eraseIdx, if_pos ho, HL.out])
  have hk2n : k2 < n - 1 := by have := HE.out; omega
  have HW := Lib.hid hpw
  have HT := Lib.hid ht
  have HP := Lib.hid hp
  have HP2 := Lib.hid hp2
  have HS := Lib.hid hs
  have HR := Lib.hid hR
  have S0 := Lib.hid (Sb.new w (some ad) n c room fuse false)
  clear hd hk he hpw ht hp hp2 hs hR
  have LS := Lib.hid (fun (W : World) (hW : Dsk W (some ad) n c l) => ref_less ad n c room f2 false o l W hW hon ho HS.out)
  rw [HR.out] at LS
  generalize l.eraseIdx o = m at LS HE HP2 hk2 ⊢
  go_enter Try.func36, Try.ntmps36
  go_wp2_with fail
  refine (ref_at fr (some ad) n c room fuse false l _ (HD.out.files.q S0.out.q) HD.out.max).mono ?_
  rw [HP.out]
  rintro e w1 ⟨rfl, q1⟩
  have S1 := Lib.hid (S0.out.step q1)
  clear S0 q1
  obtain ⟨⟨e0, e1, e2, e3⟩, f0, f1, f2', f3⟩ := S1.out.get
  have kp := ref_power (some ad) n c ⟨l, room, fuse, false⟩ w1 hfu
  rw [HW.out] at kp
  have kp := Lib.hid kp
  go_wp2_with fail
  refine kp.out.mono ?_
  rintro e w2 ⟨rfl, q2⟩
  have S2 := Lib.hid ((S1.out.step q2).put4 (some ad) n c room f2 false)
  have P2 := S1.out.step q2
  clear S1 kp q2 e0 e1 e2 e3 f0 f1 f2' f3
  obtain ⟨⟨e0, e1, e2, e3⟩, f0, f1, f2', f3⟩ := P2.get
  clear P2
  go_upto_region 10 with (fail)
  generalize ((((w2.setCell ⟨w.heap.size, 0, none⟩ (.slice (some ad) n c)).setCell ⟨w.heap.size, 1, none⟩ (.int .i64 room)).setCell ⟨w.heap.size, 2, none⟩ (.int .i64 f2)).setCell ⟨w.heap.size, 3, none⟩ (.bool false)) = W at S2 ⊢
  clear e0 e1 e2 e3 f0 f1 f2' f3
  obtain ⟨⟨e0, e1, e2, e3⟩, f0, f1, f2', f3⟩ := S2.out.get
  go_wp2_with fail
  refine (ref_at tu (some ad) n c room f2 false l _ (HD.out.files.q S2.out.q) HD.out.max).mono ?_
  rw [HT.out]
  rintro e w4 ⟨rfl, q4⟩
  have S4 := Lib.hid (S2.out.step q4)
  clear S2 q4 e0 e1 e2 e3 f0 f1 f2' f3
  obtain ⟨⟨e0, e1, e2, e3⟩, f0, f1, f2', f3⟩ := S4.out.get
  go_wp2_with fail
  refine (LS.out _ (HD.out.q S4.out.q)).mono ?_
  rintro e w5 ⟨A5, c5, rfl, ho5, q5⟩
  have z4 : w.heap.size + 1 < w4.heap.size := S4.out.res.lt
  have P5 := S4.out.step q5
  have S5 := Lib.hid (And.intro (P5.put4 A5 (n - 1) c5 room2 f2 false) (ho5.set4 (b := w.heap.size) (by omega) (.slice A5 (n - 1) c5) (.int .i64 room2) (.int .i64 f2) (.bool false)))
  clear S4 LS q5 ho5 e0 e1 e2 e3 f0 f1 f2' f3
  obtain ⟨⟨e0, e1, e2, e3⟩, f0, f1, f2', f3⟩ := P5.get
  clear P5
  go_upto_region 15 with (fail)
  generalize ((((w5.setCell ⟨w.heap.size, 0, none⟩ (.slice A5 (n - 1) c5)).setCell ⟨w.heap.size, 1, none⟩ (.int .i64 room2)).setCell ⟨w.heap.size, 2, none⟩ (.int .i64 f2)).setCell ⟨w.heap.size, 3, none⟩ (.bool false)) = V at S5 ⊢
  clear e0 e1 e2 e3 f0 f1 f2' f3
  obtain ⟨⟨e0, e1, e2, e3⟩, f0, f1, f2', f3⟩ := S5.out.1.get
  have HK := Lib.hid (S5.out.2.dsk (show (n - 1) * 48 ≤ 140737488355328 by omega))
  go_wp2_with fail
  refine (ref_at fr A5 (n - 1) c5 room2 f2 false m _ HK.out.files HK.out.max).mono ?_
  rw [HP2.out]
  rintro e w6 ⟨rfl, q6⟩
  have S6 := Lib.hid (S5.out.1.step q6)
  have HK6 := Lib.hid (HK.out.q q6)
  clear S5 HK q6 e0 e1 e2 e3 f0 f1 f2' f3
  obtain ⟨⟨e0, e1, e2, e3⟩, f0, f1, f2', f3⟩ := S6.out.get
  obtain ⟨ae, rfl, hbk, c0, c1, c2⟩ := HK6.out.files.load hk2n hk2
  have z0 : w.heap.size < w6.heap.size := S6.out.box.lt
  have z1 : w.heap.size + 1 < w6.heap.size := S6.out.res.lt
  have z2 : w.heap.size ≠ w6.heap.size := by omega
  have z3 : w.heap.size + 1 ≠ w6.heap.size := by omega
  have q7 : (k2 : Int) < ((n - 1 : Nat) : Int) := by omega
  have q8 : 0 ≤ (k2 : Int) := by omega
  have hnm : n - 1 ≤ 9223372036854775807 := by omega
  generalize n - 1 = n1 at *
  go_wp2_with fail
  refine (ref_with (some ae) n1 c5 room2 f2 false k2 ⟨tu, m[k2].sf, m[k2].wt⟩ m _ (HK6.out.q ((Q.refl w6).alloc _)) hk2n).mono ?_
  rintro e w7 ⟨A7, c7, rfl, ho7, q7'⟩
  have S7 := Lib.hid (S6.out.step ((Q.refl w6).alloc (.cells #[.string tu, .string m[k2].sf, .string m[k2].wt] 52)))
  have HO := Lib.hid ho7
  have HQ := Lib.hid q7'
  clear ho7 q7' S6 e0 e1 e2 e3 f0 f1 f2' f3 c0 c1 c2
  obtain ⟨⟨s0, s1, s2, s3⟩, h0', h1, h2, h3⟩ := (S7.out.step HQ.out).getR
  go_wp2
  refine bodyPost_ret (v := .tuple #[dkv A7 n1 c7 room2 f2 false, .int .i64 0]) (by simp [results, Try.results36, go_sem, s0, s1, s2, s3]) rfl ?_
  exact S7.out.endO (d := ⟨m.set k2 ⟨tu, m[k2].sf, m[k2].wt⟩, room2, f2, false⟩) HQ.out HO.out (HK6.out.few) 0 _ _ _ _

theorem ref_del_any (nm : ByteArray) (A : Option Addr) (n c : Nat) (d : Dk) (w : World) (hd : Dsk w A n c d.fs) (hs : ∀ f ∈ d.fs, f.sf.size + f.wt.size ≤ maxLen) (hfu : d.fuse ≤ 9223372036854775807) :
    Calls Try.prog 33 #[dkv A n c d.room d.fuse d.off, .string nm] w fun e w' => RetDK w A n (del d nm).1 (del d nm).2 e w' := by
  obtain ⟨l, room, fuse, off⟩ := d
  simp only at hd hs hfu ⊢
  cases off
  · rcases plc_cases nm l with ⟨hp, hall⟩ | ⟨k, hk, hp, hkn, hfirst⟩
    · rw [show del ⟨l, room, fuse, false⟩ nm = (⟨l, room, fuse, false⟩, 7) by simp [del, hit_none hall]]
      exact ref_del_none nm A n c room fuse l w hd _ hp (by omega)
    · rcases Int.lt_trichotomy fuse 0 with h2 | h2 | h2
      · rw [show del ⟨l, room, fuse, false⟩ nm = (lss ⟨l, room, fuse, false⟩ k, 0) by simp [del, hit_at hk hkn hfirst, opn_at hk hkn hfirst, pow_neg _ _ _ _ h2], lss_at hk]
        exact ref_del_yes nm A n c room fuse l w hd hfu k hk hp fuse (pow_neg _ _ _ _ h2) (hs _ (List.getElem_mem hk)) _ rfl
      · subst h2
        rw [show del ⟨l, room, 0, false⟩ nm = (⟨l, room, 0, true⟩, 6) by simp [del, hit_at hk hkn hfirst, pow_zero]]
        exact ref_del_dead nm A n c room l w hd k hp
      · rw [show del ⟨l, room, fuse, false⟩ nm = (lss ⟨l, room, fuse - 1, false⟩ k, 0) by simp [del, hit_at hk hkn hfirst, opn_at hk hkn hfirst, pow_pos _ _ _ _ h2], lss_at hk]
        exact ref_del_yes nm A n c room fuse l w hd hfu k hk hp (fuse - 1) (pow_pos _ _ _ _ h2) (hs _ (List.getElem_mem hk)) _ rfl
  · exact ref_del_off nm A n c room fuse l w hd

theorem ref_ren_any (fr tu : ByteArray) (A : Option Addr) (n c : Nat) (d : Dk) (w : World) (hd : Dsk w A n c d.fs) (hs : ∀ f ∈ d.fs, f.sf.size + f.wt.size ≤ maxLen) (hfu : d.fuse ≤ 9223372036854775807) :
    Calls Try.prog 36 #[dkv A n c d.room d.fuse d.off, .string fr, .string tu] w fun e w' => RetDK w A n (ren d fr tu).1 (ren d fr tu).2 e w' := by
  obtain ⟨l, room, fuse, off⟩ := d
  simp only at hd hs hfu ⊢
  cases off
  · cases hok : nmOk tu
    · rw [show ren ⟨l, room, fuse, false⟩ fr tu = (⟨l, room, fuse, false⟩, 1) by simp [ren, hok]]
      exact ref_ren_arg fr tu A n c room fuse l w hd hok
    · rcases plc_cases fr l with ⟨hp, hall⟩ | ⟨k, hk, hp, hkn, hfirst⟩
      · rw [show ren ⟨l, room, fuse, false⟩ fr tu = (⟨l, room, fuse, false⟩, 7) by simp [ren, hok, hit_none hall]]
        exact ref_ren_none fr tu A n c room fuse l w hd _ hp hok (by omega)
      · by_cases he : fr = tu
        · rw [show ren ⟨l, room, fuse, false⟩ fr tu = (⟨l, room, fuse, false⟩, 0) by subst he; simp [ren, hok, hit_at hk hkn hfirst]]
          exact ref_ren_same fr tu A n c room fuse l w hd k hp hok he
        · by_cases hz : fuse = 0
          · subst hz
            rw [show ren ⟨l, room, 0, false⟩ fr tu = (⟨l, room, 0, true⟩, 6) by simp [ren, hok, hit_at hk hkn hfirst, he, pow_zero]]
            exact ref_ren_dead fr tu A n c room l w hd k hp hok he
          · obtain ⟨f2, hpw⟩ : ∃ f2, pow ⟨l, room, fuse, false⟩ = (⟨l, room, f2, false⟩, true) := by
              rcases Int.lt_or_gt_of_ne hz with h | h
              · exact ⟨fuse, pow_neg _ _ _ _ h⟩
              · exact ⟨fuse - 1, pow_pos _ _ _ _ h⟩
            rcases plc_cases tu l with ⟨hp2, hall2⟩ | ⟨o, ho, hp2, hon, hfirst2⟩
            · rw [show ren ⟨l, room, fuse, false⟩ fr tu = (nmd ⟨l, room, f2, false⟩ k tu, 0) by simp [ren, hok, hit_at hk hkn hfirst, opn_at hk hkn hfirst, he, hpw, hit_none hall2], nmd_at hk]
              exact ref_ren_plain fr tu A n c room fuse l w hd hfu k hk hp hok he f2 hpw _ hp2 (by omega)
            · have hne : o ≠ k := by rintro rfl; exact he (hkn.symm.trans hon)
              have ho2 : o < (l.set k ⟨tu, l[k].sf, l[k].wt⟩).length := by simpa using ho
              have hge : (l.set k ⟨tu, l[k].sf, l[k].wt⟩)[o] = l[o] := List.getElem_set_ne (by omega) _
              rw [show ren ⟨l, room, fuse, false⟩ fr tu = (lss (nmd ⟨l, room, f2, false⟩ k tu) o, 0) by simp [ren, hok, hit_at hk hkn hfirst, opn_at hk hkn hfirst, he, hpw, hit_at ho hon hfirst2, opn_at ho hon hfirst2], nmd_at hk, lss_at ho2, hge]
              obtain ⟨ad, rfl⟩ : ∃ ad, A = some ad := by
                cases A with
                | none => have := hd.nil rfl; have := hd.len; omega
                | some ad => exact ⟨ad, rfl⟩
              obtain ⟨hlt, hg, hpk⟩ := erase_from (fr := fr) ho hk hne hkn hfirst (by rw [hon]; exact fun e => he e.symm)
              have h := ref_ren_over fr tu ad n c room fuse l w hd hfu k hp hok he f2 hpw o ho hp2 (hs _ (List.getElem_mem ho)) _ rfl (kk_ k o) hlt hpk
              rw [hg, erase_set hne] at h
              exact h
  · exact ref_ren_off fr tu A n c room fuse l w hd
end Go.Proofs.Ytodfdklcioafmaa

/- Contracts: the document's Crash. -/
namespace Go.Proofs.Ytodfdklcioafmaa
set_option maxRecDepth 100000
open Go.RowKit Dkm
set_option linter.unusedVariables false

namespace Dkm
def crd (ks : List Int) (l : List Fil) (k : Nat) : List Fil := (l.take k).mapIdx (crf ks)
theorem crd_succ (ks : List Int) (l : List Fil) (k : Nat) (h : k < l.length) : crd ks l (k + 1) = crd ks l k ++ [crf ks k l[k]] := by
  unfold crd
  rw [List.take_succ_eq_append_getElem h, List.mapIdx_append]
  simp [show min k l.length = k by omega]
theorem crd_all (ks : List Int) (l : List Fil) : crl ks l l.length = crd ks l l.length := by simp [crl, crd]
theorem wrap_less (r : Int) (a b : Nat) : wrap64 (wrap64 (r + a) - b) = wrap64 (r + ((a : Int) - (b : Int))) := by unfold wrap64; omega
theorem kp_big {ks : List Int} {i : Nat} {f : Fil} (h : i < ks.length) (h2 : (f.wt.size : Int) < ks[i]) : kp ks i f = f.wt.size := by
  have := kp_in f h; omega
theorem kp_mid {ks : List Int} {i : Nat} {f : Fil} (h : i < ks.length) (h1 : 0 < ks[i]) (h2 : ks[i] ≤ (f.wt.size : Int)) : ks[i] = (kp ks i f : Int) := by
  have := kp_in f h; omega
theorem kp_low {ks : List Int} {i : Nat} {f : Fil} (h : i < ks.length) (h1 : ks[i] ≤ 0) : kp ks i f = 0 := by
  have := kp_in f h; omega
end Dkm

/-- 'append(own, more...)' as one step of a region that draws. -/
theorem step_app {ops : Array Oper} {o : Oper} {a : Act} {w : World} {K : Act → World → Prop} {R : Exit → Act → World → Prop} {E : Prop} (hgd : o.guard = none) (s x : Operand)
    (ho : o.op = .call { callee := .builtin .append, args := #[s, x], argTypes := #[22, 22] })
    (base : Nat) (A : Option Addr) (n c : Nat) (l : List Fil) (hs : a.eval s = .slice A n c) (h : Own w base A n c l) (A2 : Option Addr) (m c2 : Nat) (l2 : List Fil) (hx : a.eval x = .slice A2 m c2) (h2 : Files w A2 m l2) (hnil : A2 = none → m = 0 ∧ c2 = 0)
    (hb : (n + m) * 48 ≤ 140737488355328) (hbase : base ≤ w.heap.size)
    (hK : ∀ A' c' w', Own w' base A' (n + m) c' (l ++ l2) → Below base w w' → K (a.put o.dst (.slice A' (n + m) c')) w') :
    if Region.wanted o (yielded ops a.tmps) = true then Oper.wp Try.prog o a w K R else E := by
  have hw : Region.wanted o (yielded ops a.tmps) = true := by simp [Region.wanted, hgd]
  rw [if_pos hw]
  obtain ⟨A', c', w', hr, h3, h4⟩ := run_app w base A n c l h A2 m c2 l2 h2 hnil hb hbase o.type
  unfold Oper.wp execOp
  simp only [ho, resolve, invoke, builtin, Sem.run_bind, Sem.run_pure, Result.andThen_ok, List.map_toArray, List.map_cons, List.map_nil, hs, hx, hr]
  exact hK A' c' w' h3 h4

/-- the boxes of the document's Crash: d, the result, out. -/
structure Sc (w : World) (A : Option Addr) (n c : Nat) (room fuse : Int) (off : Bool) (A2 : Option Addr) (k c2 : Nat) (room2 : Int) (m : List Fil) (wr : World) : Prop where
  dk : Bx wr w.heap.size [.slice A n c, .int .i64 room, .int .i64 fuse, .bool off]
  res : Bx wr (w.heap.size + 1) [.slice none 0 0, .int .i64 0, .int .i64 0, .bool false]
  out : Bx wr (w.heap.size + 2) [.slice A2 k c2, .int .i64 room2, .int .i64 (-1), .bool false]
  own : Own wr (w.heap.size + 3) A2 k c2 m
  q : Q w wr
section
variable {w wr : World} {A A2 : Option Addr} {n c k c2 : Nat} {room fuse room2 : Int} {off : Bool} {m : List Fil}
theorem Sc.new (w : World) (A : Option Addr) (n c : Nat) (room fuse : Int) (off : Bool) :
    Sc w A n c room fuse off none 0 0 room [] (((w.alloc (.cells #[.slice A n c, .int .i64 room, .int .i64 fuse, .bool off] 24)).alloc (.cells #[.slice none 0 0, .int .i64 0, .int .i64 0, .bool false] 24)).alloc (.cells #[.slice none 0 0, .int .i64 room, .int .i64 (-1), .bool false] 24)) := by
  have s := Sb.new w A n c room fuse off
  have b := Bx.new ((w.alloc (.cells #[.slice A n c, .int .i64 room, .int .i64 fuse, .bool off] 24)).alloc (.cells #[.slice none 0 0, .int .i64 0, .int .i64 0, .bool false] 24)) [.slice none 0 0, .int .i64 room, .int .i64 (-1), .bool false] 24
  exact ⟨s.box.alloc _, s.res.alloc _, by simpa using b, ⟨rfl, .inl ⟨rfl, rfl⟩⟩, s.q.alloc _⟩
theorem Sc.step {w2 : World} (h : Sc w A n c room fuse off A2 k c2 room2 m wr) (q : Q wr w2) : Sc w A n c room fuse off A2 k c2 room2 m w2 := ⟨h.dk.q q, h.res.q q, h.out.q q, h.own.q q, h.q.trans q⟩
theorem Sc.setRoom (h : Sc w A n c room fuse off A2 k c2 room2 m wr) (x : Int) : Sc w A n c room fuse off A2 k c2 x m (wr.setCell ⟨w.heap.size + 2, 1, none⟩ (.int .i64 x)) :=
  ⟨h.dk.far (p := ⟨w.heap.size + 2, 1, none⟩) (by simp) _, h.res.far (p := ⟨w.heap.size + 2, 1, none⟩) (by simp) _, h.out.set (k := 1) (by simp) _, h.own.setCell (p := ⟨w.heap.size + 2, 1, none⟩) (by simp) _, h.q.setCell (p := ⟨w.heap.size + 2, 1, none⟩) (by simp) _⟩
theorem Sc.wrote {w2 : World} (h : Sc w A n c room fuse off A2 k c2 room2 m wr) {A3 : Option Addr} {k3 c3 : Nat} {m3 : List Fil} (ho : Own w2 (w.heap.size + 3) A3 k3 c3 m3) (hb : Below (w.heap.size + 3) wr w2) :
    Sc w A n c room fuse off A3 k3 c3 room2 m3 (w2.setCell ⟨w.heap.size + 2, 0, none⟩ (.slice A3 k3 c3)) :=
  ⟨(h.dk.below hb (by omega)).far (p := ⟨w.heap.size + 2, 0, none⟩) (by simp) _, (h.res.below hb (by omega)).far (p := ⟨w.heap.size + 2, 0, none⟩) (by simp) _, (h.out.below hb (by omega)).set (k := 0) (by simp) _,
    ho.setCell (p := ⟨w.heap.size + 2, 0, none⟩) (by simp) _, (show Q w w2 from h.q.below.trans (hb.mono (by omega))).setCell (p := ⟨w.heap.size + 2, 0, none⟩) (by simp) _⟩
end
def Wx (W wx : World) : Prop := wx = W
/-- what the document's Crash asks to keep. -/
def vz (ks : List Int) (k : Nat) : Int := if k < ks.length ∧ 0 < ks.getD k 0 then ks.getD k 0 else 0
theorem vz_yes {ks : List Int} {k : Nat} (h : k < ks.length) (h1 : 0 < ks.getD k 0) : vz ks k = ks.getD k 0 := by unfold vz; rw [if_pos ⟨h, h1⟩]
theorem vz_no {ks : List Int} {k : Nat} (h : ¬ (k < ks.length ∧ 0 < ks.getD k 0)) : vz ks k = 0 := by unfold vz; rw [if_neg h]
theorem vz_kp (ks : List Int) (k : Nat) (f : Fil) : 0 ≤ vz ks k ∧ (kp ks k f : Int) = if (f.wt.size : Int) < vz ks k then (f.wt.size : Int) else vz ks k := by
  unfold vz kp
  by_cases h : k < ks.length
  · by_cases h1 : 0 < ks.getD k 0
    · rw [if_pos ⟨h, h1⟩, if_pos h]
      split <;> omega
    · rw [if_neg (by omega), if_pos h]
      split <;> omega
  · rw [if_neg (by omega), if_neg h]
    split <;> omega
def bz (ks : List Int) (k : Nat) : Bool := decide (k < ks.length ∧ 0 < ks.getD k 0)
theorem bz_in {ks : List Int} {k : Nat} (h : k < ks.length) : bz ks k = decide (0 < ks.getD k 0) := by
  unfold bz
  by_cases h1 : 0 < ks.getD k 0
  · rw [decide_eq_true ⟨h, h1⟩, decide_eq_true h1]
  · rw [decide_eq_false (fun x => h1 x.2), decide_eq_false h1]
theorem bz_out {ks : List Int} {k : Nat} (h : ¬ k < ks.length) : bz ks k = false := decide_eq_false (fun x => h x.1)
theorem bz_vz {ks : List Int} {k : Nat} (h : bz ks k = false) : vz ks k = 0 := vz_no (of_decide_eq_false h)
theorem bz_yes {ks : List Int} {k : Nat} (h : bz ks k = true) : k < ks.length ∧ 0 < ks.getD k 0 ∧ vz ks k = ks.getD k 0 := ⟨(of_decide_eq_true h).1, (of_decide_eq_true h).2, vz_yes (of_decide_eq_true h).1 (of_decide_eq_true h).2⟩
theorem bool_eq {a b : Bool} (h : a = b) : Value.bool a = .bool b := by rw [h]
theorem int_eq {a b : Int} (h : a = b) : Value.int .i64 a = .int .i64 b := by rw [h]

set_option maxHeartbeats 4000000 in
theorem ref_crash (A : Option Addr) (n c : Nat) (room fuse : Int) (off : Bool) (K : Option Addr) (kn kc : Nat) (ks : List Int) (l : List Fil) (w : World) (hd : Dsk w A n c l) (hk : Ints w K kn ks) (hkn : kn ≤ maxLen) (hs : ∀ f ∈ l, f.sf.size + f.wt.size ≤ maxLen) :
    Calls Try.prog 25 #[dkv A n c room fuse off, .slice K kn kc] w fun e w' => RetD w (crs ⟨l, room, fuse, off⟩ ks) e w' := by
  have hnm := hd.max
  have hfew := hd.few
  unfold maxLen at hnm hkn
  have HD := Lib.hid hd
  have HK := Lib.hid hk
  have HL := Lib.hid hd.len
  have HKL := Lib.hid hk.len
  have HS := Lib.hid hs
  have S0 := Lib.hid (Sc.new w A n c room fuse off)
  clear hd hk hs
  go_enter Try.func25, Try.ntmps25
  go_wp2
  generalize (((w.alloc (.cells #[.slice A n c, .int .i64 room, .int .i64 fuse, .bool off] 24)).alloc (.cells #[.slice none 0 0, .int .i64 0, .int .i64 0, .bool false] 24)).alloc (.cells #[.slice none 0 0, .int .i64 room, .int .i64 (-1), .bool false] 24)) = W at S0 ⊢
  go_loopw [6] (fun i wr => ∃ (k : Nat) (A2 : Option Addr) (c2 : Nat), k ≤ n ∧ i = .int .i64 k ∧ Sc w A n c room fuse off A2 k c2 (croom ks l room k) (crd ks l k) wr) (fun i _ => n - (intOf i).toNat)
  case atStart => exact ⟨0, none, 0, Nat.zero_le _, rfl, by simpa [croom, crd] using S0.out⟩
  case round =>
    obtain ⟨k, A2, c2, hk, rfl, hsc⟩ := hrel
    have Y := Lib.hid hsc
    clear hsc S0
    obtain ⟨⟨d0, d1, d2, d3⟩, _⟩ := Y.out.dk.get4
    by_cases hlt : k < n
    · have hkl : k < l.length := by have := HL.out; omega
      obtain ⟨ad, rfl, hb, c0, c1, c3⟩ := (HD.out.files.q Y.out.q).load hlt hkl
      have q4 : (k : Int) < (n : Int) := by omega
      have q5 : 0 ≤ (k : Int) := by omega
      have hsz := HS.out l[k] (List.getElem_mem hkl)
      unfold maxLen at hsz
      have hkp := kp_le ks k l[k]
      have z0 : w.heap.size + 2 < wr.heap.size := Y.out.out.lt
      have KF : Hid (k < kn → ∃ ka, K = some ka ∧ (wr.alloc (.cells #[.string l[k].nm, .string l[k].sf, .string l[k].wt] 52)).cell? (ka.add k) = some (.int .i64 (ks.getD k 0))) := Lib.hid (fun h => by
        have h2 : k < ks.length := by have := HKL.out; omega
        obtain ⟨ka, e, _, hc⟩ := (HK.out.q (Y.out.q.alloc (.cells #[.string l[k].nm, .string l[k].sf, .string l[k].wt] 52))).load h2
        exact ⟨ka, e, by rw [hc]; simp [h2]⟩)
      have HVK := Lib.hid (vz_kp ks k l[k])
      have v0 := (vz_kp ks k l[k]).1
      go_upto_region 7 with (fail)
      go_cut [34] (fun s34 wx => s34 = .bool (bz ks k) ∧ Wx (wr.alloc (.cells #[.string l[k].nm, .string l[k].sf, .string l[k].wt] 52)) wx)
      case first =>
        by_cases hkk : k < kn
        · obtain ⟨ka, rfl, kc0⟩ := KF.out hkk
          have hk2 : k < ks.length := by have := HKL.out; omega
          have q6 : (k : Int) < (kn : Int) := by omega
          have HB := Lib.hid (bz_in (ks := ks) hk2)
          generalize ks.getD k 0 = xx at kc0 HB
          by_cases hx : 0 < xx
          · go_wp2
            go_meet
            exact ⟨bool_eq (by rw [HB.out]; simp [hx]), rfl⟩
          · have hx2 : decide ((0 : Int) < xx) = false := by simpa using hx
            go_wp2
            go_meet
            exact ⟨bool_eq (by rw [HB.out]; simp [hx]), rfl⟩
        · have HV := Lib.hid (bz_out (ks := ks) (k := k) (by have := HKL.out; omega))
          go_wp2
          go_meet
          exact ⟨bool_eq (by rw [HV.out]), rfl⟩
      case rest =>
        obtain ⟨rfl, hw⟩ := hcut
        unfold Wx at hw
        subst hw
        go_upto_if 34 with (fail)
        go_cut [8] (fun s8 wx => s8 = .int .i64 (vz ks k) ∧ Wx (wr.alloc (.cells #[.string l[k].nm, .string l[k].sf, .string l[k].wt] 52)) wx)
        case first =>
          cases hbz : bz ks k
          · have HV := Lib.hid (bz_vz hbz)
            clear hbz
            go_wp2
            go_meet
            exact ⟨int_eq HV.out.symm, rfl⟩
          · obtain ⟨hkk, hx, hvx⟩ := bz_yes hbz
            have hkn2 : k < kn := by have := HKL.out; omega
            obtain ⟨ka, rfl, kc0⟩ := KF.out hkn2
            have q6 : (k : Int) < (kn : Int) := by omega
            have HV := Lib.hid hvx
            clear hbz hvx
            generalize ks.getD k 0 = xx at kc0 HV hx
            go_wp2
            go_meet
            exact ⟨int_eq HV.out.symm, rfl⟩
        case rest =>
          obtain ⟨rfl, hw⟩ := hcut
          unfold Wx at hw
          subst hw
          generalize vz ks k = v at HVK v0 ⊢
          clear KF
          go_upto_if 43 with (fail)
          go_cut [8] (fun s8 wx => s8 = .int .i64 (kp ks k l[k] : Int) ∧ Wx (wr.alloc (.cells #[.string l[k].nm, .string l[k].sf, .string l[k].wt] 52)) wx)
          case first =>
            by_cases hv : (l[k].wt.size : Int) < v
            · have HE := Lib.hid (HVK.out.2.trans (if_pos hv))
              go_wp2
              go_meet
              exact ⟨int_eq HE.out.symm, rfl⟩
            · have HE := Lib.hid (HVK.out.2.trans (if_neg hv))
              go_wp2
              go_meet
              exact ⟨int_eq HE.out.symm, rfl⟩
          case rest =>
            obtain ⟨rfl, hw⟩ := hcut
            unfold Wx at hw
            subst hw
            clear HVK v0
            have HF : Hid (crf ks k l[k] = ⟨l[k].nm, l[k].sf ++ l[k].wt.extract 0 (kp ks k l[k]), ⟨#[]⟩⟩) := Lib.hid rfl
            have HR := Lib.hid (croom_succ ks l room k hkl)
            have HC := Lib.hid (crd_succ ks l k hkl)
            have HWL := Lib.hid (wrap_less (croom ks l room k) l[k].wt.size (kp ks k l[k]))
            generalize kp ks k l[k] = y at hkp HF HR HWL ⊢
            obtain ⟨⟨o0, o1, o2, o3⟩, g0, g1, g2, g3⟩ := Y.out.out.get4
            have z1 : w.heap.size + 2 ≠ wr.heap.size := by omega
            go_upto_region 12 with (fail)
            rw [HWL.out, ← HR.out]
            clear HR
            generalize hr3 : croom ks l room (k + 1) = r3
            have HR3 := Lib.hid hr3
            clear hr3
            have Z : Hid (Sc w (some ad) n c room fuse off A2 k c2 r3 (crd ks l k) ((wr.setCell ⟨w.heap.size + 1 + 1, 1, none⟩ (.int .i64 r3)).alloc (.cells #[.string l[k].nm, .string l[k].sf, .string l[k].wt] 52))) := Lib.hid ((Y.out.setRoom r3).step ((Q.refl _).alloc (.cells #[.string l[k].nm, .string l[k].sf, .string l[k].wt] 52)))
            have BF : Hid (Bx ((wr.setCell ⟨w.heap.size + 1 + 1, 1, none⟩ (.int .i64 r3)).alloc (.cells #[.string l[k].nm, .string l[k].sf, .string l[k].wt] 52)) wr.heap.size [.string l[k].nm, .string l[k].sf, .string l[k].wt]) := Lib.hid (by
              have := Bx.new (wr.setCell ⟨w.heap.size + 1 + 1, 1, none⟩ (.int .i64 r3)) [.string l[k].nm, .string l[k].sf, .string l[k].wt] 52
              simpa [World.setCell] using this)
            generalize ((wr.setCell ⟨w.heap.size + 1 + 1, 1, none⟩ (.int .i64 r3)).alloc (.cells #[.string l[k].nm, .string l[k].sf, .string l[k].wt] 52)) = V at Z BF ⊢
            generalize wr.heap.size = gf at BF ⊢
            clear o0 o1 o2 o3 g0 g1 g2 g3 d0 d1 d2 d3 c0 c1 c3 hb z0 z1 Y
            have P0 : Bx V (w.heap.size + 1 + 1) [.slice A2 k c2, .int .i64 r3, .int .i64 (-1), .bool false] := Z.out.out
            obtain ⟨⟨o0, o1, o2, o3⟩, g0, g1, g2, g3⟩ := P0.get4
            clear P0
            obtain ⟨⟨b0, b1, b2⟩, _⟩ := BF.out.get3
            have q6 : (y : Int) ≤ (l[k].wt.size : Int) := by omega
            have q7 : 0 ≤ (y : Int) := by omega
            have q8 : ¬ 9223372036854775807 < l[k].sf.size + y := by omega
            have q9 : y ≤ l[k].wt.size := by omega
            have z5 : w.heap.size + 1 + 1 < V.heap.size := Z.out.out.lt
            have z6 : w.heap.size + 1 + 1 ≠ V.heap.size := by omega
            have z7 : gf < V.heap.size := BF.out.lt
            have z8 : gf ≠ V.heap.size := by omega
            have T1 : Hid (Own ((V.alloc (.cells #[.string l[k].nm, .string (l[k].sf ++ l[k].wt.extract 0 y), .string ⟨#[]⟩] 52)).drew) (w.heap.size + 3) A2 k c2 (crd ks l k)) := Lib.hid ((Z.out.own.alloc _).q (Q.refl _).drew)
            have T2 : Hid (Files ((V.alloc (.cells #[.string l[k].nm, .string (l[k].sf ++ l[k].wt.extract 0 y), .string ⟨#[]⟩] 52)).drew) (some ⟨V.heap.size, 0, none⟩) 1 [⟨l[k].nm, l[k].sf ++ l[k].wt.extract 0 y, ⟨#[]⟩⟩]) := Lib.hid ((files_lit1 V ⟨l[k].nm, l[k].sf ++ l[k].wt.extract 0 y, ⟨#[]⟩⟩).q (Q.refl _).drew)
            have T3 : Hid (w.heap.size + 3 ≤ ((V.alloc (.cells #[.string l[k].nm, .string (l[k].sf ++ l[k].wt.extract 0 y), .string ⟨#[]⟩] 52)).drew).heap.size) := Lib.hid (by have := Z.out.out.lt; simp; omega)
            have T4 : (k + 1) * 48 ≤ 140737488355328 := by omega
            go_region_law ((refine step_app (by rfl) _ _ (by rfl) (w.heap.size + 3) A2 k c2 (crd ks l k) (by rfl) T1.out (some ⟨V.heap.size, 0, none⟩) 1 1 [⟨l[k].nm, l[k].sf ++ l[k].wt.extract 0 y, ⟨#[]⟩⟩] (by rfl) T2.out (fun e => by cases e) T4 T3.out ?_
                            intro A4 c4 w4 ho4 hb4
                            obtain ⟨⟨x0, x1, x2, x3⟩, y0, y1, y2, y3⟩ := (show Bx w4 (w.heap.size + 1 + 1) [.slice A2 k c2, .int .i64 r3, .int .i64 (-1), .bool false] from (((Z.out.out.alloc _).q (Q.refl _).drew).below hb4 (by omega))).get4))
            all_goals
              have U : Hid (Sc w (some ad) n c room fuse off A4 (k + 1) c4 r3 (crd ks l (k + 1)) (w4.setCell ⟨w.heap.size + 1 + 1, 0, none⟩ (.slice A4 (k + 1) c4))) := Lib.hid (by
                rw [HC.out, HF.out]
                exact ((Z.out.step ((Q.refl _).alloc (.cells #[.string l[k].nm, .string (l[k].sf ++ l[k].wt.extract 0 y), .string ⟨#[]⟩] 52))).step (Q.refl _).drew).wrote ho4 hb4)
              clear ho4 hb4 o0 o1 o2 o3 g0 g1 g2 g3 b0 b1 b2 x0 x1 x2 x3 y0 y1 y2 y3
              go_wp2
              go_roundw
              case rel => exact ⟨k + 1, A4, c4, by omega, by go_num, by rw [HR3.out]; exact U.out⟩
              case measure => simp [intOf]; omega
    · have e : n = k := by omega
      subst e
      obtain ⟨⟨o0, o1, o2, o3⟩, _⟩ := (show Bx wr (w.heap.size + 1 + 1) [.slice A2 n c2, .int .i64 (croom ks l room n), .int .i64 (-1), .bool false] from Y.out.out).get4
      obtain ⟨⟨s0, s1, s2, s3⟩, h0, h1, h2, h3⟩ := Y.out.res.get4
      go_wp2
      refine bodyPost_ret (v := dkv A2 n c2 (croom ks l room n) (-1) false) (by simp [results, Try.results25, go_sem, s0, s1, s2, s3]) rfl ?_
      rw [show crs ⟨l, room, fuse, off⟩ ks = ⟨crd ks l n, croom ks l room n, -1, false⟩ by unfold crs; simp only; rw [crd_all, HL.out]]
      exact ⟨A2, n, c2, rfl, (Y.out.own.set4 (b := w.heap.size + 1) (by omega) _ _ _ _).lower (by omega), Y.out.q.set4 (b := w.heap.size + 1) (by omega) _ _ _ _⟩
end Go.Proofs.Ytodfdklcioafmaa

/- Room, and the bytes of all files: together always the same. -/
namespace Go.Proofs.Ytodfdklcioafmaa
set_option maxRecDepth 100000
open Go.RowKit Dkm
set_option linter.unusedVariables false
namespace Dkm
def siz (f : Fil) : Nat := f.sf.size + f.wt.size
def sumF : List Fil → Nat
  | [] => 0
  | f :: l => siz f + sumF l
theorem sum_app (a b : List Fil) : sumF (a ++ b) = sumF a + sumF b := by
  induction a with
  | nil => simp [sumF]
  | cons f a ih => simp only [List.cons_append, sumF, ih]; omega
theorem sum_set {l : List Fil} {k : Nat} (g : Fil) (hk : k < l.length) : sumF (l.set k g) + siz l[k] = sumF l + siz g := by
  have e1 : l.set k g = l.take k ++ g :: l.drop (k + 1) := List.set_eq_take_append_cons_drop.trans (by rw [if_pos hk])
  have e2 : l = l.take k ++ l[k] :: l.drop (k + 1) := by rw [← List.drop_eq_getElem_cons hk, List.take_append_drop]
  have h2 : sumF l = sumF (l.take k) + (siz l[k] + sumF (l.drop (k + 1))) := by conv => lhs; rw [e2, sum_app, sumF]
  rw [e1, sum_app, sumF]; omega
theorem sum_erase {l : List Fil} {k : Nat} (hk : k < l.length) : sumF (l.eraseIdx k) + siz l[k] = sumF l := by
  have e2 : l = l.take k ++ l[k] :: l.drop (k + 1) := by rw [← List.drop_eq_getElem_cons hk, List.take_append_drop]
  have h2 : sumF l = sumF (l.take k) + (siz l[k] + sumF (l.drop (k + 1))) := by conv => lhs; rw [e2, sum_app, sumF]
  rw [List.eraseIdx_eq_take_drop_succ, sum_app]; omega
theorem sum_take {l : List Fil} {k : Nat} (hk : k < l.length) : sumF (l.take (k + 1)) = sumF (l.take k) + siz l[k] := by
  rw [List.take_succ_eq_append_getElem hk, sum_app]; simp [sumF]
theorem sum_take_le (l : List Fil) (k : Nat) : sumF (l.take k) ≤ sumF l := by
  have : sumF l = sumF (l.take k) + sumF (l.drop k) := by rw [← sum_app, List.take_append_drop]
  omega
theorem sum_mem {l : List Fil} {k : Nat} (hk : k < l.length) : siz l[k] ≤ sumF l := by
  have := sum_take hk; have := sum_take_le l (k + 1); omega
/-- together. -/
def tot (d : Dk) : Int := d.room + sumF d.fs
theorem appd_tot (d : Dk) (nm s : ByteArray) (h0 : 0 ≤ d.room) : tot (appd d nm s).1 = tot d ∧ 0 ≤ (appd d nm s).1.room := by
  unfold appd
  split; exact ⟨rfl, h0⟩
  split; exact ⟨rfl, h0⟩
  split; exact ⟨rfl, h0⟩
  split; exact ⟨rfl, h0⟩
  rename_i _ _ h3 _
  have h4 : ¬ d.room < s.size := fun h => h3 (.inr h)
  have hc := cut_size d.fuse s
  unfold tot
  simp only
  refine ⟨?_, by omega⟩
  rcases plc_cases nm d.fs with ⟨_, hall⟩ | ⟨k, hk, _, hkn, hfirst⟩
  · rw [opn_none hall]; unfold put; rw [if_pos rfl, sum_app]
    simp only [sumF, siz, ByteArray.size_append]
    have e : (⟨#[]⟩ : ByteArray).size = 0 := rfl
    simp only [e]; omega
  · rw [opn_at hk hkn hfirst]; unfold put; simp only
    rw [if_neg (by omega)]
    have := sum_set ⟨d.fs[k].nm, d.fs[k].sf, d.fs[k].wt ++ cut d.fuse s⟩ hk
    simp only [siz, ByteArray.size_append] at this
    omega
theorem syn_tot (d : Dk) (nm : ByteArray) : tot (syn d nm).1 = tot d ∧ (syn d nm).1.room = d.room := by
  obtain ⟨l, room, fuse, off⟩ := d
  cases off
  · rcases plc_cases nm l with ⟨hp, hall⟩ | ⟨k, hk, hp, hkn, hfirst⟩
    · rw [syn_none hall]; exact ⟨rfl, rfl⟩
    · rw [syn_at hk hkn hfirst]
      refine ⟨?_, rfl⟩
      have := sum_set ⟨l[k].nm, l[k].sf ++ l[k].wt, ⟨#[]⟩⟩ hk
      have e : (⟨#[]⟩ : ByteArray).size = 0 := rfl
      simp only [siz, ByteArray.size_append, e] at this
      unfold tot; simp only; omega
  · exact ⟨rfl, rfl⟩
theorem pow_tot (d : Dk) : tot (pow d).1 = tot d ∧ (pow d).1.room = d.room := by
  unfold pow; split; exact ⟨rfl, rfl⟩
  split <;> exact ⟨rfl, rfl⟩
theorem lss_tot (d : Dk) {k : Nat} (hk : k < d.fs.length) (h0 : 0 ≤ d.room) (hb : tot d ≤ 1048576) : tot (lss d k) = tot d ∧ 0 ≤ (lss d k).room := by
  have h1 := sum_erase hk
  unfold tot at *
  unfold lss
  simp only [List.getD_eq_getElem?_getD, List.getElem?_eq_getElem hk, Option.getD_some]
  have h2 : siz d.fs[k] = d.fs[k].sf.size + d.fs[k].wt.size := rfl
  rw [wrap_in (by omega)]
  omega
theorem nmd_tot (d : Dk) {k : Nat} (hk : k < d.fs.length) (tu : ByteArray) : tot (nmd d k tu) = tot d ∧ (nmd d k tu).room = d.room := by
  refine ⟨?_, rfl⟩
  have := sum_set ⟨tu, d.fs[k].sf, d.fs[k].wt⟩ hk
  unfold tot nmd
  simp only [List.getD_eq_getElem?_getD, List.getElem?_eq_getElem hk, Option.getD_some]
  simp only [siz] at this
  omega
theorem opn_lt {nm : ByteArray} {l : List Fil} (h : (hit nm l).2 = true) : (opn nm l).2 < l.length := by
  rcases plc_cases nm l with ⟨_, hall⟩ | ⟨k, hk, _, hkn, hfirst⟩
  · rw [hit_none hall] at h; cases h
  · rw [opn_at hk hkn hfirst]; exact hk
theorem del_tot (d : Dk) (nm : ByteArray) (h0 : 0 ≤ d.room) (hb : tot d ≤ 1048576) : tot (del d nm).1 = tot d ∧ 0 ≤ (del d nm).1.room := by
  have hp := pow_tot d
  unfold del
  split; exact ⟨rfl, h0⟩
  split; exact ⟨rfl, h0⟩
  split; exact ⟨hp.1, by rw [hp.2]; exact h0⟩
  rename_i _ h2 _
  have hl := opn_lt (nm := nm) (l := d.fs) (by simpa using h2)
  have := lss_tot (pow d).1 (k := (opn nm d.fs).2) (by rw [pow_fs]; exact hl) (by rw [hp.2]; exact h0) (by rw [hp.1]; exact hb)
  exact ⟨this.1.trans hp.1, this.2⟩
theorem ren_tot (d : Dk) (fr tu : ByteArray) (h0 : 0 ≤ d.room) (hb : tot d ≤ 1048576) : tot (ren d fr tu).1 = tot d ∧ 0 ≤ (ren d fr tu).1.room := by
  have hp := pow_tot d
  unfold ren
  split; exact ⟨rfl, h0⟩
  split; exact ⟨rfl, h0⟩
  split; exact ⟨rfl, h0⟩
  split; exact ⟨rfl, h0⟩
  split; exact ⟨hp.1, by rw [hp.2]; exact h0⟩
  rename_i _ _ h3 _ _
  have hl := opn_lt (nm := fr) (l := d.fs) (by simpa using h3)
  have hn := nmd_tot (pow d).1 (k := (opn fr d.fs).2) (by rw [pow_fs]; exact hl) tu
  split
  · rename_i h5
    have hl2 := opn_lt (nm := tu) (l := d.fs) h5
    have := lss_tot (nmd (pow d).1 (opn fr d.fs).2 tu) (k := (opn tu d.fs).2) (by rw [nmd_len, pow_fs]; exact hl2) (by rw [hn.2, hp.2]; exact h0) (by rw [hn.1, hp.1]; exact hb)
    exact ⟨this.1.trans (hn.1.trans hp.1), this.2⟩
  · exact ⟨hn.1.trans hp.1, by rw [hn.2, hp.2]; exact h0⟩
theorem crl_tot (ks : List Int) (l : List Fil) (room : Int) (h0 : 0 ≤ room) (hb : room + sumF l ≤ 1048576) : ∀ k, k ≤ l.length → croom ks l room k + sumF (crl ks l k) = room + sumF l ∧ 0 ≤ croom ks l room k
  | 0, _ => by rw [crl_zero]; exact ⟨rfl, h0⟩
  | k + 1, hk => by
    have hkl : k < l.length := by omega
    obtain ⟨h1, h2⟩ := crl_tot ks l room h0 hb k (by omega)
    have hlt : k < (crl ks l k).length := by rw [crl_len]; exact hkl
    have hs := sum_set (crf ks k l[k]) hlt
    have hm := sum_mem hlt
    have hkp := kp_le ks k l[k]
    rw [crl_get ks l k hkl] at hs hm
    have e : (⟨#[]⟩ : ByteArray).size = 0 := rfl
    have e1 : siz (crf ks k l[k]) = l[k].sf.size + kp ks k l[k] := by
      unfold siz crf; simp only [ByteArray.size_append, ByteArray.size_extract, e]; omega
    have e2 : siz l[k] = l[k].sf.size + l[k].wt.size := rfl
    rw [crl_succ ks l k hkl, croom_succ ks l room k hkl, wrap_in (by omega)]
    omega
theorem crs_tot (d : Dk) (ks : List Int) (h0 : 0 ≤ d.room) (hb : tot d ≤ 1048576) : tot (crs d ks) = tot d ∧ 0 ≤ (crs d ks).room := crl_tot ks d.fs d.room h0 hb _ (Nat.le_refl _)
theorem does_tot (d : Dk) (kind num : Int) (nm s : ByteArray) (h0 : 0 ≤ d.room) (hb : tot d ≤ 1048576) : tot (doesM d kind num nm s).1 = tot d ∧ 0 ≤ (doesM d kind num nm s).1.room := by
  unfold doesM
  split; exact appd_tot d nm s h0
  split; exact ⟨(syn_tot d nm).1, by rw [(syn_tot d nm).2]; exact h0⟩
  split; exact ren_tot d nm s h0 hb
  split; exact del_tot d nm h0 hb
  split; exact crs_tot d _ h0 hb
  split <;> exact ⟨rfl, h0⟩
end Dkm
end Go.Proofs.Ytodfdklcioafmaa

/- A disk in a law's variable, its list elsewhere. -/
namespace Go.Proofs.Ytodfdklcioafmaa
set_option maxRecDepth 100000
open Go.RowKit Dkm
set_option linter.unusedVariables false

structure DVA (W : World) (B : Nat) (A : Option Addr) (n c : Nat) (d : Dk) : Prop where
  dv : DV W B A n c d
  away : ∀ ad, A = some ad → ad.block ≠ B
theorem DVA.q {W W' : World} {B : Nat} {A : Option Addr} {n c : Nat} {d : Dk} (h : DVA W B A n c d) (hq : Q W W') : DVA W' B A n c d := ⟨h.dv.q hq, h.away⟩
theorem DVA.put {W W' : World} {B : Nat} {A A' : Option Addr} {n c n' c' : Nat} {d d' : Dk} (h : DVA W B A n c d) (hq : Q W W') (hd : Dsk W' A' n' c' d'.fs) (ha : A' = A ∨ ∀ ad, A' = some ad → W.heap.size ≤ ad.block) :
    DVA ((((W'.setCell ⟨B, 0, none⟩ (.slice A' n' c')).setCell ⟨B, 1, none⟩ (.int .i64 d'.room)).setCell ⟨B, 2, none⟩ (.int .i64 d'.fuse)).setCell ⟨B, 3, none⟩ (.bool d'.off)) B A' n' c' d' := by
  have hlt := h.dv.box.lt
  have haw : ∀ ad, A' = some ad → ad.block ≠ B := by
    intro ad e
    rcases ha with rfl | ha
    · exact h.away ad e
    · have := ha ad e; omega
  exact ⟨⟨(h.dv.box.q hq).put4 _ _ _ _, (((hd.away haw 0 _).away haw 1 _).away haw 2 _).away haw 3 _⟩, haw⟩

/-- behind 'd, _ = does(d, ..)': the variable has what the act made of the disk. -/
def Cu (w : World) (B : Nat) (r : Dk) (wx : World) : Prop := ∃ A n c, DVA wx B A n c r ∧ Q w wx
end Go.Proofs.Ytodfdklcioafmaa

/- The frame of a law's second form, where its row lists no table. -/
namespace Go.Proofs.Ytodfdklcioafmaa
set_option maxRecDepth 100000
open Go.ChangeShapes Go.WideShapes Go.ChangeAt Go.RowKit
set_option linter.unusedVariables false

theorem framedU {f : FuncId} {fn : Func} {s : ChangeSpec} {conds : List PathCond} (n : Nat) (hfn : Try.prog.funcs[f]? = some fn) (hn : fn.params.size = n) (hvars : s.vars = []) (hrt : fn.resultTypes = #[4])
    (noInit : Try.prog.inits.idxOf? f = none) (hread0 : fn.params.toList.all (fun t => Try.prog.readableRec t && decide (t < Try.prog.types.size)) = true)
    (hs : ∀ (H : Type) (ds : List (DataW H)), ds.length = n → (s.fn H ds).results = [.lit (.bool true)] ∧ (s.fn H ds).args = ds ∧ (s.fn H ds).vars = [])
    (walk : ∀ (W : World) (args : Array Value), args.size = n → (∀ (j : Nat) t v, fn.params[j]? = some t → args[j]? = some v → RdV W t v ∧ (true = true → RdU W t v.cells.toList)) → Calls Try.prog f args W fun e W' => e = .returned (.bool true) ∧ Q W W')
    (os : Os) (started : os.Started) (H : Type) (enc : TypeId × Value → H) (F : Stop.Interp)
    (witness : ∃ (w : World) (tape : Tape) (i : Input), w.os = os ∧ (w.forCall tape i).Shaped Try.prog ∧ i.vars = [] ∧ Input.okWide Try.prog (w.forCall tape i) .any w.heap.size f i ∧
      (Rows.OpenSpec.upto s).pre6 enc Try.prog fn conds false (w.forCall tape i).memory i.args ∧ ({} : Assume).holds Try.prog (lone (Frame.enter Try.prog f i.args .normal) [] (w.forCall tape i))) :
    ReturnsInHanded {} Try.checked os f .any ((Rows.OpenSpec.upto s).pre6 enc Try.prog fn conds false) (((Rows.OpenSpec.upto s).at F).post enc Try.prog fn false true false false) := by
  refine returnsInHanded_of_cond_sized (C := Try.checked) (s := Rows.OpenSpec.upto s) (k := Rows.uptoSmall) rfl ownKnob_ started noInit hfn witness ?_
  intro W base args ds gs before hval hW _ hk hsz _
  exact coreU (s := s) true n hn hvars hrt hread0 hs H enc W base args ds gs before hval hW (fun _ => of_decide_eq_true hk) hsz fun h1 h2 => walk W args h1 h2
end Go.Proofs.Ytodfdklcioafmaa

/- Kinds of elements that lie flat in memory: lists of them as they come in ('Lst', 'In_'), lists of the call's own ('OwnK'), append to these. -/
namespace Go.Proofs.Ytodfdklcioafmaa
set_option maxRecDepth 100000
open Go.RowKit
set_option linter.unusedVariables false

structure Kind (α : Type) where
  T : TypeId
  S : TypeId
  k : Nat
  bs : Nat
  z : Value
  row : α → List Value
  pos : 0 < k
  bpos : 0 < bs
  len : ∀ a, (row a).length = k
  one : ∀ a, ∀ u ∈ row a, u.oneCell' = true
  und : Try.prog.underlying S = some (.slice T)
  info : (Try.prog.info? T).map (fun i => (i.zero, i.size, i.bytes)) = some (some z, k, bs)
  zc : z.cells.size = k

variable {α : Type}

def Kind.rows (K : Kind α) : List α → List Value
  | [] => []
  | a :: l => K.row a ++ K.rows l

theorem Kind.rows_len (K : Kind α) (l : List α) : (K.rows l).length = l.length * K.k := by
  induction l with
  | nil => simp [Kind.rows]
  | cons a l ih => simp only [Kind.rows, List.length_append, ih, List.length_cons, K.len, Nat.add_mul]; omega
theorem Kind.rows_app (K : Kind α) (l m : List α) : K.rows (l ++ m) = K.rows l ++ K.rows m := by
  induction l with
  | nil => rfl
  | cons a l ih => simp [Kind.rows, ih]
theorem Kind.rows_at (K : Kind α) (l : List α) (k : Nat) (h : k < l.length) (j : Nat) (hj : j < K.k) : (K.rows l)[k * K.k + j]? = (K.row l[k])[j]? := by
  induction l generalizing k with
  | nil => simp at h
  | cons a l ih =>
    cases k with
    | zero =>
      simp only [Kind.rows, Nat.zero_mul, Nat.zero_add, List.getElem_cons_zero]
      exact List.getElem?_append_left (by rw [K.len]; exact hj)
    | succ k =>
      simp only [Kind.rows, List.getElem_cons_succ]
      rw [List.getElem?_append_right (by rw [K.len, Nat.add_mul]; omega), ← ih k (by simpa using h)]
      congr 1
      rw [K.len, Nat.add_mul]; omega
theorem Kind.rows_one (K : Kind α) (l : List α) : ∀ u ∈ K.rows l, u.oneCell' = true := by
  induction l with
  | nil => simp [Kind.rows]
  | cons a l ih =>
    intro u hu
    rcases List.mem_append.1 hu with h | h
    · exact K.one a u h
    · exact ih u h
theorem Kind.rows_drop (K : Kind α) (l : List α) : ∀ (m : Nat), K.rows (l.drop m) = (K.rows l).drop (m * K.k) := by
  induction l with
  | nil => intro m; simp [Kind.rows]
  | cons f l ih =>
    intro m
    cases m with
    | zero => simp
    | succ m =>
      rw [List.drop_succ_cons, ih m, Kind.rows, show (m + 1) * K.k = (K.row f).length + m * K.k by rw [K.len, Nat.add_mul]; omega, List.drop_length_add_append]
theorem Kind.rows_take (K : Kind α) (l : List α) : ∀ (m : Nat), K.rows (l.take m) = (K.rows l).take (m * K.k) := by
  induction l with
  | nil => intro m; simp [Kind.rows]
  | cons f l ih =>
    intro m
    cases m with
    | zero => simp [Kind.rows]
    | succ m =>
      rw [List.take_succ_cons, Kind.rows, ih m, Kind.rows, show (m + 1) * K.k = (K.row f).length + m * K.k by rw [K.len, Nat.add_mul]; omega, List.take_length_add_append]
theorem Kind.rows_set (K : Kind α) (l : List α) (k : Nat) (h : k < l.length) (a : α) : (K.rows l).take (k * K.k) ++ K.row a ++ (K.rows l).drop (k * K.k + (K.row a).length) = K.rows (l.set k a) := by
  have e : l.set k a = l.take k ++ (a :: l.drop (k + 1)) := by
    rw [List.set_eq_take_append_cons_drop, if_pos h]
  rw [e, K.rows_app, Kind.rows, K.rows_take, K.rows_drop, K.len, Nat.add_mul]
  simp

/-- The slice '.slice A n _' reads as l. -/
def Lst (K : Kind α) (w : World) (A : Option Addr) (n : Nat) (l : List α) : Prop := Holds w w.heap.size K.k A n (K.rows l)
theorem Lst.q {K : Kind α} {w w' : World} {A : Option Addr} {n : Nat} {l : List α} (h : Lst K w A n l) (hq : Q w w') : Lst K w' A n l := Holds.q h hq
theorem Lst.len {K : Kind α} {w : World} {A : Option Addr} {n : Nat} {l : List α} (h : Lst K w A n l) : l.length = n := by
  have := h.1; rw [K.rows_len] at this
  exact Nat.eq_of_mul_eq_mul_right K.pos this
theorem Lst.nil {K : Kind α} (w : World) (A : Option Addr) : Lst K w A 0 [] := Holds.none_ _ _ _ _

/-- What a load of the element in place k reads. -/
theorem Lst.load {K : Kind α} {w : World} {A : Option Addr} {n : Nat} {l : List α} (h : Lst K w A n l) {k : Nat} (hk : k < n) (hl : k < l.length) :
    ∃ ad, A = some ad ∧ ad.block < w.heap.size ∧ ∀ j v, (K.row l[k])[j]? = some v → w.cell? ((ad.add (k * K.k)).add j) = some v := by
  have h0 : ∀ j v, (K.row l[k])[j]? = some v → ∃ ad, A = some ad ∧ ad.block < w.heap.size ∧ w.cell? (ad.add (k * K.k + j)) = some v := fun j v hj =>
    h.2 (k * K.k + j) _ (by rw [K.rows_at l k hl j (by rw [← K.len l[k]]; exact (List.getElem?_eq_some_iff.1 hj).1)]; exact hj)
  obtain ⟨ad, rfl, hb, _⟩ := h0 0 _ (List.getElem?_eq_getElem (by rw [K.len]; exact K.pos))
  refine ⟨ad, rfl, hb, fun j v hj => ?_⟩
  obtain ⟨_, e, _, hc⟩ := h0 j v hj
  injection e with e
  subst e
  rw [addr_add]; exact hc

/-- a list of the call's own. -/
def OwnK (K : Kind α) (w : World) (base : Nat) (A : Option Addr) (n c : Nat) (l : List α) : Prop := w.ownsRow base K.T K.k (.slice A n c) n (K.rows l)

/-- a list as it comes in. -/
structure In_ (K : Kind α) (w : World) (A : Option Addr) (n c : Nat) (l : List α) : Prop where
  lst : Lst K w A n l
  nil : A = none → n = 0 ∧ c = 0
  le : n ≤ c
  cap : c ≤ maxLen
  few : n * K.bs ≤ 140737488355328
theorem In_.len {K : Kind α} {w : World} {A : Option Addr} {n c : Nat} {l : List α} (h : In_ K w A n c l) : l.length = n := h.lst.len
theorem In_.q {K : Kind α} {w w' : World} {A : Option Addr} {n c : Nat} {l : List α} (h : In_ K w A n c l) (hq : Q w w') : In_ K w' A n c l := ⟨h.lst.q hq, h.nil, h.le, h.cap, h.few⟩
theorem In_.max {K : Kind α} {w : World} {A : Option Addr} {n c : Nat} {l : List α} (h : In_ K w A n c l) : n ≤ maxLen := Nat.le_trans h.le h.cap
theorem In_.none_ (K : Kind α) (w : World) : In_ K w none 0 0 [] := ⟨Lst.nil w _, fun _ => ⟨rfl, rfl⟩, Nat.le_refl _, Nat.zero_le _, by simp⟩

section
variable {K : Kind α} {w w' : World} {base : Nat} {A : Option Addr} {n c : Nat} {l : List α}
theorem OwnK.len (h : OwnK K w base A n c l) : l.length = n := by
  have := h.1; rw [K.rows_len] at this
  exact Nat.eq_of_mul_eq_mul_right K.pos this
theorem OwnK.parts (h : OwnK K w base A n c l) :
    (A = none ∧ n = 0 ∧ c = 0 ∧ l = []) ∨ ∃ g cur, A = some ⟨g, 0, none⟩ ∧ base ≤ g ∧ w.heap[g]? = some (.cells cur K.T (0, 0)) ∧ n ≤ c ∧ c ≤ maxLen ∧ cur.size = c * K.k ∧ cur.toList.take (n * K.k) = K.rows l := by
  rcases h.2 with ⟨e, h0⟩ | ⟨g, cap, cur, e, hb, hh, hc, hm, hs, ht⟩
  · injection e with e1 e2 e3
    exact .inl ⟨e1, e2, e3, List.eq_nil_of_length_eq_zero (by rw [h.len]; exact e2)⟩
  · injection e with e1 e2 e3
    subst e1 e3
    exact .inr ⟨g, cur, rfl, hb, hh, hc, hm, hs, ht⟩
theorem OwnK.lst (h : OwnK K w base A n c l) : Lst K w A n l := by
  refine ⟨h.1, fun j u hu => ?_⟩
  rcases h.parts with ⟨rfl, rfl, rfl, rfl⟩ | ⟨g, cur, rfl, hb, hh, hc, hm, hs, ht⟩
  · simp [Kind.rows] at hu
  · have hj : j < n * K.k := by
      have := (List.getElem?_eq_some_iff.1 hu).1; rw [h.1] at this; exact this
    refine ⟨_, rfl, ?_, ?_⟩
    · rcases Nat.lt_or_ge g w.heap.size with hlt | hge
      · exact hlt
      · rw [Array.getElem?_eq_none hge] at hh; cases hh
    · rw [Addr.add_mid, Nat.zero_add, World.ownsRow.cellAt h j hj]; exact hu
theorem OwnK.in_ (h : OwnK K w base A n c l) (hn : n * K.bs ≤ 140737488355328) : In_ K w A n c l := by
  refine ⟨h.lst, ?_, ?_, ?_, hn⟩ <;> rcases h.parts with ⟨rfl, rfl, rfl, rfl⟩ | ⟨g, cur, rfl, hb, hh, hc, hm, hs, ht⟩
  · intro _; exact ⟨rfl, rfl⟩
  · intro e; cases e
  · exact Nat.le_refl _
  · exact hc
  · exact Nat.zero_le _
  · exact hm
theorem OwnK.le (h : OwnK K w base A n c l) : n ≤ c := by
  rcases h.parts with ⟨rfl, rfl, rfl, rfl⟩ | ⟨g, cur, rfl, hb, hh, hc, hm, hs, ht⟩
  · exact Nat.le_refl _
  · exact hc
theorem OwnK.cap (h : OwnK K w base A n c l) : c ≤ maxLen := by
  rcases h.parts with ⟨rfl, rfl, rfl, rfl⟩ | ⟨g, cur, rfl, hb, hh, hc, hm, hs, ht⟩
  · exact Nat.zero_le _
  · exact hm
theorem OwnK.keep {B : Nat} (h : OwnK K w base A n c l) (hb : Below B w w') (hB : w.heap.size ≤ B) : OwnK K w' base A n c l := by
  refine ⟨h.1, ?_⟩
  rcases h.2 with ⟨e, h0⟩ | ⟨g, cap, cur, e, hg, hh, r⟩
  · exact .inl ⟨e, h0⟩
  · have hlt : g < w.heap.size := by
      rcases Nat.lt_or_ge g w.heap.size with hlt | hge
      · exact hlt
      · rw [Array.getElem?_eq_none hge] at hh; cases hh
    exact .inr ⟨g, cap, cur, e, hg, (hb.block g (by omega)).trans hh, r⟩
theorem OwnK.q (h : OwnK K w base A n c l) (hq : Q w w') : OwnK K w' base A n c l := h.keep hq.below (Nat.le_refl _)
theorem OwnK.setCell (h : OwnK K w base A n c l) {p : Addr} (hp : p.block < base) (u : Value) : OwnK K (w.setCell p u) base A n c l := by
  refine ⟨h.1, ?_⟩
  rcases h.2 with ⟨e, h0⟩ | ⟨g, cap, cur, e, hg, hh, r⟩
  · exact .inl ⟨e, h0⟩
  · exact .inr ⟨g, cap, cur, e, hg, (heap_setCell_other w p g u (by omega)).trans hh, r⟩
theorem OwnK.alloc (h : OwnK K w base A n c l) (o : Obj) : OwnK K (w.alloc o) base A n c l := h.q ((Q.refl _).alloc o)
theorem OwnK.drew (h : OwnK K w base A n c l) : OwnK K w.drew base A n c l := h
theorem OwnK.lower {b2 : Nat} (h : OwnK K w base A n c l) (hb : b2 ≤ base) : OwnK K w b2 A n c l := by
  refine ⟨h.1, ?_⟩
  rcases h.2 with ⟨e, h0⟩ | ⟨g, cap, cur, e, hg, hh, r⟩
  · exact .inl ⟨e, h0⟩
  · exact .inr ⟨g, cap, cur, e, by omega, hh, r⟩
theorem OwnK.nil_ (K : Kind α) (w : World) (base : Nat) : OwnK K w base none 0 0 [] := World.ownsRow_nil _ _ _ _
theorem OwnK.lit0 (K : Kind α) (w : World) (base : Nat) (hb : base ≤ w.heap.size) : OwnK K (w.alloc (.cells #[] K.T)) base (some ⟨w.heap.size, 0, none⟩) 0 0 [] :=
  World.ownsRow_lit w #[] 0 hb (Nat.zero_le _) (by simp)
theorem OwnK.lit1 (K : Kind α) (w : World) (base : Nat) (hb : base ≤ w.heap.size) (a : α) : OwnK K (w.alloc (.cells (K.row a).toArray K.T)) base (some ⟨w.heap.size, 0, none⟩) 1 1 [a] := by
  have := World.ownsRow_lit (e := K.T) (size := K.k) w (K.row a).toArray 1 hb (by unfold maxLen; omega) (by simp [K.len])
  unfold OwnK
  rw [show K.rows [a] = (K.row a).toArray.toList by simp [Kind.rows]]
  exact this
theorem OwnK.block_lt {g : Nat} (h : OwnK K w base (some ⟨g, 0, none⟩) n c l) : base ≤ g ∧ g < w.heap.size := by
  rcases h.parts with ⟨e, _⟩ | ⟨g', cur, e, hb, hh, _⟩
  · cases e
  · injection e with e
    injection e with e
    subst e
    refine ⟨hb, ?_⟩
    rcases Nat.lt_or_ge g w.heap.size with hlt | hge
    · exact hlt
    · rw [Array.getElem?_eq_none hge] at hh; cases hh
/-- the cells of the element in place k. -/
theorem OwnK.cells {g : Nat} (h : OwnK K w base (some ⟨g, 0, none⟩) n c l) {k : Nat} (hk : k < l.length) : ∀ j v, (K.row l[k])[j]? = some v → w.cell? ⟨g, k * K.k + j, none⟩ = some v := fun j v hj => by
  have hjk : j < K.k := by rw [← K.len l[k]]; exact (List.getElem?_eq_some_iff.1 hj).1
  have hn := h.len
  have : k * K.k + j < n * K.k := by
    have : (k + 1) * K.k ≤ n * K.k := Nat.mul_le_mul_right _ (by omega)
    rw [Nat.add_mul] at this; omega
  rw [World.ownsRow.cellAt h _ this, K.rows_at l k hk j hjk]
  exact hj
theorem OwnK.free {g : Nat} (h : OwnK K w base (some ⟨g, 0, none⟩) n c l) (j : Nat) : w.frozen? ⟨g, j, none⟩ = false := World.ownsRow.frozenAt h _
theorem OwnK.spare {g : Nat} (h : OwnK K w base (some ⟨g, 0, none⟩) n c l) (j : Nat) (hj : j < c * K.k) : (w.cell? ⟨g, j, none⟩).isSome = true := by
  rcases h.parts with ⟨e, _⟩ | ⟨g', cur, e, hb, hh, hc, hm, hs, ht⟩
  · cases e
  injection e with e
  injection e with e
  subst e
  rw [cell_of_row _ _ j _ K.T (0, 0) hh, Array.getElem?_eq_getElem (by omega)]
  rfl
/-- an element written in place. -/
theorem OwnK.put {g : Nat} (h : OwnK K w base (some ⟨g, 0, none⟩) n c l) {k : Nat} (hk : k < l.length) (a : α) :
    OwnK K (w.setCells g (k * K.k) (K.row a)) base (some ⟨g, 0, none⟩) n c (l.set k a) := by
  have hl : k * K.k + (K.row a).length ≤ (K.rows l).length := by
    rw [K.len, K.rows_len]
    have : (k + 1) * K.k ≤ l.length * K.k := Nat.mul_le_mul_right _ (by omega)
    rw [Nat.add_mul] at this; omega
  have := owns_setCells (e := K.T) (sz := K.k) (K.row a) (k * K.k) w (K.rows l) h hl
  rw [K.rows_set l k hk a] at this
  exact this
theorem OwnK.below_set {g : Nat} (h : OwnK K w base (some ⟨g, 0, none⟩) n c l) {a0 : World} (ha : Below base a0 w) : ∀ (vs : List Value) (o : Nat), Below base a0 (w.setCells g o vs) := by
  have hg := h.block_lt.1
  clear h
  intro vs
  induction vs generalizing w with
  | nil => intro o; exact ha
  | cons v r ih => intro o; exact ih (ha.setCell (p := ⟨g, o, none⟩) hg v) (o + 1)
end

/-- 'append(own, more...)', the source nil or not. -/
theorem run_appK (K : Kind α) (w : World) (base : Nat) (A : Option Addr) (n c : Nat) (l : List α) (h : OwnK K w base A n c l) (A2 : Option Addr) (m c2 : Nat) (l2 : List α) (h2 : Lst K w A2 m l2) (hnil : A2 = none → m = 0 ∧ c2 = 0)
    (hb : (n + m) * K.bs ≤ 140737488355328) (hbase : base ≤ w.heap.size) (ty : TypeId) :
    ∃ A' c' w', (Builtin.append_ #[K.S, K.S] ty #[.slice A n c, .slice A2 m c2]).run Try.prog w = .ok (.slice A' (n + m) c') w' ∧ OwnK K w' base A' (n + m) c' (l ++ l2) ∧ Below base w w' := by
  obtain ⟨i, hi, hz, hs, hy⟩ := info_parts K.info
  have hmax : n + m ≤ maxLen := by
    have : (n + m) * 1 ≤ (n + m) * K.bs := Nat.mul_le_mul_left _ K.bpos
    unfold maxLen; omega
  cases A2 with
  | none =>
    obtain ⟨rfl, rfl⟩ := hnil rfl
    have e2 : l2 = [] := List.eq_nil_of_length_eq_zero h2.len
    subst e2
    refine ⟨A, c, w, run_append_owned_none (P := Try.prog) (w := w) base _ ty K.T i K.k K.und hi _ n (K.rows l) h, by simpa using h, Below.refl _ _⟩
  | some ad =>
    obtain ⟨v', w', hr, ho, hg, hn, hat⟩ := run_append_own_at (P := Try.prog) w base K.S ty K.T i _ K.k K.bs K.und hi hz hs hy K.zc K.pos (.slice A n c) n (K.rows l) h ad m c2 (K.rows l2) h2.1
      (fun j u hu => by obtain ⟨a', e, _, hc⟩ := h2.2 j u hu; injection e with e; subst e; exact hc) (K.rows_one l2) hmax hb hbase
    rw [← K.rows_app] at ho
    have hbl : Below base w w' := (Below.refl _ _).grown hg hbase (fun k hk => by
      rcases h.parts with ⟨rfl, _⟩ | ⟨g, cur, rfl, hb, _⟩
      · cases hk
      · simp only [Value.ownBlock, Option.some.injEq] at hk; omega)
    rcases ho.2 with ⟨e, h0⟩ | ⟨g, cap, cur, e, _⟩
    · have h00 : Value.slice none 0 0 = .slice none (n + m) 0 := by rw [h0]
      rw [h00] at e
      subst e
      exact ⟨none, 0, w', hr, ho, hbl⟩
    · subst e
      exact ⟨_, cap, w', hr, ho, hbl⟩

/-- The same, for a plain region's list. -/
theorem wpl_appK (K : Kind α) {w : World} {ops : Array Oper} {rest : List Oper} {o : Oper} {a : Act} {R : Exit → Act → World → Prop} (hgd : o.guard = none) (s x : Operand) (t : TypeId) (ht : t = K.S)
    (ho : o.op = .call { callee := .builtin .append, args := #[s, x], argTypes := #[t, t] })
    (base : Nat) (A : Option Addr) (n c : Nat) (l : List α) (hs : a.eval s = .slice A n c) (h : OwnK K w base A n c l) (A2 : Option Addr) (m c2 : Nat) (l2 : List α) (hx : a.eval x = .slice A2 m c2) (h2 : Lst K w A2 m l2) (hnil : A2 = none → m = 0 ∧ c2 = 0)
    (hb : (n + m) * K.bs ≤ 140737488355328) (hbase : base ≤ w.heap.size)
    (hk : ∀ A' c' w', OwnK K w' base A' (n + m) c' (l ++ l2) → Below base w w' → wpList Try.prog ops R rest (a.put o.dst (.slice A' (n + m) c')) w') : wpList Try.prog ops R (o :: rest) a w := by
  subst ht
  refine wpList_plain hgd fun X hX => ?_
  obtain ⟨A', c', w', hr, h3, h4⟩ := run_appK K w base A n c l h A2 m c2 l2 h2 hnil hb hbase o.type
  unfold Oper.wp execOp
  simp only [ho, resolve, invoke, builtin, Sem.run_bind, Sem.run_pure, Result.andThen_ok, List.map_toArray, List.map_cons, List.map_nil, hs, hx, hr]
  exact hX _ _ (hk A' c' w' h3 h4)

/-- a call's own list, told by its ending. -/
def RetL (K : Kind α) (w : World) (n : Nat) (l : List α) (e : Ending) (w' : World) : Prop :=
  ∃ A' c', e = .returned (.slice A' n c') ∧ OwnK K w' w.heap.size A' n c' l ∧ Q w w'
def RetB (K : Kind α) (w : World) (base n : Nat) (l : List α) (e : Ending) (w' : World) : Prop :=
  ∃ A' c', e = .returned (.slice A' n c') ∧ OwnK K w' base A' n c' l ∧ Below base w w'

theorem eql_nilK (t : TypeId) (e : TypeId) (ht : Try.prog.underlying t = some (.slice e)) (W : World) (A : Option Addr) (n c : Nat) : (binOp .eql t (.slice A n c) (.slice none 0 0)).run Try.prog W = .ok (.bool A.isNone) W := by
  have h : ∀ d, (Op.equalIn (d + 1) t (.slice A n c) (.slice none 0 0)).run Try.prog W = .ok A.isNone W := by
    intro d
    cases A <;> simp [Op.equalIn, run_underlying ht]
  have h2 : (Op.equal t (.slice A n c) (.slice none 0 0)).run Try.prog W = .ok A.isNone W := h 9999
  simp [binOp, h2]
end Go.Proofs.Ytodfdklcioafmaa

/- What comes in: a list of a kind of elements, opened out of a reading. -/
namespace Go.Proofs.Ytodfdklcioafmaa
set_option maxRecDepth 100000
open Go.ChangeShapes Go.WideShapes Go.RowKit
set_option linter.unusedVariables false

theorem Kind.rows_flat {α : Type} (K : Kind α) (l : List α) : K.rows l = l.flatMap K.row := by
  induction l with
  | nil => rfl
  | cons f l ih => rw [Kind.rows, ih, List.flatMap_cons]
theorem open_kind {α : Type} (K : Kind α) (P : α → Prop) {w : World} (hel : ∀ cs, Rd w K.T cs → ∃ a, cs = K.row a ∧ P a) (hby : Try.prog.bytesOf K.T = K.bs) (hce : Try.prog.cellsOf K.T = K.k) {cs : List Value} (h : Rd w K.S cs) :
    ∃ A n c l, cs = [.slice A n c] ∧ In_ K w A n c l ∧ n * K.bs ≤ 140737488351232 ∧ ∀ a ∈ l, P a := by
  rcases h.slice K.und with rfl | ⟨a, len, cap, rfl, hlc, hcm, hb, hi⟩
  · exact ⟨none, 0, 0, [], rfl, In_.none_ K w, by simp, by simp⟩
  · rw [hby] at hb
    rw [hce] at hi
    have hlb : len * K.bs ≤ cap * K.bs := Nat.mul_le_mul_right _ hlc
    obtain ⟨l, hl, hr⟩ := choose_list (R := fun i (f : α) => w.cells? 0 (a.add (i * K.k)) K.k = some (K.row f) ∧ P f) len (fun i hlt => by
      obtain ⟨cs', hc, hrd⟩ := hi i (by omega)
      obtain ⟨f, rfl, hf⟩ := hel cs' hrd
      exact ⟨f, hc, hf⟩)
    refine ⟨some a, len, cap, l, rfl, ⟨?_, fun e => by (cases e), hlc, hcm, by omega⟩, by omega, fun f hf => ?_⟩
    · have := holds_flat K.row K.k K.len w a l (fun i hi => (hr i hi).1)
      rw [hl, ← K.rows_flat] at this
      exact this
    · obtain ⟨i, hi, rfl⟩ := List.getElem_of_mem hf
      exact (hr i hi).2
theorem small_list {α : Type} {K : Kind α} {w : World} {A : Option Addr} {n c : Nat} {l : List α} (h : In_ K w A n c l) (hc : ∀ a, A = some a → c ≤ 1048576) : n ≤ 1048576 := by
  have := h.le
  cases A with
  | none => have := (h.nil rfl).1; omega
  | some a => have := hc a rfl; omega
end Go.Proofs.Ytodfdklcioafmaa

/- Pairs, writes and what writes make of pairs: plain mathematics. -/
namespace Go.Proofs.Ytodfdklcioafmaa.Prm
set_option maxRecDepth 100000
set_option linter.unusedVariables false

/-- the order of texts, by their bytes. -/
def lt (a b : ByteArray) : Bool := Op.bytesLess a.data.toList b.data.toList
theorem lt_data (a b : ByteArray) : Op.bytesLess a.toList b.toList = lt a b := by unfold lt; rw [ByteArray.toList_eq, ByteArray.toList_eq]
theorem less_eq : ∀ (x y : List UInt8), Op.bytesLess x y = decide (x < y)
  | [], y => by cases y <;> simp [Op.bytesLess]
  | a :: x, [] => by simp [Op.bytesLess]
  | a :: x, b :: y => by
    simp only [Op.bytesLess, less_eq x y, List.cons_lt_cons_iff, Bool.decide_or, Bool.decide_and]
    rfl
theorem lt_iff (a b : ByteArray) : lt a b = true ↔ a.data.toList < b.data.toList := by unfold lt; rw [less_eq]; simp
theorem lt_irrefl (a : ByteArray) : lt a a = false := by
  cases h : lt a a with
  | false => rfl
  | true => exact absurd ((lt_iff a a).1 h) (List.lt_irrefl _)
theorem lt_trans {a b c : ByteArray} (h : lt a b = true) (k : lt b c = true) : lt a c = true := (lt_iff a c).2 (List.lt_trans ((lt_iff a b).1 h) ((lt_iff b c).1 k))
theorem lt_asymm {a b : ByteArray} (h : lt a b = true) : lt b a = false := by
  cases k : lt b a with
  | false => rfl
  | true => have := lt_trans h k; rw [lt_irrefl] at this; cases this
theorem lt_ne {a b : ByteArray} (h : lt a b = true) : a ≠ b := fun e => by subst e; rw [lt_irrefl] at h; cases h
theorem lt_tri {a b : ByteArray} (h : a ≠ b) (k : lt a b = false) : lt b a = true := by
  rcases Std.lt_trichotomy (α := List UInt8) a.data.toList b.data.toList with h1 | h1 | h1
  · rw [(lt_iff a b).2 h1] at k; cases k
  · exact absurd (ByteArray.ext (Array.ext' h1)) h
  · exact (lt_iff b a).2 h1
theorem ge_trans {a b c : ByteArray} (h : lt a b = false) (k : lt b c = false) : lt a c = false := by
  cases e : lt a c with
  | false => rfl
  | true =>
    by_cases hab : a = b
    · subst hab; rw [e] at k; cases k
    · have := lt_trans (lt_tri hab h) e; rw [this] at k; cases k

structure Pr where
  key : ByteArray
  val : ByteArray
deriving DecidableEq
structure Wr where
  key : ByteArray
  val : ByteArray
  del : Bool
deriving DecidableEq

/-- the place of the first one, or -1. -/
def idx {α : Type} (p : α → Bool) (l : List α) (i : Nat) : Int :=
  match l with
  | [] => -1
  | a :: l => if p a then i else idx p l (i + 1)
theorem idx_drop {α : Type} (p : α → Bool) (l : List α) {k : Nat} (hk : k < l.length) : idx p (l.drop k) k = if p l[k] then (k : Int) else idx p (l.drop (k + 1)) (k + 1) := by
  rw [List.drop_eq_getElem_cons hk]; rfl
theorem idx_end {α : Type} (p : α → Bool) (l : List α) {k : Nat} (hk : l.length ≤ k) : idx p (l.drop k) k = -1 := by rw [List.drop_of_length_le hk]; rfl
theorem idx_cases {α : Type} (p : α → Bool) : ∀ (l : List α) (i : Nat), (idx p l i = -1 ∧ ∀ a ∈ l, p a = false) ∨ ∃ k, ∃ h : k < l.length, idx p l i = ((i + k : Nat) : Int) ∧ p l[k] = true ∧ ∀ j, ∀ hj : j < l.length, j < k → p l[j] = false
  | [], i => .inl ⟨rfl, by simp⟩
  | a :: l, i => by
    by_cases h : p a = true
    · exact .inr ⟨0, by simp, by simp [idx, h], by simpa using h, fun j _ hj => by omega⟩
    · have h' : p a = false := by simpa using h
      rcases idx_cases p l (i + 1) with ⟨e, hall⟩ | ⟨k, hk, e, hp, hfirst⟩
      · refine .inl ⟨by simp [idx, h', e], fun b hb => ?_⟩
        rcases List.mem_cons.1 hb with rfl | hb
        · exact h'
        · exact hall b hb
      · refine .inr ⟨k + 1, by simpa using hk, by simp only [idx, h', e]; simp; omega, by simpa using hp, fun j hj hjk => ?_⟩
        cases j with
        | zero => simpa using h'
        | succ j => simpa using hfirst j (by simpa using hj) (by omega)

def hasK (k : ByteArray) (p : Pr) : Bool := decide (p.key = k)
def aboveK (k : ByteArray) (p : Pr) : Bool := lt k p.key

/-- a key's value. -/
def find (k : ByteArray) : List Pr → ByteArray × Bool
  | [] => (⟨#[]⟩, false)
  | p :: l => if hasK k p then (p.val, true) else find k l
theorem find_none {k : ByteArray} : ∀ {l : List Pr}, (∀ a ∈ l, hasK k a = false) → find k l = (⟨#[]⟩, false)
  | [], _ => rfl
  | p :: l, h => by rw [find, h p (by simp)]; exact find_none fun a ha => h a (by simp [ha])
theorem find_at {k : ByteArray} : ∀ {l : List Pr} {i : Nat} (hi : i < l.length), hasK k l[i] = true → (∀ j, ∀ hj : j < l.length, j < i → hasK k l[j] = false) → find k l = (l[i].val, true)
  | p :: l, 0, _, h, _ => by rw [find, if_pos (by simpa using h)]; rfl
  | p :: l, i + 1, hi, h, hf => by
    have h0 := hf 0 (by simp) (by omega)
    simp only [List.getElem_cons_zero] at h0
    rw [find, h0]
    exact find_at (l := l) (i := i) (by simpa using hi) (by simpa using h) fun j hj hji => hf (j + 1) (by simpa using hj) (by omega)

/-- a pair that is put: in the place of the first one of its key; else ahead of the first one above it. -/
def ins (p : Pr) : List Pr → List Pr
  | [] => [p]
  | q :: l => if lt p.key q.key then p :: q :: l else q :: ins p l
def setF (p : Pr) : List Pr → List Pr
  | [] => []
  | q :: l => if hasK p.key q then p :: l else q :: setF p l
def put (l : List Pr) (p : Pr) : List Pr := if (find p.key l).2 then setF p l else ins p l
def drop (l : List Pr) (k : ByteArray) : List Pr := l.filter fun q => !hasK k q
def act (l : List Pr) (w : Wr) : List Pr := if w.del then drop l w.key else put l ⟨w.key, w.val⟩
def apply (l : List Pr) (ws : List Wr) : List Pr := ws.foldl act l
def btw (lo hi : ByteArray) (k : ByteArray) : Bool := !lt k lo && (decide (hi = ⟨#[]⟩) || lt k hi)
def range (l : List Pr) (lo hi : ByteArray) (most : Int) : List Pr := (l.filter fun p => btw lo hi p.key).take most.toNat
def right : List Pr → Bool
  | [] => true
  | p :: l => (match l with | [] => true | q :: _ => lt p.key q.key) && right l

theorem ins_len (p : Pr) (l : List Pr) : (ins p l).length = l.length + 1 := by
  induction l with
  | nil => rfl
  | cons q l ih => simp only [ins]; split <;> simp [ih]
theorem setF_len (p : Pr) (l : List Pr) : (setF p l).length = l.length := by
  induction l with
  | nil => rfl
  | cons q l ih => simp only [setF]; split <;> simp [ih]
theorem put_len (l : List Pr) (p : Pr) : (put l p).length ≤ l.length + 1 := by
  unfold put; split
  · rw [setF_len]; omega
  · rw [ins_len]; exact Nat.le_refl _
theorem drop_len (l : List Pr) (k : ByteArray) : (drop l k).length ≤ l.length := List.length_filter_le _ _
theorem act_len (l : List Pr) (w : Wr) : (act l w).length ≤ l.length + 1 := by
  unfold act; split
  · have := drop_len l w.key; omega
  · exact put_len _ _
theorem apply_snoc (l : List Pr) (ws : List Wr) {k : Nat} (hk : k < ws.length) : apply l (ws.take (k + 1)) = act (apply l (ws.take k)) ws[k] := by
  unfold apply
  rw [List.take_succ_eq_append_getElem hk, List.foldl_append]; rfl
theorem apply_len (l : List Pr) (ws : List Wr) : (apply l ws).length ≤ l.length + ws.length := by
  induction ws generalizing l with
  | nil => simp [apply]
  | cons w ws ih =>
    have h1 := ih (act l w)
    have h2 := act_len l w
    simp only [apply, List.foldl_cons, List.length_cons] at h1 ⊢
    omega
theorem apply_one (l : List Pr) (w : Wr) : apply l [w] = act l w := rfl

/-- by the places of what the program looks for. -/
theorem put_has {l : List Pr} {p : Pr} {i : Nat} (hi : i < l.length) (h : hasK p.key l[i] = true) (hf : ∀ j, ∀ hj : j < l.length, j < i → hasK p.key l[j] = false) : put l p = l.set i p := by
  unfold put
  rw [find_at hi h hf]
  simp only [if_true]
  induction l generalizing i with
  | nil => simp at hi
  | cons q l ih =>
    cases i with
    | zero => simp only [List.getElem_cons_zero] at h; simp [setF, h]
    | succ i =>
      have h0 := hf 0 (by simp) (by omega)
      simp only [List.getElem_cons_zero] at h0
      simp only [setF, h0, List.set_cons_succ]
      rw [← ih (i := i) (by simpa using hi) (by simpa using h) fun j hj hji => hf (j + 1) (by simpa using hj) (by omega)]
      simp
theorem put_new {l : List Pr} {p : Pr} (h : ∀ a ∈ l, hasK p.key a = false) : put l p = ins p l := by
  unfold put; rw [find_none h]; simp
theorem ins_at {l : List Pr} {p : Pr} {i : Nat} (hi : i ≤ l.length) (h : ∀ hi : i < l.length, aboveK p.key l[i] = true) (hf : ∀ j, ∀ hj : j < l.length, j < i → aboveK p.key l[j] = false) : ins p l = l.take i ++ p :: l.drop i := by
  induction l generalizing i with
  | nil => have : i = 0 := by simpa using hi
           subst this; rfl
  | cons q l ih =>
    cases i with
    | zero =>
      have h1 := h (by simp)
      simp only [List.getElem_cons_zero, aboveK] at h1
      simp [ins, h1]
    | succ i =>
      have h0 := hf 0 (by simp) (by omega)
      simp only [List.getElem_cons_zero, aboveK] at h0
      simp only [ins, h0, List.take_succ_cons, List.drop_succ_cons, List.cons_append]
      rw [← ih (i := i) (by simpa using hi) (fun hi' => h (by simpa using hi')) fun j hj hji => hf (j + 1) (by simpa using hj) (by omega)]
      simp
end Go.Proofs.Ytodfdklcioafmaa.Prm
