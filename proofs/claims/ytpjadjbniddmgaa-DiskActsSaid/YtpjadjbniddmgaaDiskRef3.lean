/- Contracts: the document's Delete. -/
import Derived.Test.YtpjadjbniddmgaaDiskRef2
namespace Go.Proofs.Ytpjadjbniddmgaa
open Go.RowKit Dkm
set_option linter.unusedVariables false

/-- a disk, and why not. -/
def RetDK (w : World) (d : Dk) (er : Int) (e : Ending) (w' : World) : Prop :=
  ∃ A' n' c', e = .returned (.tuple #[dkv A' n' c' d.room d.fuse d.off, .int .i64 er]) ∧ Dsk w' A' n' c' d.fs ∧ Q w w'
/-- the boxes of a call: the variable's, the result's. -/
structure Sb (w : World) (A : Option Addr) (n c : Nat) (room fuse : Int) (off : Bool) (wr : World) : Prop where
  box : Bx wr w.heap.size [.slice A n c, .int .i64 room, .int .i64 fuse, .bool off]
  res : Bx wr (w.heap.size + 1) [.slice none 0 0, .int .i64 0, .int .i64 0, .bool false]
  q : Q w wr
theorem Sb.new (w : World) (A : Option Addr) (n c : Nat) (room fuse : Int) (off : Bool) : Sb w A n c room fuse off ((w.alloc (.cells #[.slice A n c, .int .i64 room, .int .i64 fuse, .bool off] 24)).alloc (.cells #[.slice none 0 0, .int .i64 0, .int .i64 0, .bool false] 24)) :=
  ⟨(two_new w (.slice A n c) (.int .i64 room) (.int .i64 fuse) (.bool off) (.slice none 0 0) (.int .i64 0) (.int .i64 0) (.bool false) 24).1, (two_new w (.slice A n c) (.int .i64 room) (.int .i64 fuse) (.bool off) (.slice none 0 0) (.int .i64 0) (.int .i64 0) (.bool false) 24).2, ((Q.refl w).alloc _).alloc _⟩
section
variable {w wr : World} {A : Option Addr} {n c : Nat} {room fuse : Int} {off : Bool}
theorem Sb.step {w2 : World} (h : Sb w A n c room fuse off wr) (q : Q wr w2) : Sb w A n c room fuse off w2 := ⟨h.box.q q, h.res.q q, h.q.trans q⟩
theorem Sb.put4 (h : Sb w A n c room fuse off wr) (A2 : Option Addr) (n2 c2 : Nat) (room2 fuse2 : Int) (off2 : Bool) :
    Sb w A2 n2 c2 room2 fuse2 off2 ((((wr.setCell ⟨w.heap.size, 0, none⟩ (.slice A2 n2 c2)).setCell ⟨w.heap.size, 1, none⟩ (.int .i64 room2)).setCell ⟨w.heap.size, 2, none⟩ (.int .i64 fuse2)).setCell ⟨w.heap.size, 3, none⟩ (.bool off2)) :=
  ⟨h.box.put4 _ _ _ _, h.res.far4 (c := w.heap.size) (by omega) _ _ _ _, h.q.set4 (b := w.heap.size) (Nat.le_refl _) _ _ _ _⟩
theorem Sb.get (h : Sb w A n c room fuse off wr) : ((wr.cell? ⟨w.heap.size, 0, none⟩ = some (.slice A n c) ∧ wr.cell? ⟨w.heap.size, 1, none⟩ = some (.int .i64 room) ∧ wr.cell? ⟨w.heap.size, 2, none⟩ = some (.int .i64 fuse) ∧ wr.cell? ⟨w.heap.size, 3, none⟩ = some (.bool off)) ∧
    wr.frozen? ⟨w.heap.size, 0, none⟩ = false ∧ wr.frozen? ⟨w.heap.size, 1, none⟩ = false ∧ wr.frozen? ⟨w.heap.size, 2, none⟩ = false ∧ wr.frozen? ⟨w.heap.size, 3, none⟩ = false) := h.box.get4
theorem Sb.getR (h : Sb w A n c room fuse off wr) : ((wr.cell? ⟨w.heap.size + 1, 0, none⟩ = some (.slice none 0 0) ∧ wr.cell? ⟨w.heap.size + 1, 1, none⟩ = some (.int .i64 0) ∧ wr.cell? ⟨w.heap.size + 1, 2, none⟩ = some (.int .i64 0) ∧ wr.cell? ⟨w.heap.size + 1, 3, none⟩ = some (.bool false)) ∧
    wr.frozen? ⟨w.heap.size + 1, 0, none⟩ = false ∧ wr.frozen? ⟨w.heap.size + 1, 1, none⟩ = false ∧ wr.frozen? ⟨w.heap.size + 1, 2, none⟩ = false ∧ wr.frozen? ⟨w.heap.size + 1, 3, none⟩ = false) := h.res.get4
theorem Sb.endK (h : Sb w A n c room fuse off wr) {l : List Fil} (hd : Dsk w A n c l) (er : Int) (x y z u : Value) : RetDK w ⟨l, room, fuse, off⟩ er (.returned (.tuple #[dkv A n c room fuse off, .int .i64 er])) ((((wr.setCell ⟨w.heap.size + 1, 0, none⟩ x).setCell ⟨w.heap.size + 1, 1, none⟩ y).setCell ⟨w.heap.size + 1, 2, none⟩ z).setCell ⟨w.heap.size + 1, 3, none⟩ u) :=
  ⟨A, n, c, rfl, hd.q (h.q.set4 (b := w.heap.size + 1) (by omega) _ _ _ _), h.q.set4 (b := w.heap.size + 1) (by omega) _ _ _ _⟩
theorem Sb.endO (h : Sb w A n c room fuse off wr) {w2 : World} (q : Q wr w2) {A2 : Option Addr} {n2 c2 : Nat} {d : Dk} (ho : Own w2 wr.heap.size A2 n2 c2 d.fs) (hn : n2 * 48 ≤ 140737488355328) (er : Int) (x y z u : Value) : RetDK w d er (.returned (.tuple #[dkv A2 n2 c2 d.room d.fuse d.off, .int .i64 er])) ((((w2.setCell ⟨w.heap.size + 1, 0, none⟩ x).setCell ⟨w.heap.size + 1, 1, none⟩ y).setCell ⟨w.heap.size + 1, 2, none⟩ z).setCell ⟨w.heap.size + 1, 3, none⟩ u) :=
  ⟨A2, n2, c2, rfl, (ho.set4 h.res.lt _ _ _ _).dsk hn, (h.q.trans q).set4 (b := w.heap.size + 1) (by omega) _ _ _ _⟩
end

set_option maxHeartbeats 1000000 in
theorem ref_del_off (nm : ByteArray) (A : Option Addr) (n c : Nat) (room fuse : Int) (l : List Fil) (w : World) (hd : Dsk w A n c l) :
    Calls Try.prog 26 #[dkv A n c room fuse true, .string nm] w fun e w' => RetDK w ⟨l, room, fuse, true⟩ 6 e w' := by
  have HD := Lib.hid hd
  clear hd
  go_enter Try.func26, Try.ntmps26
  go_wp2
  refine bodyPost_ret (v := .tuple #[dkv A n c room fuse true, .int .i64 6]) (by simp [results, Try.results26, go_sem]) rfl ?_
  exact ⟨A, n, c, rfl, HD.out.q (((Q.refl _).alloc _).alloc _), ((Q.refl _).alloc _).alloc _⟩

set_option maxHeartbeats 1000000 in
theorem ref_del_none (nm : ByteArray) (A : Option Addr) (n c : Nat) (room fuse : Int) (l : List Fil) (w : World) (hd : Dsk w A n c l) (p : Int) (hp : plc nm l 0 = p) (h0 : p < 0) :
    Calls Try.prog 26 #[dkv A n c room fuse false, .string nm] w fun e w' => RetDK w ⟨l, room, fuse, false⟩ 7 e w' := by
  have HD := Lib.hid hd
  have HP := Lib.hid hp
  clear hd hp
  have S0 := Lib.hid (Sb.new w A n c room fuse false)
  go_enter Try.func26, Try.ntmps26
  go_wp2_with fail
  refine (ref_at nm A n c room fuse false l _ (HD.out.files.q S0.out.q) HD.out.max).mono ?_
  rw [HP.out]
  rintro e w1 ⟨rfl, q1⟩
  have S1 := Lib.hid (S0.out.step q1)
  clear S0 q1
  obtain ⟨⟨e0, e1, e2, e3⟩, f0, f1, f2, f3⟩ := S1.out.get
  obtain ⟨⟨s0, s1, s2, s3⟩, h0', h1, h2, h3⟩ := S1.out.getR
  go_wp2
  refine bodyPost_ret (v := .tuple #[dkv A n c room fuse false, .int .i64 7]) (by simp [results, Try.results26, go_sem, s0, s1, s2, s3]) rfl ?_
  exact S1.out.endK HD.out 7 _ _ _ _

set_option maxHeartbeats 2000000 in
theorem ref_del_dead (nm : ByteArray) (A : Option Addr) (n c : Nat) (room : Int) (l : List Fil) (w : World) (hd : Dsk w A n c l) (k : Nat) (hp : plc nm l 0 = k) :
    Calls Try.prog 26 #[dkv A n c room 0 false, .string nm] w fun e w' => RetDK w ⟨l, room, 0, true⟩ 6 e w' := by
  have HD := Lib.hid hd
  have HP := Lib.hid hp
  clear hd hp
  have S0 := Lib.hid (Sb.new w A n c room 0 false)
  go_enter Try.func26, Try.ntmps26
  go_wp2_with fail
  refine (ref_at nm A n c room 0 false l _ (HD.out.files.q S0.out.q) HD.out.max).mono ?_
  rw [HP.out]
  rintro e w1 ⟨rfl, q1⟩
  have S1 := Lib.hid (S0.out.step q1)
  clear S0 q1
  obtain ⟨⟨e0, e1, e2, e3⟩, f0, f1, f2, f3⟩ := S1.out.get
  go_wp2_with fail
  have k2 := ref_power A n c ⟨l, room, 0, false⟩ w1 (by simp)
  rw [pow_zero] at k2
  refine k2.mono ?_
  clear k2
  rintro e w2 ⟨rfl, q2⟩
  have S2 := Lib.hid ((S1.out.step q2).put4 A n c room 0 true)
  have P2 := S1.out.step q2
  clear S1 q2 e0 e1 e2 e3 f0 f1 f2 f3
  obtain ⟨⟨e0, e1, e2, e3⟩, f0, f1, f2, f3⟩ := P2.get
  clear P2
  go_upto_region 6 with (fail)
  generalize ((((w2.setCell ⟨w.heap.size, 0, none⟩ (.slice A n c)).setCell ⟨w.heap.size, 1, none⟩ (.int .i64 room)).setCell ⟨w.heap.size, 2, none⟩ (.int .i64 0)).setCell ⟨w.heap.size, 3, none⟩ (.bool true)) = w3 at S2 ⊢
  clear e0 e1 e2 e3 f0 f1 f2 f3
  obtain ⟨⟨e0, e1, e2, e3⟩, f0, f1, f2, f3⟩ := S2.out.get
  obtain ⟨⟨s0, s1, s2, s3⟩, h0', h1, h2, h3⟩ := S2.out.getR
  go_wp2
  refine bodyPost_ret (v := .tuple #[dkv A n c room 0 true, .int .i64 6]) (by simp [results, Try.results26, go_sem, s0, s1, s2, s3]) rfl ?_
  exact S2.out.endK HD.out 6 _ _ _ _

set_option maxHeartbeats 2000000 in
theorem ref_del_yes (nm : ByteArray) (A : Option Addr) (n c : Nat) (room fuse : Int) (l : List Fil) (w : World) (hd : Dsk w A n c l) (hfu : fuse ≤ 9223372036854775807) (k : Nat) (hk : k < l.length) (hp : plc nm l 0 = k) (f2 : Int) (hpw : pow ⟨l, room, fuse, false⟩ = (⟨l, room, f2, false⟩, true)) (hs : l[k].sf.size + l[k].wt.size ≤ maxLen) (room2 : Int) (hR : wrap64 (room + ((l[k].sf.size + l[k].wt.size : Nat) : Int)) = room2) :
    Calls Try.prog 26 #[dkv A n c room fuse false, .string nm] w fun e w' => RetDK w ⟨l.eraseIdx k, room2, f2, false⟩ 0 e w' := by
  have hkn : k < n := by have := hd.len; omega
  obtain ⟨ad, rfl⟩ : ∃ ad, A = some ad := by
    cases A with
    | none => have := hd.nil rfl; omega
    | some ad => exact ⟨ad, rfl⟩
  have HD := Lib.hid hd
  have HP := Lib.hid hp
  have HW := Lib.hid hpw
  have HS := Lib.hid hs
  have HR := Lib.hid hR
  have hfew := hd.few
  clear hd hp hpw hs hR
  have S0 := Lib.hid (Sb.new w (some ad) n c room fuse false)
  go_enter Try.func26, Try.ntmps26
  go_wp2_with fail
  refine (ref_at nm (some ad) n c room fuse false l _ (HD.out.files.q S0.out.q) HD.out.max).mono ?_
  rw [HP.out]
  rintro e w1 ⟨rfl, q1⟩
  have S1 := Lib.hid (S0.out.step q1)
  clear S0 q1
  obtain ⟨⟨e0, e1, e2, e3⟩, f0, f1, f2', f3⟩ := S1.out.get
  go_wp2_with fail
  have k2 := ref_power (some ad) n c ⟨l, room, fuse, false⟩ w1 hfu
  rw [HW.out] at k2
  refine k2.mono ?_
  clear k2
  rintro e w2 ⟨rfl, q2⟩
  have S2 := Lib.hid ((S1.out.step q2).put4 (some ad) n c room f2 false)
  have P2 := S1.out.step q2
  clear S1 q2 e0 e1 e2 e3 f0 f1 f2' f3
  obtain ⟨⟨e0, e1, e2, e3⟩, f0, f1, f2', f3⟩ := P2.get
  clear P2
  go_upto_region 6 with (fail)
  generalize ((((w2.setCell ⟨w.heap.size, 0, none⟩ (.slice (some ad) n c)).setCell ⟨w.heap.size, 1, none⟩ (.int .i64 room)).setCell ⟨w.heap.size, 2, none⟩ (.int .i64 f2)).setCell ⟨w.heap.size, 3, none⟩ (.bool false)) = W at S2 ⊢
  clear e0 e1 e2 e3 f0 f1 f2' f3
  obtain ⟨⟨e0, e1, e2, e3⟩, f0, f1, f2', f3⟩ := S2.out.get
  go_wp2
  go_region_held3 (fun w' => w'.cell? ⟨w.heap.size, 0, none⟩ = some (.slice (some ad) n c) ∧ w'.cell? ⟨w.heap.size, 1, none⟩ = some (.int .i64 room) ∧ w'.cell? ⟨w.heap.size, 2, none⟩ = some (.int .i64 f2) ∧ w'.cell? ⟨w.heap.size, 3, none⟩ = some (.bool false))
    (first
      | go_keep
      | (go_split_ands
         (repeat' apply And.intro) <;> exact box_ ‹Q _ _› (by assumption)))
    (first
      | (go_at_call 38
         refine (ref_at nm (some ad) n c room f2 false l _ (HD.out.files.q S2.out.q.drew) HD.out.max).mono ?_
         rw [HP.out]
         rintro e w4 ⟨rfl, q4⟩)
      | (go_at_call 44
         refine (ref_less ad n c room f2 false k l _ (HD.out.q (S2.out.q.drew.trans q4)) hkn hk HS.out).mono ?_
         rw [HR.out]
         rintro e w5 ⟨A5, c5, rfl, ho5, q5⟩
         obtain ⟨⟨s0, s1, s2, s3⟩, h0', h1, h2, h3⟩ := (S2.out.step (((Q.refl W).drew.trans q4).trans q5)).getR))
  go_wp2
  refine bodyPost_ret (v := .tuple #[dkv A5 (n - 1) c5 room2 f2 false, .int .i64 0]) (by simp [results, Try.results26, go_sem, s0, s1, s2, s3]) rfl ?_
  exact (S2.out.step ((Q.refl W).drew.trans q4)).endO (d := ⟨l.eraseIdx k, room2, f2, false⟩) q5 ho5 (by omega) 0 _ _ _ _
end Go.Proofs.Ytpjadjbniddmgaa
