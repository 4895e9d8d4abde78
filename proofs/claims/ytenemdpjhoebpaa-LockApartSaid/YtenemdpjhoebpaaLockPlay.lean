/- Acts, and what is played from nothing on. -/
import Derived.Test.YtenemdpjhoebpaaLockLaw
namespace Go.Proofs.Ytenemdpjhoebpaa
set_option maxRecDepth 100000
open Go.ChangeShapes Go.WideShapes Go.RowKit Prm Lm Sm
set_option linter.unusedVariables false
set_option linter.unusedSimpArgs false

structure Ac where
  kind : Int
  txn : Int
  w : Wn
def actK : Kind Ac where
  T := 81
  S := 48
  k := 5
  bs := 56
  z := .agg #[.int .i64 0, .int .i64 0, .int .i64 0, .string ⟨#[]⟩, .string ⟨#[]⟩]
  row := fun h => [.int .i64 h.kind, .int .i64 h.txn, .int .i64 h.w.mode, .string h.w.lo, .string h.w.hi]
  pos := by omega
  bpos := by omega
  len := fun _ => rfl
  one := fun _ u hu => by simp at hu; rcases hu with rfl | rfl | rfl | rfl | rfl <;> rfl
  und := Try.underlying48
  info := by kernel_rfl
  zc := rfl
theorem load_act {w : World} {A : Option Addr} {n : Nat} {l : List Ac} (h : Lst actK w A n l) {k : Nat} (hk : k < n) (hl : k < l.length) :
    ∃ ad, A = some ad ∧ ad.block < w.heap.size ∧ w.cell? (ad.add (k * 5)) = some (.int .i64 l[k].kind) ∧ w.cell? ⟨(ad.add (k * 5)).block, (ad.add (k * 5)).off + 1, none⟩ = some (.int .i64 l[k].txn) ∧ w.cell? ⟨(ad.add (k * 5)).block, (ad.add (k * 5)).off + 2, none⟩ = some (.int .i64 l[k].w.mode) ∧ w.cell? ⟨(ad.add (k * 5)).block, (ad.add (k * 5)).off + 3, none⟩ = some (.string l[k].w.lo) ∧ w.cell? ⟨(ad.add (k * 5)).block, (ad.add (k * 5)).off + 4, none⟩ = some (.string l[k].w.hi) := by
  obtain ⟨ad, e, hb, hc⟩ := h.load hk hl
  exact ⟨ad, e, hb, hc 0 _ rfl, hc 1 _ rfl, hc 2 _ rfl, hc 3 _ rfl, hc 4 _ rfl⟩
def AcIn (a : Ac) : Prop := I64 a.txn ∧ WnIn a.w
theorem open_act {w : World} {cs : List Value} (h : Rd w 81 cs) : ∃ p : Ac, cs = actK.row p ∧ AcIn p := by
  obtain ⟨hl, hf⟩ := h.struct Try.underlying81
  rw [show Try.prog.cellsOf 81 = 5 by kernel_rfl] at hl
  match cs, hl with
  | [a, b, c, d, g], _ =>
    obtain ⟨u, e4, r4⟩ := (h.field Try.underlying81 0 (ty := 3) 0 1 rfl (by kernel_rfl)).int Try.underlying3
    obtain ⟨t, e0, r0⟩ := (h.field Try.underlying81 1 (ty := 3) 1 1 rfl (by kernel_rfl)).int Try.underlying3
    obtain ⟨x, e1, x0, x1, x2, x3⟩ := open_want (h.field Try.underlying81 2 (ty := 27) 2 3 rfl (by kernel_rfl))
    simp at e0 e1 e4
    obtain ⟨e1, e2, e3⟩ := e1
    subst e0 e1 e2 e3 e4
    exact ⟨⟨u, t, x⟩, rfl, wf_i64 r0, x0, x1⟩
theorem open_acts {w : World} {cs : List Value} (h : Rd w 48 cs) : ∃ A n c l, cs = [.slice A n c] ∧ In_ actK w A n c l ∧ n * 56 ≤ 140737488351232 ∧ ∀ p ∈ l, AcIn p :=
  open_kind actK AcIn (fun cs hc => open_act hc) (by kernel_rfl) (by kernel_rfl) h

/-- who holds and who waits is one of whom P holds. -/
def AllL (P : Int → Wn → Prop) (l : Lo) : Prop := (∀ h ∈ l.held, P h.txn h.w) ∧ ∀ h ∈ l.queue, P h.txn h.w
theorem all_ask {P : Int → Wn → Prop} {l : Lo} (h : AllL P l) {txn : Int} {w : Wn} (hw : P txn w) (til : Nat) : AllL P (Lm.ask l txn w til).1 := by
  unfold Lm.ask
  split
  · exact h
  split
  · exact h
  split
  · exact h
  split
  · refine ⟨fun a ha => ?_, h.2⟩
    rcases List.mem_append.1 ha with ha | ha
    · exact h.1 a ha
    · simp at ha; subst ha; exact hw
  split
  · exact h
  · refine ⟨h.1, fun a ha => ?_⟩
    rcases List.mem_append.1 ha with ha | ha
    · exact h.2 a ha
    · simp at ha; subst ha; exact hw
theorem all_free {P : Int → Wn → Prop} {l : Lo} (h : AllL P l) (txn : Int) : AllL P (Lm.free l txn).1 :=
  settle_ind (P := fun k _ => AllL P k) (fun k out i hi hb hp => ⟨fun a ha => (by
      rcases List.mem_append.1 ha with ha | ha
      · exact hp.1 a ha
      · simp at ha; subst ha; exact hp.2 _ (List.getElem_mem hi)), fun a ha => hp.2 a (List.mem_of_mem_eraseIdx ha)⟩)
    (Lm.keep l txn).queue.length (Lm.keep l txn) [] ⟨fun a ha => h.1 a (List.mem_filter.1 ha).1, fun a ha => h.2 a (List.mem_filter.1 ha).1⟩
def Pw (t : Int) (x : Wn) : Prop := I64 t ∧ WnS x
/-- what every play keeps. -/
structure Ok (l : Lo) (k : Nat) : Prop where
  ap : Apart l
  wt : Wt l
  al : AllL Pw l
  le : l.held.length + l.queue.length ≤ k
theorem ok_nil : Ok ⟨[], []⟩ 0 := ⟨apart_nil, wt_nil, ⟨fun h hh => (by cases hh), fun h hh => (by cases hh)⟩, Nat.le_refl _⟩
theorem Ok.ask {l : Lo} {k : Nat} (h : Ok l k) {a : Ac} (ha : AcIn a) (til : Nat) : Ok (Lm.ask l a.txn a.w til).1 (k + 1) :=
  ⟨apart_ask h.ap _ _ _, wt_ask h.wt _ _ _, all_ask h.al ⟨ha.1, wns ha.2.1 ha.2.2⟩ _, by have := (ask_len l a.txn a.w til).2.2; have := h.le; omega⟩
theorem Ok.free {l : Lo} {k : Nat} (h : Ok l k) (txn : Int) : Ok (Lm.free l txn).1 (k + 1) :=
  ⟨apart_free h.ap _, wt_free h.wt _, all_free h.al _, by have := free_len l txn; have := h.le; omega⟩
theorem Ok.loI {l : Lo} {k : Nat} (h : Ok l k) : LoI l := ⟨fun a ha => (h.al.1 a ha).1, fun a ha => (h.al.2 a ha).1⟩
theorem Ok.loW {l : Lo} {k : Nat} (h : Ok l k) : LoW l := ⟨fun a ha => (h.al.1 a ha).2, fun a ha => (h.al.2 a ha).2⟩
def RetP (w : World) (e : Ending) (w' : World) : Prop :=
  ∃ A n c B m d l, e = .returned (locV A n c B m d) ∧ OwnK holdK w' w.heap.size A n c l.held ∧ OwnK claimK w' w.heap.size B m d l.queue ∧ Ok l 100 ∧ Q w w'
/-- where a play stands: the result's box, the locks' box. -/
structure Pl10 (w : World) (A : Option Addr) (n c : Nat) (B : Option Addr) (m d : Nat) (l : Lo) (k : Nat) (wr : World) : Prop where
  br : Bx wr w.heap.size [.slice none 0 0, .slice none 0 0]
  bk : Bx wr (w.heap.size + 1) [.slice A n c, .slice B m d]
  o1 : OwnK holdK wr (w.heap.size + 2) A n c l.held
  o2 : OwnK claimK wr (w.heap.size + 2) B m d l.queue
  q : Q w wr
  ok : Ok l k
theorem Pl10.step {w wr v : World} {A B A4 B4 : Option Addr} {n c m d n4 c4 m4 d4 : Nat} {l s : Lo} {k : Nat} (h : Pl10 w A n c B m d l k wr) (qv : Q wr v) {base : Nat} (hb : wr.heap.size ≤ base) (o1 : OwnK holdK v base A4 n4 c4 s.held) (o2 : OwnK claimK v base B4 m4 d4 s.queue) (hs : Ok s (k + 1)) :
    Pl10 w A4 n4 c4 B4 m4 d4 s (k + 1) ((v.setCell ⟨w.heap.size + 1, 0, none⟩ (.slice A4 n4 c4)).setCell ⟨w.heap.size + 1, 1, none⟩ (.slice B4 m4 d4)) := by
  have h1 := h.bk.lt
  exact ⟨(h.br.q qv).far2 (by omega) _ _, (h.bk.q qv).set2 _ _, (o1.set2 (b := w.heap.size + 1) (by omega) _ _).lower (by omega), (o2.set2 (b := w.heap.size + 1) (by omega) _ _).lower (by omega), (h.q.trans qv).set2 (by omega) _ _, hs⟩

set_option maxHeartbeats 8000000 in
theorem plays_any (A : Option Addr) (n c : Nat) (l : List Ac) (w : World) (hA : In_ actK w A n c l) (hI : ∀ a ∈ l, AcIn a) :
    Calls Try.prog 27 #[.slice A n c] w (RetP w) := by
  have HA := Lib.hid hA
  have HIn := Lib.hid hI
  have hnx : n ≤ 1000000000000000000 := by have := hA.few; have : n * 56 ≤ 140737488355328 := this; omega
  have HP0 : Hid (Pl10 w none 0 0 none 0 0 ⟨[], []⟩ 0 ((w.alloc (.cells #[.slice none 0 0, .slice none 0 0] 25)).alloc (.cells #[.slice none 0 0, .slice none 0 0] 25))) := by
    have h3 := Bx.new (w.alloc (.cells #[.slice none 0 0, .slice none 0 0] 25)) [.slice none 0 0, .slice none 0 0] 25
    rw [show (w.alloc (.cells #[.slice none 0 0, .slice none 0 0] 25)).heap.size = w.heap.size + 1 by simp] at h3
    exact Lib.hid ⟨(Bx.new w [.slice none 0 0, .slice none 0 0] 25).alloc _, h3, OwnK.nil_ _ _ _, OwnK.nil_ _ _ _, ((Q.refl w).alloc _).alloc _, ok_nil⟩
  clear hA hI
  go_enter Try.func27, Try.ntmps27
  go_upto_region 2 with (fail)
  generalize (w.alloc (.cells #[.slice none 0 0, .slice none 0 0] 25)).alloc (.cells #[.slice none 0 0, .slice none 0 0] 25) = W0 at HP0 ⊢
  go_wp2
  go_loopw [4] (fun i wr => ∃ (k : Nat) (A1 : Option Addr) (n1 c1 : Nat) (B1 : Option Addr) (m1 d1 : Nat) (l1 : Lo), k ≤ n ∧ k ≤ 100 ∧ i = .int .i64 k ∧ Pl10 w A1 n1 c1 B1 m1 d1 l1 k wr) (fun i _ => n - (intOf i).toNat)
  case atStart => exact ⟨0, none, 0, 0, none, 0, 0, ⟨[], []⟩, Nat.zero_le _, Nat.zero_le _, rfl, HP0.out⟩
  case round =>
    clear HP0
    obtain ⟨k, A1, n1, c1, B1, m1, d1, l1, hk, hk100, rfl, hp⟩ := hrel
    have HP := Lib.hid hp
    clear hp
    obtain ⟨⟨b0, b1⟩, b2, b3⟩ := HP.out.bk.get2
    obtain ⟨⟨r0, r1⟩, r2, r3⟩ := HP.out.br.get2
    have hn1 := HP.out.o1.len
    have hm1 := HP.out.o2.len
    have hle := HP.out.ok.le
    have HL := Lib.hid (show n1 ≤ 100 ∧ m1 ≤ 100 by omega)
    clear hn1 hm1 hle
    by_cases hlt : k < n
    · have hkn : (k : Int) < (n : Int) := by omega
      by_cases h100 : k < 100
      · have hk1 : (k : Int) < 100 := by omega
        have hkl : k < l.length := by have := HA.out.len; omega
        have HA1 := Lib.hid (HIn.out _ (List.getElem_mem hkl))
        obtain ⟨ad, rfl, hab, y0, y1, y2, y3, y4⟩ := load_act (HA.out.lst.q HP.out.q) hlt hkl
        generalize l[k] = a at y0 y1 y2 y3 y4 HA1
        by_cases hkd : a.kind = 1
        · have hz : (a.kind == 1) = true := by simpa using hkd
          clear hkd
          have K1 := Lib.hid (fun A1 n1 c1 B1 m1 d1 W (h1 : OwnK holdK W (w.heap.size + 2) A1 n1 c1 l1.held) (h2 : OwnK claimK W (w.heap.size + 2) B1 m1 d1 l1.queue) => lask_any A1 B1 n1 c1 m1 d1 l1 a.txn a.w 9 W (few_in h1 h2 (by have := h1.len; have := HP.out.ok.le; omega) (by have := h2.len; have := HP.out.ok.le; omega)).1 (few_in h1 h2 (by have := h1.len; have := HP.out.ok.le; omega) (by have := h2.len; have := HP.out.ok.le; omega)).2 ⟨by have := h1.len; have := HP.out.ok.le; omega, by have := h2.len; have := HP.out.ok.le; omega, HP.out.ok.loI.1, HP.out.ok.loI.2⟩)
          have HK := Lib.hid (HP.out.ok.ask HA1.out 9)
          generalize Lm.ask l1 a.txn a.w 9 = S at K1 HK
          unfold wnV at *
          clear r0 r1 r2 r3
          go_wp2
          refine wp_region_heldL 15 (Q wr) (by kernel_rfl) ?szz0 (fun hHeld => ?rzz0)
          case szz0 =>
            exact (Q.refl wr).drew
          case' rzz0 => skip
          generalize hgen : wr.drew = D0 at hHeld ⊢
          clear hgen
          refine wpAnyL_take (i := 0) (oi := ?ozz1) (v := ?vzz1) ?hzz1 ?azz1 ?bzz1 ?czz1 ?kzz1 ?qzz1 ?yzz1 ?szz1 ?rzz1
          case hzz1 => simp only [List.getElem?_toArray, List.getElem?_cons_zero]; rfl
          case azz1 => kernel_rfl
          case bzz1 => kernel_rfl
          case czz1 => kernel_rfl
          case kzz1 => kernel_rfl
          case yzz1 =>
            refine Or.inl ⟨by rfl, ?_⟩
            intro w hSw
            have z0 := box_ hSw b0; have z1 := box_ hSw b1; have z2 := box_ hSw y0; have z3 := box_ hSw y1; have z4 := box_ hSw y2; have z5 := box_ hSw y3; have z6 := box_ hSw y4; clear hSw
            go_simp
            try with_reducible rfl
          case qzz1 => exact fun _ _ _ h => h
          case szz1 => first | assumption | trivial
          case' rzz1 => simp only [Act.put, List.setIfInBounds_toArray, List.set_cons_zero, List.set_cons_succ]
          refine wpAnyL_take (i := 1) (oi := ?ozz2) (v := ?vzz2) ?hzz2 ?azz2 ?bzz2 ?czz2 ?kzz2 ?qzz2 ?yzz2 ?szz2 ?rzz2
          case hzz2 => simp only [List.getElem?_toArray, List.getElem?_cons_zero, List.getElem?_cons_succ]; rfl
          case azz2 => kernel_rfl
          case bzz2 => kernel_rfl
          case czz2 => kernel_rfl
          case kzz2 => kernel_rfl
          case yzz2 =>
            refine Or.inl ⟨by rfl, ?_⟩
            intro w hSw
            skip
            go_simp
            try with_reducible rfl
          case qzz2 => exact fun _ _ _ h => h
          case szz2 => first | assumption | trivial
          case' rzz2 => simp only [Act.put, List.setIfInBounds_toArray, List.set_cons_zero, List.set_cons_succ]
          refine wpAnyL_take (i := 2) (oi := ?ozz3) (v := ?vzz3) ?hzz3 ?azz3 ?bzz3 ?czz3 ?kzz3 ?qzz3 ?yzz3 ?szz3 ?rzz3
          case hzz3 => simp only [List.getElem?_toArray, List.getElem?_cons_zero, List.getElem?_cons_succ]; rfl
          case azz3 => kernel_rfl
          case bzz3 => kernel_rfl
          case czz3 => kernel_rfl
          case kzz3 => kernel_rfl
          case yzz3 =>
            refine Or.inl ⟨by rfl, ?_⟩
            intro w hSw
            skip
            go_simp
            try with_reducible rfl
          case qzz3 => exact fun _ _ _ h => h
          case szz3 => first | assumption | trivial
          case' rzz3 => simp only [Act.put, List.setIfInBounds_toArray, List.set_cons_zero, List.set_cons_succ]
          refine wpAnyL_take (i := 3) (oi := ?ozz4) (v := ?vzz4) ?hzz4 ?azz4 ?bzz4 ?czz4 ?kzz4 ?qzz4 ?yzz4 ?szz4 ?rzz4
          case hzz4 => simp only [List.getElem?_toArray, List.getElem?_cons_zero, List.getElem?_cons_succ]; rfl
          case azz4 => kernel_rfl
          case bzz4 => kernel_rfl
          case czz4 => kernel_rfl
          case kzz4 => kernel_rfl
          case yzz4 =>
            refine Or.inl ⟨by rfl, ?_⟩
            intro w hSw
            have z0 := box_ hSw b0; have z1 := box_ hSw b1; have z2 := box_ hSw y0; have z3 := box_ hSw y1; have z4 := box_ hSw y2; have z5 := box_ hSw y3; have z6 := box_ hSw y4; clear hSw
            go_simp
            try with_reducible rfl
          case qzz4 => exact fun _ _ _ h => h
          case szz4 => first | assumption | trivial
          case' rzz4 => simp only [Act.put, List.setIfInBounds_toArray, List.set_cons_zero, List.set_cons_succ]
          refine wpAnyL_take (i := 4) (oi := ?ozz5) (v := ?vzz5) ?hzz5 ?azz5 ?bzz5 ?czz5 ?kzz5 ?qzz5 ?yzz5 ?szz5 ?rzz5
          case hzz5 => simp only [List.getElem?_toArray, List.getElem?_cons_zero, List.getElem?_cons_succ]; rfl
          case azz5 => kernel_rfl
          case bzz5 => kernel_rfl
          case czz5 => kernel_rfl
          case kzz5 => kernel_rfl
          case yzz5 =>
            refine Or.inl ⟨by rfl, ?_⟩
            intro w hSw
            skip
            go_simp
            try with_reducible rfl
          case qzz5 => exact fun _ _ _ h => h
          case szz5 => first | assumption | trivial
          case' rzz5 => simp only [Act.put, List.setIfInBounds_toArray, List.set_cons_zero, List.set_cons_succ]
          refine wpAnyL_take (i := 5) (oi := ?ozz6) (v := ?vzz6) ?hzz6 ?azz6 ?bzz6 ?czz6 ?kzz6 ?qzz6 ?yzz6 ?szz6 ?rzz6
          case hzz6 => simp only [List.getElem?_toArray, List.getElem?_cons_zero, List.getElem?_cons_succ]; rfl
          case azz6 => kernel_rfl
          case bzz6 => kernel_rfl
          case czz6 => kernel_rfl
          case kzz6 => kernel_rfl
          case yzz6 =>
            refine Or.inl ⟨by rfl, ?_⟩
            intro w hSw
            have z0 := box_ hSw b0; have z1 := box_ hSw b1; have z2 := box_ hSw y0; have z3 := box_ hSw y1; have z4 := box_ hSw y2; have z5 := box_ hSw y3; have z6 := box_ hSw y4; clear hSw
            go_simp
            try with_reducible rfl
          case qzz6 => exact fun _ _ _ h => h
          case szz6 => first | assumption | trivial
          case' rzz6 => simp only [Act.put, List.setIfInBounds_toArray, List.set_cons_zero, List.set_cons_succ]
          refine wpAnyL_take (i := 6) (oi := ?ozz7) (v := ?vzz7) ?hzz7 ?azz7 ?bzz7 ?czz7 ?kzz7 ?qzz7 ?yzz7 ?szz7 ?rzz7
          case hzz7 => simp only [List.getElem?_toArray, List.getElem?_cons_zero, List.getElem?_cons_succ]; rfl
          case azz7 => kernel_rfl
          case bzz7 => kernel_rfl
          case czz7 => kernel_rfl
          case kzz7 => kernel_rfl
          case yzz7 =>
            refine Or.inl ⟨by rfl, ?_⟩
            intro w hSw
            skip
            go_simp
            try with_reducible rfl
          case qzz7 => exact fun _ _ _ h => h
          case szz7 => first | assumption | trivial
          case' rzz7 => simp only [Act.put, List.setIfInBounds_toArray, List.set_cons_zero, List.set_cons_succ]
          refine wpAnyL_take (i := 7) (oi := ?ozz8) (v := ?vzz8) ?hzz8 ?azz8 ?bzz8 ?czz8 ?kzz8 ?qzz8 ?yzz8 ?szz8 ?rzz8
          case hzz8 => simp only [List.getElem?_toArray, List.getElem?_cons_zero, List.getElem?_cons_succ]; rfl
          case azz8 => kernel_rfl
          case bzz8 => kernel_rfl
          case czz8 => kernel_rfl
          case kzz8 => kernel_rfl
          case yzz8 =>
            refine Or.inl ⟨by rfl, ?_⟩
            intro w hSw
            skip
            go_simp
            try with_reducible rfl
          case qzz8 => exact fun _ _ _ h => h
          case szz8 => first | assumption | trivial
          case' rzz8 => simp only [Act.put, List.setIfInBounds_toArray, List.set_cons_zero, List.set_cons_succ]
          refine wpAnyL_take (i := 8) (oi := ?ozz9) (v := ?vzz9) ?hzz9 ?azz9 ?bzz9 ?czz9 ?kzz9 ?qzz9 ?yzz9 ?szz9 ?rzz9
          case hzz9 => simp only [List.getElem?_toArray, List.getElem?_cons_zero, List.getElem?_cons_succ]; rfl
          case azz9 => kernel_rfl
          case bzz9 => kernel_rfl
          case czz9 => kernel_rfl
          case kzz9 => kernel_rfl
          case yzz9 =>
            refine Or.inl ⟨by rfl, ?_⟩
            intro w hSw
            have z0 := box_ hSw b0; have z1 := box_ hSw b1; have z2 := box_ hSw y0; have z3 := box_ hSw y1; have z4 := box_ hSw y2; have z5 := box_ hSw y3; have z6 := box_ hSw y4; clear hSw
            go_simp
            try with_reducible rfl
          case qzz9 => exact fun _ _ _ h => h
          case szz9 => first | assumption | trivial
          case' rzz9 => simp only [Act.put, List.setIfInBounds_toArray, List.set_cons_zero, List.set_cons_succ]
          refine wpAnyL_take (i := 9) (oi := ?ozz10) (v := ?vzz10) ?hzz10 ?azz10 ?bzz10 ?czz10 ?kzz10 ?qzz10 ?yzz10 ?szz10 ?rzz10
          case hzz10 => simp only [List.getElem?_toArray, List.getElem?_cons_zero, List.getElem?_cons_succ]; rfl
          case azz10 => kernel_rfl
          case bzz10 => kernel_rfl
          case czz10 => kernel_rfl
          case kzz10 => kernel_rfl
          case yzz10 =>
            refine Or.inl ⟨by rfl, ?_⟩
            intro w hSw
            skip
            go_simp
            try with_reducible rfl
          case qzz10 => exact fun _ _ _ h => h
          case szz10 => first | assumption | trivial
          case' rzz10 => simp only [Act.put, List.setIfInBounds_toArray, List.set_cons_zero, List.set_cons_succ]
          refine wpAnyL_take (i := 10) (oi := ?ozz11) (v := ?vzz11) ?hzz11 ?azz11 ?bzz11 ?czz11 ?kzz11 ?qzz11 ?yzz11 ?szz11 ?rzz11
          case hzz11 => simp only [List.getElem?_toArray, List.getElem?_cons_zero, List.getElem?_cons_succ]; rfl
          case azz11 => kernel_rfl
          case bzz11 => kernel_rfl
          case czz11 => kernel_rfl
          case kzz11 => kernel_rfl
          case yzz11 =>
            refine Or.inl ⟨by rfl, ?_⟩
            intro w hSw
            have z0 := box_ hSw b0; have z1 := box_ hSw b1; have z2 := box_ hSw y0; have z3 := box_ hSw y1; have z4 := box_ hSw y2; have z5 := box_ hSw y3; have z6 := box_ hSw y4; clear hSw
            go_simp
            try with_reducible rfl
          case qzz11 => exact fun _ _ _ h => h
          case szz11 => first | assumption | trivial
          case' rzz11 => simp only [Act.put, List.setIfInBounds_toArray, List.set_cons_zero, List.set_cons_succ]
          refine wpAnyL_ready (rs := [11]) (by kernel_rfl) (by simp) ?_
          refine AllReadyL.cons (o := ?ozz18) ?hzz18 (fun K hK => ?kzz18) ?mzz18
          case hzz18 => simp only [List.getElem?_toArray, List.getElem?_cons_zero, List.getElem?_cons_succ]; rfl
          case kzz18 =>
            go_simp
            refine (K1.out A1 n1 c1 B1 m1 d1 _ (HP.out.o1.q hHeld) (HP.out.o2.q hHeld)).mono ?_
            rintro e v1 ⟨A4, n4, c4, B4, m4, d4, rfl, o4, u4, qz⟩
            have HB0 := Lib.hid hHeld.size
            go_wp2_with fail
            refine hK.out _ _ ?Szz18 (fun hHeld => ?Rzz18)
            case Szz18 =>
              exact hHeld.trans qz
            case Rzz18 =>
              clear hK K
              try simp only [Act.put, List.setIfInBounds_toArray, List.set_cons_zero, List.set_cons_succ]
              refine wpAnyL_take (i := 12) (oi := ?ozz12) (v := ?vzz12) ?hzz12 ?azz12 ?bzz12 ?czz12 ?kzz12 ?qzz12 ?yzz12 ?szz12 ?rzz12
              case hzz12 => simp only [List.getElem?_toArray, List.getElem?_cons_zero, List.getElem?_cons_succ]; rfl
              case azz12 => kernel_rfl
              case bzz12 => kernel_rfl
              case czz12 => kernel_rfl
              case kzz12 => kernel_rfl
              case yzz12 =>
                refine Or.inl ⟨by rfl, ?_⟩
                intro w hSw
                skip
                go_simp
                try with_reducible rfl
              case qzz12 => exact fun _ _ _ h => h
              case szz12 => first | assumption | trivial
              case' rzz12 => simp only [Act.put, List.setIfInBounds_toArray, List.set_cons_zero, List.set_cons_succ]
              refine wpAnyL_take (i := 13) (oi := ?ozz13) (v := ?vzz13) ?hzz13 ?azz13 ?bzz13 ?czz13 ?kzz13 ?qzz13 ?yzz13 ?szz13 ?rzz13
              case hzz13 => simp only [List.getElem?_toArray, List.getElem?_cons_zero, List.getElem?_cons_succ]; rfl
              case azz13 => kernel_rfl
              case bzz13 => kernel_rfl
              case czz13 => kernel_rfl
              case kzz13 => kernel_rfl
              case yzz13 =>
                refine Or.inl ⟨by rfl, ?_⟩
                intro w hSw
                skip
                go_simp
                try with_reducible rfl
              case qzz13 => exact fun _ _ _ h => h
              case szz13 => first | assumption | trivial
              case' rzz13 => simp only [Act.put, List.setIfInBounds_toArray, List.set_cons_zero, List.set_cons_succ]
              refine wpAnyL_ready (rs := [14, 15]) (by kernel_rfl) (by simp) ?_
              refine AllReadyL.cons (o := ?ozz16) ?hzz16 (fun K hK => ?kzz16) ?mzz16
              case hzz16 => simp only [List.getElem?_toArray, List.getElem?_cons_zero, List.getElem?_cons_succ]; rfl
              case kzz16 =>
                go_simp
                refine hK.out _ _ ?Szz16 (fun hHeld => ?Rzz16)
                case Szz16 =>
                  exact hHeld
                case Rzz16 =>
                  clear hK K
                  try simp only [Act.put, List.setIfInBounds_toArray, List.set_cons_zero, List.set_cons_succ]
                  refine wpAnyL_ready (rs := [15]) (by kernel_rfl) (by simp) ?_
                  refine AllReadyL.consK (o := ?ozz14) ?hzz14 ?lzz14 (fun K hK => ?kzz14) ?mzz14
                  case hzz14 => simp only [List.getElem?_toArray, List.getElem?_cons_zero, List.getElem?_cons_succ]; rfl
                  case lzz14 => kernel_rfl
                  case kzz14 =>
                    have HZ := Lib.hid hHeld
                    have PS := Lib.hid (HP.out.step hHeld HB0.out o4 u4 HK.out)
                    obtain ⟨⟨p0, p1⟩, p2, p3⟩ := (HP.out.bk.q hHeld).get2
                    have hgv := HP.out.bk.lt
                    go_simp
                    refine hK.out _ _ ?Rzz14
                    case Rzz14 =>
                      clear hK K
                      try simp only [Act.put, List.setIfInBounds_toArray, List.set_cons_zero, List.set_cons_succ]
                      refine wpAnyH_done (by kernel_rfl) ?_ _
                      clear p0 p1 p2 p3 hgv b0 b1 b2 b3 y0 y1 y2 y3 y4 o4 u4 qz HZ
                      go_upto_region 4 with (fail)
                      generalize (v1.setCell ⟨w.heap.size + 1, 0, none⟩ (.slice A4 n4 c4)).setCell ⟨w.heap.size + 1, 1, none⟩ (.slice B4 m4 d4) = W5 at PS ⊢
                      go_wp2
                      go_roundw
                      case rel => exact ⟨k + 1, A4, n4, c4, B4, m4, d4, S.1, by omega, by omega, by go_num, PS.out⟩
                      case measure => simp [intOf]; omega
                  case' mzz14 => skip
                  exact AllReadyL.nil
              case' mzz16 => skip
              refine AllReadyL.consK (o := ?ozz17) ?hzz17 ?lzz17 (fun K hK => ?kzz17) ?mzz17
              case hzz17 => simp only [List.getElem?_toArray, List.getElem?_cons_zero, List.getElem?_cons_succ]; rfl
              case lzz17 => kernel_rfl
              case kzz17 =>
                have HZ := Lib.hid hHeld
                have PS := Lib.hid (HP.out.step hHeld HB0.out o4 u4 HK.out)
                obtain ⟨⟨p0, p1⟩, p2, p3⟩ := (HP.out.bk.q hHeld).get2
                have hgv := HP.out.bk.lt
                go_simp
                refine hK.out _ _ ?Rzz17
                case Rzz17 =>
                  clear hK K
                  try simp only [Act.put, List.setIfInBounds_toArray, List.set_cons_zero, List.set_cons_succ]
                  refine wpAnyH_take (i := 14) (oi := ?ozz15) (v := ?vzz15) ?hzz15 ?azz15 ?bzz15 ?czz15 ?qzz15 ?yzz15 ?szz15 ?rzz15
                  case hzz15 => simp only [List.getElem?_toArray, List.getElem?_cons_zero, List.getElem?_cons_succ]; rfl
                  case azz15 => kernel_rfl
                  case bzz15 => kernel_rfl
                  case czz15 => kernel_rfl
                  case yzz15 =>
                    refine Or.inl ⟨by rfl, ?_⟩
                    intro w hSw
                    skip
                    go_simp
                    try with_reducible rfl
                  case qzz15 => exact fun _ _ _ h => h
                  case szz15 => first | assumption | trivial
                  case' rzz15 => simp only [Act.put, List.setIfInBounds_toArray, List.set_cons_zero, List.set_cons_succ]
                  refine wpAnyH_done (by kernel_rfl) ?_ _
                  clear p0 p1 p2 p3 hgv b0 b1 b2 b3 y0 y1 y2 y3 y4 o4 u4 qz HZ
                  go_upto_region 4 with (fail)
                  generalize (v1.setCell ⟨w.heap.size + 1, 0, none⟩ (.slice A4 n4 c4)).setCell ⟨w.heap.size + 1, 1, none⟩ (.slice B4 m4 d4) = W5 at PS ⊢
                  go_wp2
                  go_roundw
                  case rel => exact ⟨k + 1, A4, n4, c4, B4, m4, d4, S.1, by omega, by omega, by go_num, PS.out⟩
                  case measure => simp [intOf]; omega
              case' mzz17 => skip
              exact AllReadyL.nil
          case' mzz18 => skip
          exact AllReadyL.nil
        · have hz : (a.kind == 1) = false := by simpa using hkd
          clear hkd
          have K1 := Lib.hid (fun A1 n1 c1 B1 m1 d1 W (h1 : OwnK holdK W (w.heap.size + 2) A1 n1 c1 l1.held) (h2 : OwnK claimK W (w.heap.size + 2) B1 m1 d1 l1.queue) => lfree_any A1 B1 n1 c1 m1 d1 l1 a.txn W (few_in h1 h2 (by have := h1.len; have := HP.out.ok.le; omega) (by have := h2.len; have := HP.out.ok.le; omega)).1 (few_in h1 h2 (by have := h1.len; have := HP.out.ok.le; omega) (by have := h2.len; have := HP.out.ok.le; omega)).2 HP.out.ok.loI (by have := h1.len; have := h2.len; have := HP.out.ok.le; omega))
          have HK := Lib.hid (HP.out.ok.free a.txn)
          generalize Lm.free l1 a.txn = S at K1 HK
          unfold wnV at *
          clear r0 r1 r2 r3
          go_wp2
          refine wp_region_heldL 10 (Q wr) (by kernel_rfl) ?szz19 (fun hHeld => ?rzz19)
          case szz19 =>
            exact (Q.refl wr).drew
          case' rzz19 => skip
          generalize hgen : wr.drew = D0 at hHeld ⊢
          clear hgen
          refine wpAnyL_take (i := 0) (oi := ?ozz20) (v := ?vzz20) ?hzz20 ?azz20 ?bzz20 ?czz20 ?kzz20 ?qzz20 ?yzz20 ?szz20 ?rzz20
          case hzz20 => simp only [List.getElem?_toArray, List.getElem?_cons_zero]; rfl
          case azz20 => kernel_rfl
          case bzz20 => kernel_rfl
          case czz20 => kernel_rfl
          case kzz20 => kernel_rfl
          case yzz20 =>
            refine Or.inl ⟨by rfl, ?_⟩
            intro w hSw
            have z0 := box_ hSw b0; have z1 := box_ hSw b1; have z2 := box_ hSw y0; have z3 := box_ hSw y1; have z4 := box_ hSw y2; have z5 := box_ hSw y3; have z6 := box_ hSw y4; clear hSw
            go_simp
            try with_reducible rfl
          case qzz20 => exact fun _ _ _ h => h
          case szz20 => first | assumption | trivial
          case' rzz20 => simp only [Act.put, List.setIfInBounds_toArray, List.set_cons_zero, List.set_cons_succ]
          refine wpAnyL_take (i := 1) (oi := ?ozz21) (v := ?vzz21) ?hzz21 ?azz21 ?bzz21 ?czz21 ?kzz21 ?qzz21 ?yzz21 ?szz21 ?rzz21
          case hzz21 => simp only [List.getElem?_toArray, List.getElem?_cons_zero, List.getElem?_cons_succ]; rfl
          case azz21 => kernel_rfl
          case bzz21 => kernel_rfl
          case czz21 => kernel_rfl
          case kzz21 => kernel_rfl
          case yzz21 =>
            refine Or.inl ⟨by rfl, ?_⟩
            intro w hSw
            skip
            go_simp
            try with_reducible rfl
          case qzz21 => exact fun _ _ _ h => h
          case szz21 => first | assumption | trivial
          case' rzz21 => simp only [Act.put, List.setIfInBounds_toArray, List.set_cons_zero, List.set_cons_succ]
          refine wpAnyL_take (i := 2) (oi := ?ozz22) (v := ?vzz22) ?hzz22 ?azz22 ?bzz22 ?czz22 ?kzz22 ?qzz22 ?yzz22 ?szz22 ?rzz22
          case hzz22 => simp only [List.getElem?_toArray, List.getElem?_cons_zero, List.getElem?_cons_succ]; rfl
          case azz22 => kernel_rfl
          case bzz22 => kernel_rfl
          case czz22 => kernel_rfl
          case kzz22 => kernel_rfl
          case yzz22 =>
            refine Or.inl ⟨by rfl, ?_⟩
            intro w hSw
            skip
            go_simp
            try with_reducible rfl
          case qzz22 => exact fun _ _ _ h => h
          case szz22 => first | assumption | trivial
          case' rzz22 => simp only [Act.put, List.setIfInBounds_toArray, List.set_cons_zero, List.set_cons_succ]
          refine wpAnyL_take (i := 3) (oi := ?ozz23) (v := ?vzz23) ?hzz23 ?azz23 ?bzz23 ?czz23 ?kzz23 ?qzz23 ?yzz23 ?szz23 ?rzz23
          case hzz23 => simp only [List.getElem?_toArray, List.getElem?_cons_zero, List.getElem?_cons_succ]; rfl
          case azz23 => kernel_rfl
          case bzz23 => kernel_rfl
          case czz23 => kernel_rfl
          case kzz23 => kernel_rfl
          case yzz23 =>
            refine Or.inl ⟨by rfl, ?_⟩
            intro w hSw
            have z0 := box_ hSw b0; have z1 := box_ hSw b1; have z2 := box_ hSw y0; have z3 := box_ hSw y1; have z4 := box_ hSw y2; have z5 := box_ hSw y3; have z6 := box_ hSw y4; clear hSw
            go_simp
            try with_reducible rfl
          case qzz23 => exact fun _ _ _ h => h
          case szz23 => first | assumption | trivial
          case' rzz23 => simp only [Act.put, List.setIfInBounds_toArray, List.set_cons_zero, List.set_cons_succ]
          refine wpAnyL_take (i := 4) (oi := ?ozz24) (v := ?vzz24) ?hzz24 ?azz24 ?bzz24 ?czz24 ?kzz24 ?qzz24 ?yzz24 ?szz24 ?rzz24
          case hzz24 => simp only [List.getElem?_toArray, List.getElem?_cons_zero, List.getElem?_cons_succ]; rfl
          case azz24 => kernel_rfl
          case bzz24 => kernel_rfl
          case czz24 => kernel_rfl
          case kzz24 => kernel_rfl
          case yzz24 =>
            refine Or.inl ⟨by rfl, ?_⟩
            intro w hSw
            skip
            go_simp
            try with_reducible rfl
          case qzz24 => exact fun _ _ _ h => h
          case szz24 => first | assumption | trivial
          case' rzz24 => simp only [Act.put, List.setIfInBounds_toArray, List.set_cons_zero, List.set_cons_succ]
          refine wpAnyL_take (i := 5) (oi := ?ozz25) (v := ?vzz25) ?hzz25 ?azz25 ?bzz25 ?czz25 ?kzz25 ?qzz25 ?yzz25 ?szz25 ?rzz25
          case hzz25 => simp only [List.getElem?_toArray, List.getElem?_cons_zero, List.getElem?_cons_succ]; rfl
          case azz25 => kernel_rfl
          case bzz25 => kernel_rfl
          case czz25 => kernel_rfl
          case kzz25 => kernel_rfl
          case yzz25 =>
            refine Or.inl ⟨by rfl, ?_⟩
            intro w hSw
            have z0 := box_ hSw b0; have z1 := box_ hSw b1; have z2 := box_ hSw y0; have z3 := box_ hSw y1; have z4 := box_ hSw y2; have z5 := box_ hSw y3; have z6 := box_ hSw y4; clear hSw
            go_simp
            try with_reducible rfl
          case qzz25 => exact fun _ _ _ h => h
          case szz25 => first | assumption | trivial
          case' rzz25 => simp only [Act.put, List.setIfInBounds_toArray, List.set_cons_zero, List.set_cons_succ]
          refine wpAnyL_ready (rs := [6]) (by kernel_rfl) (by simp) ?_
          refine AllReadyL.cons (o := ?ozz32) ?hzz32 (fun K hK => ?kzz32) ?mzz32
          case hzz32 => simp only [List.getElem?_toArray, List.getElem?_cons_zero, List.getElem?_cons_succ]; rfl
          case kzz32 =>
            go_simp
            refine (K1.out A1 n1 c1 B1 m1 d1 _ (HP.out.o1.q hHeld) (HP.out.o2.q hHeld)).mono ?_
            rintro e v1 ⟨A4, n4, c4, B4, m4, d4, C4, p4, q4, rfl, o4, u4, x4, qz⟩
            have HB0 := Lib.hid hHeld.size
            go_wp2_with fail
            refine hK.out _ _ ?Szz32 (fun hHeld => ?Rzz32)
            case Szz32 =>
              exact hHeld.trans qz
            case Rzz32 =>
              clear hK K
              try simp only [Act.put, List.setIfInBounds_toArray, List.set_cons_zero, List.set_cons_succ]
              refine wpAnyL_take (i := 7) (oi := ?ozz26) (v := ?vzz26) ?hzz26 ?azz26 ?bzz26 ?czz26 ?kzz26 ?qzz26 ?yzz26 ?szz26 ?rzz26
              case hzz26 => simp only [List.getElem?_toArray, List.getElem?_cons_zero, List.getElem?_cons_succ]; rfl
              case azz26 => kernel_rfl
              case bzz26 => kernel_rfl
              case czz26 => kernel_rfl
              case kzz26 => kernel_rfl
              case yzz26 =>
                refine Or.inl ⟨by rfl, ?_⟩
                intro w hSw
                skip
                go_simp
                try with_reducible rfl
              case qzz26 => exact fun _ _ _ h => h
              case szz26 => first | assumption | trivial
              case' rzz26 => simp only [Act.put, List.setIfInBounds_toArray, List.set_cons_zero, List.set_cons_succ]
              refine wpAnyL_take (i := 8) (oi := ?ozz27) (v := ?vzz27) ?hzz27 ?azz27 ?bzz27 ?czz27 ?kzz27 ?qzz27 ?yzz27 ?szz27 ?rzz27
              case hzz27 => simp only [List.getElem?_toArray, List.getElem?_cons_zero, List.getElem?_cons_succ]; rfl
              case azz27 => kernel_rfl
              case bzz27 => kernel_rfl
              case czz27 => kernel_rfl
              case kzz27 => kernel_rfl
              case yzz27 =>
                refine Or.inl ⟨by rfl, ?_⟩
                intro w hSw
                skip
                go_simp
                try with_reducible rfl
              case qzz27 => exact fun _ _ _ h => h
              case szz27 => first | assumption | trivial
              case' rzz27 => simp only [Act.put, List.setIfInBounds_toArray, List.set_cons_zero, List.set_cons_succ]
              refine wpAnyL_ready (rs := [9, 10]) (by kernel_rfl) (by simp) ?_
              refine AllReadyL.cons (o := ?ozz30) ?hzz30 (fun K hK => ?kzz30) ?mzz30
              case hzz30 => simp only [List.getElem?_toArray, List.getElem?_cons_zero, List.getElem?_cons_succ]; rfl
              case kzz30 =>
                go_simp
                refine hK.out _ _ ?Szz30 (fun hHeld => ?Rzz30)
                case Szz30 =>
                  exact hHeld
                case Rzz30 =>
                  clear hK K
                  try simp only [Act.put, List.setIfInBounds_toArray, List.set_cons_zero, List.set_cons_succ]
                  refine wpAnyL_ready (rs := [10]) (by kernel_rfl) (by simp) ?_
                  refine AllReadyL.consK (o := ?ozz28) ?hzz28 ?lzz28 (fun K hK => ?kzz28) ?mzz28
                  case hzz28 => simp only [List.getElem?_toArray, List.getElem?_cons_zero, List.getElem?_cons_succ]; rfl
                  case lzz28 => kernel_rfl
                  case kzz28 =>
                    have HZ := Lib.hid hHeld
                    have PS := Lib.hid (HP.out.step hHeld HB0.out o4 u4 HK.out)
                    obtain ⟨⟨p0, p1⟩, p2, p3⟩ := (HP.out.bk.q hHeld).get2
                    have hgv := HP.out.bk.lt
                    go_simp
                    refine hK.out _ _ ?Rzz28
                    case Rzz28 =>
                      clear hK K
                      try simp only [Act.put, List.setIfInBounds_toArray, List.set_cons_zero, List.set_cons_succ]
                      refine wpAnyH_done (by kernel_rfl) ?_ _
                      clear p0 p1 p2 p3 hgv b0 b1 b2 b3 y0 y1 y2 y3 y4 o4 u4 qz HZ
                      go_upto_region 4 with (fail)
                      generalize (v1.setCell ⟨w.heap.size + 1, 0, none⟩ (.slice A4 n4 c4)).setCell ⟨w.heap.size + 1, 1, none⟩ (.slice B4 m4 d4) = W5 at PS ⊢
                      go_wp2
                      go_roundw
                      case rel => exact ⟨k + 1, A4, n4, c4, B4, m4, d4, S.1, by omega, by omega, by go_num, PS.out⟩
                      case measure => simp [intOf]; omega
                  case' mzz28 => skip
                  exact AllReadyL.nil
              case' mzz30 => skip
              refine AllReadyL.consK (o := ?ozz31) ?hzz31 ?lzz31 (fun K hK => ?kzz31) ?mzz31
              case hzz31 => simp only [List.getElem?_toArray, List.getElem?_cons_zero, List.getElem?_cons_succ]; rfl
              case lzz31 => kernel_rfl
              case kzz31 =>
                have HZ := Lib.hid hHeld
                have PS := Lib.hid (HP.out.step hHeld HB0.out o4 u4 HK.out)
                obtain ⟨⟨p0, p1⟩, p2, p3⟩ := (HP.out.bk.q hHeld).get2
                have hgv := HP.out.bk.lt
                go_simp
                refine hK.out _ _ ?Rzz31
                case Rzz31 =>
                  clear hK K
                  try simp only [Act.put, List.setIfInBounds_toArray, List.set_cons_zero, List.set_cons_succ]
                  refine wpAnyH_take (i := 9) (oi := ?ozz29) (v := ?vzz29) ?hzz29 ?azz29 ?bzz29 ?czz29 ?qzz29 ?yzz29 ?szz29 ?rzz29
                  case hzz29 => simp only [List.getElem?_toArray, List.getElem?_cons_zero, List.getElem?_cons_succ]; rfl
                  case azz29 => kernel_rfl
                  case bzz29 => kernel_rfl
                  case czz29 => kernel_rfl
                  case yzz29 =>
                    refine Or.inl ⟨by rfl, ?_⟩
                    intro w hSw
                    skip
                    go_simp
                    try with_reducible rfl
                  case qzz29 => exact fun _ _ _ h => h
                  case szz29 => first | assumption | trivial
                  case' rzz29 => simp only [Act.put, List.setIfInBounds_toArray, List.set_cons_zero, List.set_cons_succ]
                  refine wpAnyH_done (by kernel_rfl) ?_ _
                  clear p0 p1 p2 p3 hgv b0 b1 b2 b3 y0 y1 y2 y3 y4 o4 u4 qz HZ
                  go_upto_region 4 with (fail)
                  generalize (v1.setCell ⟨w.heap.size + 1, 0, none⟩ (.slice A4 n4 c4)).setCell ⟨w.heap.size + 1, 1, none⟩ (.slice B4 m4 d4) = W5 at PS ⊢
                  go_wp2
                  go_roundw
                  case rel => exact ⟨k + 1, A4, n4, c4, B4, m4, d4, S.1, by omega, by omega, by go_num, PS.out⟩
                  case measure => simp [intOf]; omega
              case' mzz31 => skip
              exact AllReadyL.nil
          case' mzz32 => skip
          exact AllReadyL.nil
      · have hk1 : ¬ (k : Int) < 100 := by omega
        have t1 : decide ((k : Int) < 100) = false := decide_eq_false hk1
        go_wp2
        have HR := Lib.hid (HP.out.br.set2 (.slice A1 n1 c1) (.slice B1 m1 d1))
        obtain ⟨⟨s0, s1⟩, _⟩ := HR.out.get2
        refine bodyPost_ret (v := locV A1 n1 c1 B1 m1 d1) (by simp [results, Try.results27, go_sem, s0, s1]) rfl ?_
        exact ⟨A1, n1, c1, B1, m1, d1, l1, rfl, (HP.out.o1.set2 (b := w.heap.size) (by omega) _ _).lower (by omega), (HP.out.o2.set2 (b := w.heap.size) (by omega) _ _).lower (by omega), ⟨HP.out.ok.ap, HP.out.ok.wt, HP.out.ok.al, by have := HP.out.ok.le; omega⟩, HP.out.q.set2 (Nat.le_refl _) _ _⟩
    · have hk0 : ¬ (k : Int) < (n : Int) := by omega
      have t1 : decide ((k : Int) < (n : Int)) = false := decide_eq_false hk0
      have t2 : decide (k < n) = false := decide_eq_false hlt
      go_wp2
      have HR := Lib.hid (HP.out.br.set2 (.slice A1 n1 c1) (.slice B1 m1 d1))
      obtain ⟨⟨s0, s1⟩, _⟩ := HR.out.get2
      refine bodyPost_ret (v := locV A1 n1 c1 B1 m1 d1) (by simp [results, Try.results27, go_sem, s0, s1]) rfl ?_
      exact ⟨A1, n1, c1, B1, m1, d1, l1, rfl, (HP.out.o1.set2 (b := w.heap.size) (by omega) _ _).lower (by omega), (HP.out.o2.set2 (b := w.heap.size) (by omega) _ _).lower (by omega), ⟨HP.out.ok.ap, HP.out.ok.wt, HP.out.ok.al, by have := HP.out.ok.le; omega⟩, HP.out.q.set2 (Nat.le_refl _) _ _⟩
end Go.Proofs.Ytenemdpjhoebpaa
