/- Contracts: package table: what a deed does, Apply, Put, Drop, Range, Right. -/
import Derived.Test.YtcclgepccahhbaaPairIns
import Derived.Test.YtcclgepccahhbaaPairDel
namespace Go.Proofs.Ytcclgepccahhbaa
set_option maxRecDepth 100000
open Go.RowKit Prm
set_option linter.unusedVariables false
set_option linter.unusedSimpArgs false

theorem act_put {l : List Pr} {w : Wr} (h : w.del = false) : act l w = put l ⟨w.key, w.val⟩ := by unfold act; rw [h]; rfl
theorem act_drop {l : List Pr} {w : Wr} (h : w.del = true) : act l w = drop l w.key := by unfold act; rw [h]; rfl

/-- a deed's cells hold it. -/
theorem lit_pair (w : World) (p : Pr) : Lst pairK (w.alloc (.cells #[.string p.key, .string p.val] 44)) (some ⟨w.heap.size, 0, none⟩) 1 [p] := (OwnK.lit1 pairK w 0 (Nat.zero_le _) p).lst
theorem lit_write (w : World) (p : Wr) : In_ writeK (w.alloc (.cells #[.string p.key, .string p.val, .bool p.del] 24)) (some ⟨w.heap.size, 0, none⟩) 1 1 [p] :=
  ⟨(OwnK.lit1 writeK w 0 (Nat.zero_le _) p).lst, fun e => by (cases e), Nat.le_refl _, by unfold maxLen; omega, by show 1 * 40 ≤ _; omega⟩


theorem alloc3_mid (w : World) (o1 : Obj) (cs : Array Value) (t : TypeId) (o3 : Obj) : (((w.alloc o1).alloc (.cells cs t)).alloc o3).heap[w.heap.size + 1]? = some (.cells cs t (0, 0)) := by
  rw [heap_alloc_old _ _ (by simp)]
  have := heap_alloc_new (w.alloc o1) (.cells cs t)
  simpa using this
/-- the program's way through a put where no pair has the key. -/
def PutNew (base : Nat) (A : Option Addr) (n c : Nat) (l : List Pr) (p : Pr) (at_ : Int) : Prop :=
  ∀ (W : World) (vb : Nat), OwnK pairK W base A n c l → W.heap[vb]? = some (.cells #[.string p.key, .string p.val] 44 (0, 0)) → (∀ g, A = some ⟨g, 0, none⟩ → vb ≠ g) → base ≤ W.heap.size →
    Calls Try.prog 50 #[.slice A n c, .int .i64 at_, .slice (some ⟨vb, 0, none⟩) 1 1] W fun e w' => RetB pairK W base (n + 1) (put l p) e w'
theorem put_new_end {base : Nat} {A : Option Addr} {n c : Nat} {l : List Pr} {p : Pr} (hl : l.length = n) (hn : (n + 1) * 32 ≤ 140737488355328) (hall : ∀ a ∈ l, hasK p.key a = false) (ha : ∀ a ∈ l, aboveK p.key a = false) : PutNew base A n c l p n := by
  intro W vb ho hv hne hb
  have e : put l p = l ++ [p] := by
    rw [put_new hall, ins_at (i := l.length) (Nat.le_refl _) (fun h => absurd h (Nat.lt_irrefl _)) (fun j hj _ => ha _ (List.getElem_mem hj))]; simp
  rw [e]
  refine insert_end base A n c l p vb W ho ?_ hn hb
  refine ⟨by simp [Kind.rows, pairK], fun j u hu => ⟨_, rfl, (Array.getElem?_eq_some_iff.1 hv).1, ?_⟩⟩
  rw [Addr.add_lit, Nat.zero_add]
  exact (cell_of_row W vb j _ _ _ hv).trans (by simpa [Kind.rows, pairK] using hu)
theorem put_new_mid {base : Nat} {A : Option Addr} {n c : Nat} {l : List Pr} {p : Pr} {i : Nat} (hl : l.length = n) (hn : (n + 1) * 32 ≤ 140737488355328) (hall : ∀ a ∈ l, hasK p.key a = false) (hi : i < l.length) (hia : aboveK p.key l[i] = true) (hf : ∀ j, ∀ hj : j < l.length, j < i → aboveK p.key l[j] = false) : PutNew base A n c l p i := by
  intro W vb ho hv hne hb
  have e : put l p = l.take i ++ p :: l.drop i := by rw [put_new hall, ins_at (Nat.le_of_lt hi) (fun _ => hia) hf]
  rw [e]
  obtain ⟨g, rfl⟩ : ∃ g, A = some ⟨g, 0, none⟩ := by
    rcases ho.parts with ⟨_, e, _⟩ | ⟨g, cur, rfl, _⟩
    · omega
    · exact ⟨g, rfl⟩
  by_cases hr : n + 1 ≤ c
  · exact insert_shift base g n c i l p vb W ho hv (hne g rfl) (by omega) hr
  · exact insert_grow base g n c i l p vb W ho hv (by omega) (by omega) hn hb

set_option maxHeartbeats 4000000 in
theorem deed_put_new (key val : ByteArray) (del : Bool) (base : Nat) (A : Option Addr) (n c : Nat) (l : List Pr) (w : World) (h : OwnK pairK w base A n c l) (hn : (n + 1) * 32 ≤ 140737488355328) (hbase : base ≤ w.heap.size) (hall : ∀ a ∈ l, hasK key a = false) (ix : Int)
    (hix : idx (aboveK key) l 0 = ix) (at_ : Int) (hat : (ix < 0 ∧ at_ = n) ∨ (0 ≤ ix ∧ at_ = ix)) (hput : PutNew base A n c l ⟨key, val⟩ at_) :
    Calls Try.prog 47 #[.agg #[.string key, .string val, .bool del], .slice A n c] w fun e w' => RetB pairK w base (n + 1) (put l ⟨key, val⟩) e w' := by
  have HO := Lib.hid h
  have hp : idx (hasK key) l 0 = -1 := (idx_cases (hasK key) l 0).elim (fun h => h.1) (fun ⟨k, hk, _, e, _⟩ => by rw [hall _ (List.getElem_mem hk)] at e; cases e)
  have hcap := h.cap
  have hle := h.le
  have hgl := fun g (e : A = some ⟨g, 0, none⟩) => (show g < w.heap.size from (by subst e; exact h.block_lt.2))
  have HM := Nat.le_trans hle hcap
  unfold maxLen at hcap
  have W1 : Q w (((w.alloc (.cells #[.string key, .string val, .bool del] 66)).alloc (.cells #[.string key, .string val] 44)).alloc (.cells #[.string key] 9)) := (((Q.refl w).alloc _).alloc _).alloc _
  have K1 := pindexFunc _ _ key (fun p B w => has1 p key B w) (.inl rfl) (w.heap.size + 1 + 1) A n c l (((w.alloc (.cells #[.string key, .string val, .bool del] 66)).alloc (.cells #[.string key, .string val] 44)).alloc (.cells #[.string key] 9)) (by simp) (by simp [World.cell?_alloc_at, World.cell?_alloc_past]) (h.lst.q W1) HM
  rw [hp] at K1
  have K1 := Lib.hid K1
  have HW := Lib.hid W1
  have HX := Lib.hid hix
  have HP := Lib.hid hput
  have HG := Lib.hid hgl
  have HM := Lib.hid HM
  have hPb : Hid ((((w.alloc (.cells #[.string key, .string val, .bool del] 66)).alloc (.cells #[.string key, .string val] 44)).alloc (.cells #[.string key] 9)).heap[w.heap.size + 1]? = some (.cells #[.string key, .string val] 44 (0, 0))) := Lib.hid (alloc3_mid _ _ _ _ _)
  clear h hp hall hix hput hgl W1
  go_enter Try.func47, Try.ntmps47
  go_wp2_with fail
  refine (thas_any key _).mono ?_
  rintro e w1 ⟨rfl, rfl⟩
  go_wp2_with fail
  refine K1.out.mono ?_
  rintro e w2 ⟨rfl, q2⟩
  have Q2 := Lib.hid (HW.out.trans q2)
  have hk0 : w2.cell? ⟨w.heap.size, 0, none⟩ = some (.string key) := box_ ((((Q.refl (w.alloc (.cells #[.string key, .string val, .bool del] 66))).alloc _).alloc _).trans q2) (by simp)
  have hP2 := Lib.hid ((q2.below.block _ (by simp)).trans hPb.out)
  have hs2 := Lib.hid (show w.heap.size + 3 ≤ w2.heap.size by have := q2.size; simp at this; omega)
  clear q2
  have K2 := pindexFunc _ _ key (fun p B w => above1 p key B w) (.inr rfl) w2.heap.size A n c l (w2.alloc (.cells #[.string key] 9)) (by simp) (by simp [World.cell?_alloc_at, World.cell?_alloc_past]) (HO.out.lst.q (Q2.out.alloc _)) HM.out
  rw [HX.out] at K2
  have K2 := Lib.hid K2
  go_wp2_with fail
  refine (above_any key _).mono ?_
  rintro e w3 ⟨rfl, rfl⟩
  go_wp2_with fail
  refine K2.out.mono ?_
  rintro e w4 ⟨rfl, q4⟩
  have Q4 := Lib.hid ((Q2.out.alloc _).trans q4)
  have q24 := ((Q.refl w2).alloc (.cells #[.string key] 9)).trans q4
  have hp0 : w4.cell? ⟨w.heap.size + 1, 0, none⟩ = some (.string key) := (q24.below.cell (p := ⟨w.heap.size + 1, 0, none⟩) (by show w.heap.size + 1 < _; have := hs2.out; omega)).trans (cell_of_row w2 _ 0 _ _ _ hP2.out)
  have hp1 : w4.cell? ⟨w.heap.size + 1, 1, none⟩ = some (.string val) := (q24.below.cell (p := ⟨w.heap.size + 1, 1, none⟩) (by show w.heap.size + 1 < _; have := hs2.out; omega)).trans (cell_of_row w2 _ 1 _ _ _ hP2.out)
  have hz := Lib.hid (Q4.out.size)
  have K3 := HP.out (w4.alloc (.cells #[.string key, .string val] 44)) w4.heap.size (HO.out.q (Q4.out.alloc _)) (heap_alloc_new w4 _) (fun g e => by have h1 := HG.out g e; have h2 := hz.out; omega) (by have h2 := hz.out; simp; omega)
  have K3 := Lib.hid K3
  clear hk0 q4 q24
  rcases hat with ⟨h1, h2⟩ | ⟨h1, h2⟩
  all_goals
    have H2 := Lib.hid h2
    clear h2
    go_wp2_with fail
    rw [← H2.out]
    refine K3.out.mono ?_
    rintro e w5 ⟨A5, c5, rfl, o5, b5⟩
    go_wp2
    go_ret
    exact ⟨A5, c5, rfl, o5, ((Q4.out.alloc _).below.mono hbase).trans b5⟩

set_option maxHeartbeats 4000000 in
theorem deed_put_has (key val : ByteArray) (del : Bool) (base : Nat) (A : Option Addr) (n c : Nat) (l : List Pr) (w : World) (h : OwnK pairK w base A n c l) (hbase : base ≤ w.heap.size) (k : Nat) (hk : k < l.length) (hkn : hasK key l[k] = true) (hp : idx (hasK key) l 0 = k) :
    Calls Try.prog 47 #[.agg #[.string key, .string val, .bool del], .slice A n c] w fun e w' => RetB pairK w base n (l.set k ⟨key, val⟩) e w' := by
  have HO := Lib.hid h
  have HL := Lib.hid h.len
  have hcap := h.cap
  have hle := h.le
  have hkn' : k < n := by have := h.len; omega
  have HM := Nat.le_trans hle hcap
  unfold maxLen at hcap
  obtain ⟨g, rfl⟩ : ∃ g, A = some ⟨g, 0, none⟩ := by
    rcases h.parts with ⟨_, e, _⟩ | ⟨g, cur, rfl, _⟩
    · omega
    · exact ⟨g, rfl⟩
  have hgb := h.block_lt
  have W1 : Q w (((w.alloc (.cells #[.string key, .string val, .bool del] 66)).alloc (.cells #[.string key, .string val] 44)).alloc (.cells #[.string key] 9)) := (((Q.refl w).alloc _).alloc _).alloc _
  have K1 := pindexFunc _ _ key (fun p B w => has1 p key B w) (.inl rfl) (w.heap.size + 1 + 1) (some ⟨g, 0, none⟩) n c l (((w.alloc (.cells #[.string key, .string val, .bool del] 66)).alloc (.cells #[.string key, .string val] 44)).alloc (.cells #[.string key] 9)) (by simp) (by simp [World.cell?_alloc_at, World.cell?_alloc_past]) (h.lst.q W1) HM
  rw [hp] at K1
  have K1 := Lib.hid K1
  have HW := Lib.hid W1
  have HM := Lib.hid HM
  clear h hp hkn W1
  go_enter Try.func47, Try.ntmps47
  go_wp2_with fail
  refine (thas_any key _).mono ?_
  rintro e w1 ⟨rfl, rfl⟩
  go_wp2_with fail
  refine K1.out.mono ?_
  rintro e w2 ⟨rfl, q2⟩
  have Q2 := Lib.hid (HW.out.trans q2)
  obtain ⟨x0, x1⟩ : w2.cell? ⟨w.heap.size + 1, 0, none⟩ = some (.string key) ∧ w2.cell? ⟨w.heap.size + 1, 1, none⟩ = some (.string val) := ⟨box_ q2 (by simp [World.cell?_alloc_at, World.cell?_alloc_past]), box_ q2 (by simp [World.cell?_alloc_at, World.cell?_alloc_past])⟩
  have O2 := Lib.hid (HO.out.q Q2.out)
  have ac0 : w2.cell? ⟨g, k * 2, none⟩ = some (.string l[k].key) := O2.out.cells hk 0 _ rfl
  have ac1 : w2.cell? ⟨g, k * 2 + 1, none⟩ = some (.string l[k].val) := O2.out.cells hk 1 _ rfl
  have f0 : w2.frozen? ⟨g, k * 2, none⟩ = false := O2.out.free _
  have f1 : w2.frozen? ⟨g, k * 2 + 1, none⟩ = false := O2.out.free _
  have O3 := Lib.hid (O2.out.put hk ⟨key, val⟩)
  have B3 := Lib.hid (O2.out.below_set (Q2.out.below.mono hbase) (pairK.row ⟨key, val⟩) (k * 2))
  have hki : (k : Int) < (n : Int) := by omega
  clear q2
  go_wp2
  go_ret
  exact ⟨_, c, rfl, O3.out, B3.out⟩

/-- what a deed does. -/
theorem deed_put (x : Wr) (base : Nat) (A : Option Addr) (n c : Nat) (l : List Pr) (w : World) (h : OwnK pairK w base A n c l) (hn : (n + 1) * 32 ≤ 140737488355328) (hbase : base ≤ w.heap.size) :
    Calls Try.prog 47 #[x.v, .slice A n c] w fun e w' => RetB pairK w base (put l ⟨x.key, x.val⟩).length (put l ⟨x.key, x.val⟩) e w' := by
  obtain ⟨key, val, del⟩ := x
  have hl := h.len
  rcases idx_cases (hasK key) l 0 with ⟨hp, hall⟩ | ⟨k, hk, hp, hkn, hfirst⟩
  · have e : (put l (⟨key, val⟩ : Pr)).length = n + 1 := by rw [put_new (p := ⟨key, val⟩) hall, ins_len, hl]
    simp only [e]
    rcases idx_cases (aboveK key) l 0 with ⟨hq, halla⟩ | ⟨i, hi, hq, hia, hfa⟩
    · exact deed_put_new key val del base A n c l w h hn hbase hall (-1) hq n (.inl ⟨by omega, rfl⟩) (put_new_end hl hn hall halla)
    · exact deed_put_new key val del base A n c l w h hn hbase hall _ (hq.trans (by simp : ((0 + i : Nat) : Int) = (i : Int))) i (.inr ⟨by omega, rfl⟩) (put_new_mid hl hn hall hi hia hfa)
  · have e : put l (⟨key, val⟩ : Pr) = l.set k ⟨key, val⟩ := put_has (p := ⟨key, val⟩) hk hkn hfirst
    have e2 : (put l (⟨key, val⟩ : Pr)).length = n := by rw [e, List.length_set, hl]
    simp only [e2]
    rw [e]
    exact deed_put_has key val del base A n c l w h hbase k hk hkn (hp.trans (by simp))

set_option maxHeartbeats 4000000 in
theorem deed_drop (x : Wr) (base : Nat) (A : Option Addr) (n c : Nat) (l : List Pr) (w : World) (h : OwnK pairK w base A n c l) (hbase : base ≤ w.heap.size) :
    Calls Try.prog 46 #[x.v, .slice A n c] w fun e w' => RetB pairK w base (drop l x.key).length (drop l x.key) e w' := by
  obtain ⟨key, val, del⟩ := x
  have hgl := fun g (e : A = some ⟨g, 0, none⟩) => (show g < w.heap.size from (by subst e; exact h.block_lt.2))
  have W1 : Q w ((w.alloc (.cells #[.string key, .string val, .bool del] 66)).alloc (.cells #[.string key] 9)) := ((Q.refl w).alloc _).alloc _
  have K1 := Lib.hid (deleteFunc key (w.heap.size + 1) base A n c l ((w.alloc (.cells #[.string key, .string val, .bool del] 66)).alloc (.cells #[.string key] 9)) (h.q W1) (by simp) (by simp [World.cell?_alloc_at, World.cell?_alloc_past]) (fun g e => by have := hgl g e; omega) (by simp; omega))
  have HW := Lib.hid W1
  clear h hgl W1
  go_enter Try.func46, Try.ntmps46
  go_wp2_with fail
  refine (thas_any key _).mono ?_
  rintro e w1 ⟨rfl, rfl⟩
  go_wp2_with fail
  refine K1.out.mono ?_
  rintro e w2 ⟨A2, c2, rfl, o2, b2⟩
  go_wp2
  go_ret
  exact ⟨A2, c2, rfl, o2, (HW.out.below.mono hbase).trans b2⟩

theorem deed_act (x : Wr) (w : World) :
    Calls Try.prog 41 #[x.v] w fun e w' => e = .returned (.func (.func (if x.del then 46 else 47)) #[x.v] #[]) ∧ Q w w' := by
  obtain ⟨key, val, del⟩ := x
  cases del
  all_goals
    go_enter Try.func41, Try.ntmps41
    go_wp2
    go_ret
    exact ⟨rfl, (Q.refl _).alloc _⟩
end Go.Proofs.Ytcclgepccahhbaa
