/- PairDel, Table, Table2, Table3, Less, TableRef, TableRef2, TableRef3, TableRef4, TableRef5, TableShown, PairIn: merged. -/
import Derived.Test.YtlbjobbmjccekaaA1
import Derived.Laws.StructEq
import Derived.Deep.DeepCutAuto
import Derived.StillTailTactics
/- Contracts: slices.DeleteFunc by a key, at a list of the call's own. -/
namespace Go.Proofs.Ytlbjobbmjccekaa
set_option maxRecDepth 100000
open Go.RowKit Prm
set_option linter.unusedVariables false

theorem zero_pair : ∀ W, (zeroValue pairK.T).run Try.prog W = .ok pairK.z W := by
  obtain ⟨t, hi, hz, hs, hy⟩ := info_parts pairK.info
  intro W
  simp [zeroValue, typeInfo, hi, hz]

def keep (key : ByteArray) (p : Pr) : Bool := !hasK key p
theorem drop_all {key : ByteArray} {l : List Pr} (h : ∀ a ∈ l, hasK key a = false) : drop l key = l := by
  unfold drop
  exact List.filter_eq_self.2 fun a ha => by rw [h a ha]; rfl
theorem filter_first {key : ByteArray} {l : List Pr} {k : Nat} (hk : k < l.length) (h : hasK key l[k] = true) (hf : ∀ j, ∀ hj : j < l.length, j < k → hasK key l[j] = false) : (l.take (k + 1)).filter (keep key) = l.take k := by
  rw [List.take_succ_eq_append_getElem hk, List.filter_append]
  have h1 : (l.take k).filter (keep key) = l.take k := List.filter_eq_self.2 fun a ha => by
    obtain ⟨j, hj, rfl⟩ := List.mem_iff_getElem.1 ha
    rw [List.length_take] at hj
    rw [List.getElem_take, keep, hf j (by omega) (by omega)]; rfl
  rw [h1, List.filter_cons, keep, h]; simp
theorem filter_keep {key : ByteArray} {l cur : List Pr} {a b : Nat} (hb : b < l.length) (hab : a < b) (hc : cur.length = l.length) (h1 : cur.take a = (l.take b).filter (keep key)) (h2 : cur.drop b = l.drop b) (hk : hasK key l[b] = false) :
    (cur.set a l[b]).take (a + 1) = (l.take (b + 1)).filter (keep key) ∧ (cur.set a l[b]).drop (b + 1) = l.drop (b + 1) := by
  constructor
  · rw [List.take_succ_eq_append_getElem (by simp; omega), List.take_set_of_le (Nat.le_refl _), h1, List.getElem_set_self, List.take_succ_eq_append_getElem hb, List.filter_append, List.filter_cons, keep, hk]
    simp
  · rw [List.drop_set_of_lt (by omega), ← List.drop_drop, ← List.drop_drop, h2]
theorem filter_skip {key : ByteArray} {l cur : List Pr} {a b : Nat} (hb : b < l.length) (h1 : cur.take a = (l.take b).filter (keep key)) (h2 : cur.drop b = l.drop b) (hk : hasK key l[b] = true) :
    cur.take a = (l.take (b + 1)).filter (keep key) ∧ cur.drop (b + 1) = l.drop (b + 1) := by
  constructor
  · rw [h1, List.take_succ_eq_append_getElem hb, List.filter_append, List.filter_cons, keep, hk]; simp
  · rw [← List.drop_drop, ← List.drop_drop, h2]

set_option maxHeartbeats 4000000 in
theorem deleteFunc (key : ByteArray) (B base : Nat) (A : Option Addr) (n c : Nat) (l : List Pr) (w : World) (h : OwnK pairK w base A n c l) (hB : B < w.heap.size) (hc : w.cell? ⟨B, 0, none⟩ = some (.string key)) (hne : ∀ g, A = some ⟨g, 0, none⟩ → B ≠ g) (hbase : base ≤ w.heap.size) :
    Calls Try.prog 84 #[.slice A n c, .func (.func 82) #[] #[.pointer (some ⟨B, 0, none⟩)]] w fun e w' => RetB pairK w base (drop l key).length (drop l key) e w' := by
  have HO := Lib.hid h
  have HC := Lib.hid hc
  have hcap := h.cap
  have hle := h.le
  have HM := Lib.hid (Nat.le_trans hle hcap)
  unfold maxLen at hcap
  rcases idx_cases (hasK key) l 0 with ⟨hp, hall⟩ | ⟨k, hk, hp, hkn, hfirst⟩
  · have HP := Lib.hid hp
    rw [drop_all hall]
    have HL := Lib.hid h.len
    clear hp hall h hc
    go_enter Try.func84, Try.ntmps84
    go_wp2_with fail
    refine (pindexFunc _ _ key (fun p B w => has1 p key B w) (.inl rfl) B A n c l _ hB HC.out HO.out.lst HM.out).mono ?_
    rintro e w1 ⟨rfl, q1⟩
    rw [HP.out]
    go_wp2
    go_ret
    exact ⟨A, c, by rw [HL.out]; rfl, by rw [HL.out]; exact HO.out.q q1, q1.below.mono hbase⟩
  · have HP := Lib.hid (hp.trans (by simp : ((0 + k : Nat) : Int) = (k : Int)))
    have HF := Lib.hid (filter_first hk hkn hfirst)
    have hkl : k < n := by have := h.len; omega
    obtain ⟨g, rfl⟩ : ∃ g, A = some ⟨g, 0, none⟩ := by
      rcases h.parts with ⟨_, e, _⟩ | ⟨g, cur, rfl, _⟩
      · omega
      · exact ⟨g, rfl⟩
    have hbg := hne g rfl
    have HL := Lib.hid h.len
    have hgb := Lib.hid h.block_lt
    clear hp hkn hfirst h hc hk hne
    have hk1 : ((k : Int) == -1) = false := by simp
    go_enter Try.func84, Try.ntmps84
    go_wp2_with fail
    refine (pindexFunc _ _ key (fun p B w => has1 p key B w) (.inl rfl) B (some ⟨g, 0, none⟩) n c l _ hB HC.out HO.out.lst HM.out).mono ?_
    rintro e w1 ⟨rfl, q1⟩
    rw [HP.out]
    have Q1 := Lib.hid q1
    clear q1
    go_wp2
    go_loopw [5, 6] (fun i j wr => ∃ (a b : Nat) (cur : List Pr), i = .int .i64 a ∧ j = .int .i64 b ∧ a < b ∧ b ≤ n ∧ OwnK pairK wr base (some ⟨g, 0, none⟩) n c cur ∧ cur.take a = (l.take b).filter (keep key) ∧ cur.drop b = l.drop b ∧ Below base w wr ∧ wr.cell? ⟨B, 0, none⟩ = some (.string key)) (fun _ j _ => n - (intOf j).toNat)
    case atStart => exact ⟨k, k + 1, l, rfl, by go_num, Nat.lt_succ_self k, hkl, HO.out.q Q1.out, HF.out.symm, rfl, Q1.out.below.mono hbase, (Q1.out.below.cell (p := ⟨B, 0, none⟩) hB).trans HC.out⟩
    case round =>
      obtain ⟨a, b, cur, rfl, rfl, hab, hbn, ho, h1, h2, hbl, hcl⟩ := hrel
      have H1 := Lib.hid h1
      have H2 := Lib.hid h2
      have HOr := Lib.hid ho
      have HBl := Lib.hid hbl
      have HCl := Lib.hid hcl
      have hBr := block_lt_of_cell hcl
      have hgr := ho.block_lt
      have hcl' := ho.len
      have HCu := Lib.hid hcl'
      clear h1 h2 ho hbl hcl
      by_cases hlt : b < n
      · have hbl' : b < l.length := by have := HL.out; omega
        have hbc : b < cur.length := by omega
        have hac : a < cur.length := by omega
        have he : cur[b] = l[b] := by
          have e1 : (cur.drop b)[0]? = (l.drop b)[0]? := by rw [H2.out]
          rw [List.getElem?_drop, List.getElem?_drop, Nat.add_zero, List.getElem?_eq_getElem hbc, List.getElem?_eq_getElem hbl'] at e1
          exact Option.some.inj e1
        have c0 := HOr.out.cells hbc 0 _ rfl
        have c1 := HOr.out.cells hbc 1 _ rfl
        rw [he] at c0 c1
        have HE := Lib.hid he
        have c0 : wr.cell? ⟨g, b * 2, none⟩ = some (.string l[b].key) := c0
        have c1 : wr.cell? ⟨g, b * 2 + 1, none⟩ = some (.string l[b].val) := c1
        have hbi : (b : Int) < (n : Int) := by omega
        clear he hcl'
        go_wp2_with fail
        refine (has1 l[b] key B _ (by simp; omega) (box_ ((Q.refl _).alloc _) HCl.out)).mono ?_
        rintro e w2 ⟨rfl, q2⟩
        have O2 := Lib.hid ((HOr.out.alloc (.cells #[.string l[b].key, .string l[b].val] 99)).q q2)
        have B2 := Lib.hid ((HBl.out.alloc (by have := HBl.out.size; omega) (.cells #[.string l[b].key, .string l[b].val] 99)).trans (q2.below.mono (by simp; have := HBl.out.size; omega)))
        have C2 := Lib.hid (box_ (((Q.refl wr).alloc (.cells #[.string l[b].key, .string l[b].val] 99)).trans q2) HCl.out)
        obtain ⟨x0, x1⟩ : w2.cell? ⟨wr.heap.size, 0, none⟩ = some (.string l[b].key) ∧ w2.cell? ⟨wr.heap.size, 1, none⟩ = some (.string l[b].val) := ⟨box_ q2 (by simp), box_ q2 (by simp)⟩
        have ac0 : w2.cell? ⟨g, a * 2, none⟩ = some (.string cur[a].key) := O2.out.cells hac 0 _ rfl
        have ac1 : w2.cell? ⟨g, a * 2 + 1, none⟩ = some (.string cur[a].val) := O2.out.cells hac 1 _ rfl
        have f0 : w2.frozen? ⟨g, a * 2, none⟩ = false := O2.out.free _
        have f1 : w2.frozen? ⟨g, a * 2 + 1, none⟩ = false := O2.out.free _
        have hai : (a : Int) < (n : Int) := by omega
        clear q2 c0 c1
        by_cases hh : hasK key l[b] = true
        · have HS := Lib.hid (filter_skip hbl' H1.out H2.out hh)
          go_wp2
          go_roundw
          case rel => exact ⟨a, b + 1, cur, rfl, by go_num, by omega, by omega, O2.out, HS.out.1, HS.out.2, B2.out, C2.out⟩
          case measure => simp [intOf]; omega
        · have hf : hasK key l[b] = false := by simpa using hh
          have HS := Lib.hid (filter_keep hbl' hab (HCu.out.trans HL.out.symm) H1.out H2.out hf)
          have O3 := Lib.hid (O2.out.put hac l[b])
          have B3 := Lib.hid (O2.out.below_set B2.out (pairK.row l[b]) (a * 2))
          have hgB : (⟨g, a * 2, none⟩ : Addr) ≠ ⟨B, 0, none⟩ := by intro e; injection e with e; exact hbg e.symm
          have hgB1 : (⟨g, a * 2 + 1, none⟩ : Addr) ≠ ⟨B, 0, none⟩ := by intro e; injection e with e; exact hbg e.symm
          have C3 := Lib.hid (show ((w2.setCell ⟨g, a * 2, none⟩ (.string l[b].key)).setCell ⟨g, a * 2 + 1, none⟩ (.string l[b].val)).cell? ⟨B, 0, none⟩ = some (.string key) by
            rw [World.cell?_setCell_other _ _ _ _ hgB1, World.cell?_setCell_other _ _ _ _ hgB]; exact C2.out)
          clear hh
          go_wp2
          go_roundw
          case rel => exact ⟨a + 1, b + 1, cur.set a l[b], by go_num, by go_num, by omega, by omega, O3.out, HS.out.1, HS.out.2, B3.out, C3.out⟩
          case measure => simp [intOf]; omega
      · have hbn' : b = n := by omega
        have HBN := Lib.hid hbn'
        have HLD := Lib.hid (show drop l key = cur.take a by rw [H1.out, hbn', ← HL.out, List.take_length]; rfl)
        have HLA := Lib.hid (show (drop l key).length = a by rw [HLD.out, List.length_take, hcl', Nat.min_eq_left (by omega)])
        obtain ⟨xs, hr, hx⟩ := HOr.out.row
        obtain ⟨zs, hzl, hcl⟩ := run_clearK pairK hr (fun u hu => by simp [pairK, Value.cells] at hu; rcases hu with rfl | rfl <;> rfl) zero_pair 0 (a * 2) (n - a) 0 (by omega) (by show a * 2 + (n - a) * 2 ≤ c * 2; omega)
        have hcl := hcl (c - a)
        have hcl : (Builtin.clear_ #[38] 0 #[.slice (some ⟨g, a * 2, none⟩) (n - a) (c - a)]).run Try.prog wr = .ok (.tuple #[]) (wr.setCells g (a * 2) zs) := hcl
        have HZ := Lib.hid hzl
        have HR := Lib.hid hr
        have HX := Lib.hid hx
        have hca : ¬ (c = a) := by omega
        have han : a ≤ n := by omega
        have hac2 : a ≤ c := by omega
        have B3 := Lib.hid (HOr.out.below_set HBl.out zs (a * 2))
        generalize hW : wr.setCells g (a * 2) zs = W3 at hcl B3
        have HW := Lib.hid hW
        clear hr hx hzl hW hbn' hcl'
        go_wp2_with (simp only [hcl])
        go_ret
        refine ⟨_, c, by rw [HLA.out]; rfl, ?_, B3.out⟩
        rw [HLA.out, HLD.out, ← HW.out]
        have h1 := HR.out.sets (a * 2) zs (by rw [HZ.out]; show a * 2 + (n - a) * 2 ≤ c * 2; omega)
        refine h1.own hac2 ?_
        have h2 : (xs.take (a * 2)).length = a * pairK.k := by rw [List.length_take, HR.out.len]; show min (a * 2) (c * 2) = a * 2; omega
        rw [List.append_assoc, List.take_left' h2, pairK.rows_take, ← HX.out, List.take_take]
        congr 1
        show a * 2 = min (a * 2) (n * 2)
        omega
end Go.Proofs.Ytlbjobbmjccekaa

/- Contracts: package table: what a deed does, Apply, Put, Drop, Range, Right. -/
namespace Go.Proofs.Ytlbjobbmjccekaa
set_option maxRecDepth 100000
open Go.RowKit Prm
set_option linter.unusedVariables false
set_option linter.unusedSimpArgs false

theorem act_put {l : List Pr} {w : Wr} (h : w.del = false) : act l w = put l ⟨w.key, w.val⟩ := by unfold act; rw [h]; rfl
theorem act_drop {l : List Pr} {w : Wr} (h : w.del = true) : act l w = drop l w.key := by unfold act; rw [h]; rfl

/-- a deed's cells hold it. -/
theorem lit_pair (w : World) (p : Pr) : Lst pairK (w.alloc (.cells #[.string p.key, .string p.val] 99)) (some ⟨w.heap.size, 0, none⟩) 1 [p] := (OwnK.lit1 pairK w 0 (Nat.zero_le _) p).lst
theorem lit_write (w : World) (p : Wr) : In_ writeK (w.alloc (.cells #[.string p.key, .string p.val, .bool p.del] 63)) (some ⟨w.heap.size, 0, none⟩) 1 1 [p] :=
  ⟨(OwnK.lit1 writeK w 0 (Nat.zero_le _) p).lst, fun e => by (cases e), Nat.le_refl _, by unfold maxLen; omega, by show 1 * 40 ≤ _; omega⟩


theorem alloc3_mid (w : World) (o1 : Obj) (cs : Array Value) (t : TypeId) (o3 : Obj) : (((w.alloc o1).alloc (.cells cs t)).alloc o3).heap[w.heap.size + 1]? = some (.cells cs t (0, 0)) := by
  rw [heap_alloc_old _ _ (by simp)]
  have := heap_alloc_new (w.alloc o1) (.cells cs t)
  simpa using this
/-- the program's way through a put where no pair has the key. -/
def PutNew (base : Nat) (A : Option Addr) (n c : Nat) (l : List Pr) (p : Pr) (at_ : Int) : Prop :=
  ∀ (W : World) (vb : Nat), OwnK pairK W base A n c l → W.heap[vb]? = some (.cells #[.string p.key, .string p.val] 99 (0, 0)) → (∀ g, A = some ⟨g, 0, none⟩ → vb ≠ g) → base ≤ W.heap.size →
    Calls Try.prog 86 #[.slice A n c, .int .i64 at_, .slice (some ⟨vb, 0, none⟩) 1 1] W fun e w' => RetB pairK W base (n + 1) (put l p) e w'
theorem put_new_end {base : Nat} {A : Option Addr} {n c : Nat} {l : List Pr} {p : Pr} (hl : l.length = n) (hn : (n + 1) * 32 ≤ 140737488355328) (hall : ∀ a ∈ l, hasK p.key a = false) (ha : ∀ a ∈ l, aboveK p.key a = false) : PutNew base A n c l p n := by
  intro W vb ho hv hne hb
  have e : put l p = l ++ [p] := by
    rw [put_new hall, ins_at (i := l.length) (Nat.le_refl _) (fun h => absurd h (Nat.lt_irrefl _)) (fun j hj _ => ha _ (List.getElem_mem hj))]; simp
  rw [e]
  refine insert_end base A n c l p vb W ho ?_ hn hb
  refine ⟨by simp [Kind.rows, pairK], fun j u hu => ⟨_, rfl, (Array.getElem?_eq_some_iff.1 hv).1, ?_⟩⟩
  rw [Addr.add_lit, Nat.zero_add]
  exact (cell_of_row W vb j _ _ _ hv).trans (by simpa [Kind.rows, pairK] using hu)
theorem put_new_mid {base : Nat} {A : Option Addr} {n c : Nat} {l : List Pr} {p : Pr} {i : Nat} (hl : l.length = n) (hn : (n + 1) * 32 ≤ 140737488355328) (hall : ∀ a ∈ l, hasK p.key a = false) (hi : i < l.length) (hia : aboveK p.key l[i] = true) (hf : ∀ j, ∀ hj : j < l.length, j < i → aboveK p.key l[j] = false) : PutNew base A n c l p i := by
  intro W vb ho hv hne hb
  have e : put l p = l.take i ++ p :: l.drop i := by rw [put_new hall, ins_at (Nat.le_of_lt hi) (fun _ => hia) hf]
  rw [e]
  obtain ⟨g, rfl⟩ : ∃ g, A = some ⟨g, 0, none⟩ := by
    rcases ho.parts with ⟨_, e, _⟩ | ⟨g, cur, rfl, _⟩
    · omega
    · exact ⟨g, rfl⟩
  by_cases hr : n + 1 ≤ c
  · exact insert_shift base g n c i l p vb W ho hv (hne g rfl) (by omega) hr
  · exact insert_grow base g n c i l p vb W ho hv (by omega) (by omega) hn hb

set_option maxHeartbeats 4000000 in
theorem deed_put_new (key val : ByteArray) (del : Bool) (base : Nat) (A : Option Addr) (n c : Nat) (l : List Pr) (w : World) (h : OwnK pairK w base A n c l) (hn : (n + 1) * 32 ≤ 140737488355328) (hbase : base ≤ w.heap.size) (hall : ∀ a ∈ l, hasK key a = false) (ix : Int)
    (hix : idx (aboveK key) l 0 = ix) (at_ : Int) (hat : (ix < 0 ∧ at_ = n) ∨ (0 ≤ ix ∧ at_ = ix)) (hput : PutNew base A n c l ⟨key, val⟩ at_) :
    Calls Try.prog 81 #[.agg #[.string key, .string val, .bool del], .slice A n c] w fun e w' => RetB pairK w base (n + 1) (put l ⟨key, val⟩) e w' := by
  have HO := Lib.hid h
  have hp : idx (hasK key) l 0 = -1 := (idx_cases (hasK key) l 0).elim (fun h => h.1) (fun ⟨k, hk, _, e, _⟩ => by rw [hall _ (List.getElem_mem hk)] at e; cases e)
  have hcap := h.cap
  have hle := h.le
  have hgl := fun g (e : A = some ⟨g, 0, none⟩) => (show g < w.heap.size from (by subst e; exact h.block_lt.2))
  have HM := Nat.le_trans hle hcap
  unfold maxLen at hcap
  have W1 : Q w (((w.alloc (.cells #[.string key, .string val, .bool del] 113)).alloc (.cells #[.string key, .string val] 99)).alloc (.cells #[.string key] 9)) := (((Q.refl w).alloc _).alloc _).alloc _
  have K1 := pindexFunc _ _ key (fun p B w => has1 p key B w) (.inl rfl) (w.heap.size + 1 + 1) A n c l (((w.alloc (.cells #[.string key, .string val, .bool del] 113)).alloc (.cells #[.string key, .string val] 99)).alloc (.cells #[.string key] 9)) (by simp) (by simp [World.cell?_alloc_at, World.cell?_alloc_past]) (h.lst.q W1) HM
  rw [hp] at K1
  have K1 := Lib.hid K1
  have HW := Lib.hid W1
  have HX := Lib.hid hix
  have HP := Lib.hid hput
  have HG := Lib.hid hgl
  have HM := Lib.hid HM
  have hPb : Hid ((((w.alloc (.cells #[.string key, .string val, .bool del] 113)).alloc (.cells #[.string key, .string val] 99)).alloc (.cells #[.string key] 9)).heap[w.heap.size + 1]? = some (.cells #[.string key, .string val] 99 (0, 0))) := Lib.hid (alloc3_mid _ _ _ _ _)
  clear h hp hall hix hput hgl W1
  go_enter Try.func81, Try.ntmps81
  go_wp2_with fail
  refine (thas_any key _).mono ?_
  rintro e w1 ⟨rfl, rfl⟩
  go_wp2_with fail
  refine K1.out.mono ?_
  rintro e w2 ⟨rfl, q2⟩
  have Q2 := Lib.hid (HW.out.trans q2)
  have hk0 : w2.cell? ⟨w.heap.size, 0, none⟩ = some (.string key) := box_ ((((Q.refl (w.alloc (.cells #[.string key, .string val, .bool del] 113))).alloc _).alloc _).trans q2) (by simp)
  have hP2 := Lib.hid ((q2.below.block _ (by simp)).trans hPb.out)
  have hs2 := Lib.hid (show w.heap.size + 3 ≤ w2.heap.size by have := q2.size; simp at this; omega)
  clear q2
  have K2 := pindexFunc _ _ key (fun p B w => above1 p key B w) (.inr rfl) w2.heap.size A n c l (w2.alloc (.cells #[.string key] 9)) (by simp) (by simp [World.cell?_alloc_at, World.cell?_alloc_past]) (HO.out.lst.q (Q2.out.alloc _)) HM.out
  rw [HX.out] at K2
  have K2 := Lib.hid K2
  go_wp2_with fail
  refine (above_any key _).mono ?_
  rintro e w3 ⟨rfl, rfl⟩
  go_wp2_with fail
  refine K2.out.mono ?_
  rintro e w4 ⟨rfl, q4⟩
  have Q4 := Lib.hid ((Q2.out.alloc _).trans q4)
  have q24 := ((Q.refl w2).alloc (.cells #[.string key] 9)).trans q4
  have hp0 : w4.cell? ⟨w.heap.size + 1, 0, none⟩ = some (.string key) := (q24.below.cell (p := ⟨w.heap.size + 1, 0, none⟩) (by show w.heap.size + 1 < _; have := hs2.out; omega)).trans (cell_of_row w2 _ 0 _ _ _ hP2.out)
  have hp1 : w4.cell? ⟨w.heap.size + 1, 1, none⟩ = some (.string val) := (q24.below.cell (p := ⟨w.heap.size + 1, 1, none⟩) (by show w.heap.size + 1 < _; have := hs2.out; omega)).trans (cell_of_row w2 _ 1 _ _ _ hP2.out)
  have hz := Lib.hid (Q4.out.size)
  have K3 := HP.out (w4.alloc (.cells #[.string key, .string val] 99)) w4.heap.size (HO.out.q (Q4.out.alloc _)) (heap_alloc_new w4 _) (fun g e => by have h1 := HG.out g e; have h2 := hz.out; omega) (by have h2 := hz.out; simp; omega)
  have K3 := Lib.hid K3
  clear hk0 q4 q24
  rcases hat with ⟨h1, h2⟩ | ⟨h1, h2⟩
  all_goals
    have H2 := Lib.hid h2
    clear h2
    go_wp2_with fail
    rw [← H2.out]
    refine K3.out.mono ?_
    rintro e w5 ⟨A5, c5, rfl, o5, b5⟩
    go_wp2
    go_ret
    exact ⟨A5, c5, rfl, o5, ((Q4.out.alloc _).below.mono hbase).trans b5⟩

set_option maxHeartbeats 4000000 in
theorem deed_put_has (key val : ByteArray) (del : Bool) (base : Nat) (A : Option Addr) (n c : Nat) (l : List Pr) (w : World) (h : OwnK pairK w base A n c l) (hbase : base ≤ w.heap.size) (k : Nat) (hk : k < l.length) (hkn : hasK key l[k] = true) (hp : idx (hasK key) l 0 = k) :
    Calls Try.prog 81 #[.agg #[.string key, .string val, .bool del], .slice A n c] w fun e w' => RetB pairK w base n (l.set k ⟨key, val⟩) e w' := by
  have HO := Lib.hid h
  have HL := Lib.hid h.len
  have hcap := h.cap
  have hle := h.le
  have hkn' : k < n := by have := h.len; omega
  have HM := Nat.le_trans hle hcap
  unfold maxLen at hcap
  obtain ⟨g, rfl⟩ : ∃ g, A = some ⟨g, 0, none⟩ := by
    rcases h.parts with ⟨_, e, _⟩ | ⟨g, cur, rfl, _⟩
    · omega
    · exact ⟨g, rfl⟩
  have hgb := h.block_lt
  have W1 : Q w (((w.alloc (.cells #[.string key, .string val, .bool del] 113)).alloc (.cells #[.string key, .string val] 99)).alloc (.cells #[.string key] 9)) := (((Q.refl w).alloc _).alloc _).alloc _
  have K1 := pindexFunc _ _ key (fun p B w => has1 p key B w) (.inl rfl) (w.heap.size + 1 + 1) (some ⟨g, 0, none⟩) n c l (((w.alloc (.cells #[.string key, .string val, .bool del] 113)).alloc (.cells #[.string key, .string val] 99)).alloc (.cells #[.string key] 9)) (by simp) (by simp [World.cell?_alloc_at, World.cell?_alloc_past]) (h.lst.q W1) HM
  rw [hp] at K1
  have K1 := Lib.hid K1
  have HW := Lib.hid W1
  have HM := Lib.hid HM
  clear h hp hkn W1
  go_enter Try.func81, Try.ntmps81
  go_wp2_with fail
  refine (thas_any key _).mono ?_
  rintro e w1 ⟨rfl, rfl⟩
  go_wp2_with fail
  refine K1.out.mono ?_
  rintro e w2 ⟨rfl, q2⟩
  have Q2 := Lib.hid (HW.out.trans q2)
  obtain ⟨x0, x1⟩ : w2.cell? ⟨w.heap.size + 1, 0, none⟩ = some (.string key) ∧ w2.cell? ⟨w.heap.size + 1, 1, none⟩ = some (.string val) := ⟨box_ q2 (by simp [World.cell?_alloc_at, World.cell?_alloc_past]), box_ q2 (by simp [World.cell?_alloc_at, World.cell?_alloc_past])⟩
  have O2 := Lib.hid (HO.out.q Q2.out)
  have ac0 : w2.cell? ⟨g, k * 2, none⟩ = some (.string l[k].key) := O2.out.cells hk 0 _ rfl
  have ac1 : w2.cell? ⟨g, k * 2 + 1, none⟩ = some (.string l[k].val) := O2.out.cells hk 1 _ rfl
  have f0 : w2.frozen? ⟨g, k * 2, none⟩ = false := O2.out.free _
  have f1 : w2.frozen? ⟨g, k * 2 + 1, none⟩ = false := O2.out.free _
  have O3 := Lib.hid (O2.out.put hk ⟨key, val⟩)
  have B3 := Lib.hid (O2.out.below_set (Q2.out.below.mono hbase) (pairK.row ⟨key, val⟩) (k * 2))
  have hki : (k : Int) < (n : Int) := by omega
  clear q2
  go_wp2
  go_ret
  exact ⟨_, c, rfl, O3.out, B3.out⟩

/-- what a deed does. -/
theorem deed_put (x : Wr) (base : Nat) (A : Option Addr) (n c : Nat) (l : List Pr) (w : World) (h : OwnK pairK w base A n c l) (hn : (n + 1) * 32 ≤ 140737488355328) (hbase : base ≤ w.heap.size) :
    Calls Try.prog 81 #[x.v, .slice A n c] w fun e w' => RetB pairK w base (put l ⟨x.key, x.val⟩).length (put l ⟨x.key, x.val⟩) e w' := by
  obtain ⟨key, val, del⟩ := x
  have hl := h.len
  rcases idx_cases (hasK key) l 0 with ⟨hp, hall⟩ | ⟨k, hk, hp, hkn, hfirst⟩
  · have e : (put l (⟨key, val⟩ : Pr)).length = n + 1 := by rw [put_new (p := ⟨key, val⟩) hall, ins_len, hl]
    simp only [e]
    rcases idx_cases (aboveK key) l 0 with ⟨hq, halla⟩ | ⟨i, hi, hq, hia, hfa⟩
    · exact deed_put_new key val del base A n c l w h hn hbase hall (-1) hq n (.inl ⟨by omega, rfl⟩) (put_new_end hl hn hall halla)
    · exact deed_put_new key val del base A n c l w h hn hbase hall _ (hq.trans (by simp : ((0 + i : Nat) : Int) = (i : Int))) i (.inr ⟨by omega, rfl⟩) (put_new_mid hl hn hall hi hia hfa)
  · have e : put l (⟨key, val⟩ : Pr) = l.set k ⟨key, val⟩ := put_has (p := ⟨key, val⟩) hk hkn hfirst
    have e2 : (put l (⟨key, val⟩ : Pr)).length = n := by rw [e, List.length_set, hl]
    simp only [e2]
    rw [e]
    exact deed_put_has key val del base A n c l w h hbase k hk hkn (hp.trans (by simp))

set_option maxHeartbeats 4000000 in
theorem deed_drop (x : Wr) (base : Nat) (A : Option Addr) (n c : Nat) (l : List Pr) (w : World) (h : OwnK pairK w base A n c l) (hbase : base ≤ w.heap.size) :
    Calls Try.prog 80 #[x.v, .slice A n c] w fun e w' => RetB pairK w base (drop l x.key).length (drop l x.key) e w' := by
  obtain ⟨key, val, del⟩ := x
  have hgl := fun g (e : A = some ⟨g, 0, none⟩) => (show g < w.heap.size from (by subst e; exact h.block_lt.2))
  have W1 : Q w ((w.alloc (.cells #[.string key, .string val, .bool del] 113)).alloc (.cells #[.string key] 9)) := ((Q.refl w).alloc _).alloc _
  have K1 := Lib.hid (deleteFunc key (w.heap.size + 1) base A n c l ((w.alloc (.cells #[.string key, .string val, .bool del] 113)).alloc (.cells #[.string key] 9)) (h.q W1) (by simp) (by simp [World.cell?_alloc_at, World.cell?_alloc_past]) (fun g e => by have := hgl g e; omega) (by simp; omega))
  have HW := Lib.hid W1
  clear h hgl W1
  go_enter Try.func80, Try.ntmps80
  go_wp2_with fail
  refine (thas_any key _).mono ?_
  rintro e w1 ⟨rfl, rfl⟩
  go_wp2_with fail
  refine K1.out.mono ?_
  rintro e w2 ⟨A2, c2, rfl, o2, b2⟩
  go_wp2
  go_ret
  exact ⟨A2, c2, rfl, o2, (HW.out.below.mono hbase).trans b2⟩

theorem deed_act (x : Wr) (w : World) :
    Calls Try.prog 71 #[x.v] w fun e w' => e = .returned (.func (.func (if x.del then 80 else 81)) #[x.v] #[]) ∧ Q w w' := by
  obtain ⟨key, val, del⟩ := x
  cases del
  all_goals
    go_enter Try.func71, Try.ntmps71
    go_wp2
    go_ret
    exact ⟨rfl, (Q.refl _).alloc _⟩
end Go.Proofs.Ytlbjobbmjccekaa

/- Contracts: table.Apply, Put, Drop, Range, Right. -/
namespace Go.Proofs.Ytlbjobbmjccekaa
set_option maxRecDepth 100000
open Go.RowKit Prm
set_option linter.unusedVariables false
set_option linter.unusedSimpArgs false

theorem deed_act_put (x : Wr) (w : World) (h : x.del = false) :
    Calls Try.prog 71 #[.agg #[.string x.key, .string x.val, .bool x.del]] w fun e w' => e = .returned (.func (.func 81) #[x.v] #[]) ∧ Q w w' := by
  have := deed_act x w
  rw [h] at this
  exact this
theorem deed_act_drop (x : Wr) (w : World) (h : x.del = true) :
    Calls Try.prog 71 #[.agg #[.string x.key, .string x.val, .bool x.del]] w fun e w' => e = .returned (.func (.func 80) #[x.v] #[]) ∧ Q w w' := by
  have := deed_act x w
  rw [h] at this
  exact this

/-- what Apply has behind k writes. -/
def ApS (w : World) (l : List Pr) (ws : List Wr) (k : Nat) (v : Value) (wr : World) : Prop :=
  ∃ A1 c1, v = .slice A1 (apply l (ws.take k)).length c1 ∧ OwnK pairK wr w.heap.size A1 (apply l (ws.take k)).length c1 (apply l (ws.take k)) ∧ Q w wr

set_option maxHeartbeats 4000000 in
theorem apply_any (A A2 : Option Addr) (n c m c2 : Nat) (l : List Pr) (ws : List Wr) (w : World) (hd : In_ pairK w A n c l) (hw : Lst writeK w A2 m ws) (hb : (n + m) * 32 ≤ 140737488355328) :
    Calls Try.prog 49 #[.slice A n c, .slice A2 m c2] w fun e w' => RetL pairK w (apply l ws).length (apply l ws) e w' := by
  have HD := Lib.hid hd
  have HW := Lib.hid hw
  have HL := Lib.hid hd.len
  have HWL := Lib.hid hw.len
  clear hd hw
  go_enter Try.func49, Try.ntmps49
  go_wp2_with fail
  refine (clonePairs A n c l _ HD.out).mono ?_
  rintro e w1 ⟨A1, c1, rfl, o1, q1⟩
  have S0 := Lib.hid (show ApS w l ws 0 (.slice A1 n c1) w1 from ⟨A1, c1, by rw [← HL.out]; rfl, by rw [show (apply l (ws.take 0)).length = n from HL.out]; exact o1, q1⟩)
  clear o1 q1
  go_wp2
  go_loopw [0, 12] (fun v i wr => ∃ k : Nat, k ≤ m ∧ i = .int .i64 k ∧ ApS w l ws k v wr) (fun _ i _ => m - (intOf i).toNat)
  case atStart => exact ⟨0, Nat.zero_le _, rfl, S0.out⟩
  case round =>
    obtain ⟨k, hk, rfl, A3, c3, rfl, o3, q3⟩ := hrel
    have O3 := Lib.hid o3
    have Q3 := Lib.hid q3
    clear o3 q3
    by_cases hlt : k < m
    · have hkl : k < ws.length := by have := HWL.out; omega
      have hln : (apply l (ws.take k)).length ≤ n + k := by
        have h1 := apply_len l (ws.take k)
        have h2 := HL.out
        have h3 := List.length_take_le k ws
        omega
      have hsn := apply_snoc l ws hkl
      obtain ⟨ad, rfl, hab, x0, x1, x2⟩ := load_write (HW.out.q Q3.out) hlt hkl
      have HS := Lib.hid hsn
      have HN := Lib.hid (show ((apply l (ws.take k)).length + 1) * 32 ≤ 140737488355328 by omega)
      clear hsn hln
      have hkm : (k : Int) < (m : Int) := by omega
      by_cases hdl : ws[k].del = true
      · have hE := Lib.hid (show apply l (ws.take (k + 1)) = drop (apply l (ws.take k)) ws[k].key by rw [HS.out, act_drop hdl])
        have HDl := Lib.hid hdl
        clear hdl
        generalize ws[k] = x at x0 x1 x2 hE HDl
        go_wp2_with fail
        refine (deed_act_drop x _ HDl.out).mono ?_
        rintro e w4 ⟨rfl, q4⟩
        have Q4 := Lib.hid ((Q.refl wr).alloc (.cells #[.string x.key, .string x.val, .bool x.del] 63) |>.trans q4)
        clear q4
        go_wp2_with fail
        refine (deed_drop x w.heap.size A3 _ c3 _ _ (O3.out.q Q4.out) (Q3.out.trans Q4.out).size).mono ?_
        rintro e w5 ⟨A5, c5, rfl, o5, b5⟩
        have S5 := Lib.hid (show ApS w l ws (k + 1) (.slice A5 (drop (apply l (ws.take k)) x.key).length c5) w5 from ⟨A5, c5, by rw [hE.out], by rw [hE.out]; exact o5, (Q3.out.trans Q4.out).below.trans b5⟩)
        clear o5 b5
        go_wp2
        go_roundw
        case rel => exact ⟨k + 1, by omega, by go_num, S5.out⟩
        case measure => simp [intOf]; omega
      · have hdf : ws[k].del = false := by simpa using hdl
        have hE := Lib.hid (show apply l (ws.take (k + 1)) = put (apply l (ws.take k)) ⟨ws[k].key, ws[k].val⟩ by rw [HS.out, act_put hdf])
        have HDl := Lib.hid hdf
        clear hdl hdf
        generalize ws[k] = x at x0 x1 x2 hE HDl
        go_wp2_with fail
        refine (deed_act_put x _ HDl.out).mono ?_
        rintro e w4 ⟨rfl, q4⟩
        have Q4 := Lib.hid ((Q.refl wr).alloc (.cells #[.string x.key, .string x.val, .bool x.del] 63) |>.trans q4)
        clear q4
        go_wp2_with fail
        refine (deed_put x w.heap.size A3 _ c3 _ _ (O3.out.q Q4.out) HN.out (Q3.out.trans Q4.out).size).mono ?_
        rintro e w5 ⟨A5, c5, rfl, o5, b5⟩
        have S5 := Lib.hid (show ApS w l ws (k + 1) (.slice A5 (put (apply l (ws.take k)) ⟨x.key, x.val⟩).length c5) w5 from ⟨A5, c5, by rw [hE.out], by rw [hE.out]; exact o5, (Q3.out.trans Q4.out).below.trans b5⟩)
        clear o5 b5
        go_wp2
        go_roundw
        case rel => exact ⟨k + 1, by omega, by go_num, S5.out⟩
        case measure => simp [intOf]; omega
    · have hkm : k = m := by omega
      have HE := Lib.hid (show ws.take k = ws by rw [List.take_of_length_le (by rw [HWL.out]; omega)])
      clear hkm
      go_wp2
      go_ret
      exact ⟨A3, c3, by rw [HE.out]; rfl, by have := O3.out; rw [HE.out] at this; exact this, Q3.out⟩

theorem tput_any (key val : ByteArray) (A : Option Addr) (n c : Nat) (l : List Pr) (w : World) (hd : In_ pairK w A n c l) (hb : (n + 1) * 32 ≤ 140737488355328) :
    Calls Try.prog 50 #[.slice A n c, .string key, .string val] w fun e w' => RetL pairK w (put l ⟨key, val⟩).length (put l ⟨key, val⟩) e w' := by
  have hw := (lit_write w ⟨key, val, false⟩).lst
  have K1 := Lib.hid (apply_any A (some ⟨w.heap.size, 0, none⟩) n c 1 1 l [⟨key, val, false⟩] _ (hd.q ((Q.refl w).alloc (.cells #[.string key, .string val, .bool false] 63))) hw hb)
  clear hd hw
  go_enter Try.func50, Try.ntmps50
  go_wp2_with fail
  refine K1.out.mono ?_
  rintro e w1 ⟨A1, c1, rfl, o1, q1⟩
  rw [show apply l [⟨key, val, false⟩] = put l ⟨key, val⟩ from rfl] at o1 ⊢
  go_wp2
  go_ret
  exact ⟨A1, c1, rfl, o1.lower (by simp), ((Q.refl w).alloc _).trans q1⟩

end Go.Proofs.Ytlbjobbmjccekaa

/- Contracts: table.Range, table.Right. -/
namespace Go.Proofs.Ytlbjobbmjccekaa
set_option maxRecDepth 100000
open Go.RowKit Prm
set_option linter.unusedVariables false
set_option linter.unusedSimpArgs false

def inR (lo hi : ByteArray) (p : Pr) : Bool := btw lo hi p.key
theorem range_full {l : List Pr} {lo hi : ByteArray} {most : Int} {k : Nat} (h : k = l.length) (hl : ((l.take k).filter (inR lo hi)).length ≤ most.toNat) : range l lo hi most = (l.take k).filter (inR lo hi) := by
  subst h
  rw [List.take_length] at hl ⊢
  unfold range
  exact List.take_of_length_le hl
theorem range_cut {l : List Pr} {lo hi : ByteArray} {most : Int} {k : Nat} (hl : ((l.take k).filter (inR lo hi)).length ≤ most.toNat) (hm : most ≤ ((l.take k).filter (inR lo hi)).length) : range l lo hi most = (l.take k).filter (inR lo hi) := by
  have e : ((l.take k).filter (inR lo hi)).length = most.toNat := by omega
  unfold range
  have e2 : l.filter (fun p => btw lo hi p.key) = (l.take k).filter (inR lo hi) ++ (l.drop k).filter (inR lo hi) := by
    rw [← List.filter_append, List.take_append_drop]; rfl
  rw [e2, ← e, List.take_left]
theorem filter_yes {l : List Pr} {f : Pr → Bool} {k : Nat} (hk : k < l.length) (h : f l[k] = true) : (l.take (k + 1)).filter f = (l.take k).filter f ++ [l[k]] := by
  rw [List.take_succ_eq_append_getElem hk, List.filter_append, List.filter_cons, h]; rfl
theorem filter_no {l : List Pr} {f : Pr → Bool} {k : Nat} (hk : k < l.length) (h : f l[k] = false) : (l.take (k + 1)).filter f = (l.take k).filter f := by
  rw [List.take_succ_eq_append_getElem hk, List.filter_append, List.filter_cons, h]; simp

/-- what a range has behind k pairs. -/
def RgS (w : World) (l : List Pr) (lo hi : ByteArray) (most : Int) (k : Nat) (v : Value) (wr : World) : Prop :=
  ∃ A1 c1, v = .slice A1 ((l.take k).filter (inR lo hi)).length c1 ∧ OwnK pairK wr w.heap.size A1 ((l.take k).filter (inR lo hi)).length c1 ((l.take k).filter (inR lo hi)) ∧ Q w wr ∧ ((l.take k).filter (inR lo hi)).length ≤ most.toNat

theorem right_cons (p q : Pr) (l : List Pr) : right (p :: q :: l) = (lt p.key q.key && right (q :: l)) := rfl
theorem right_all : ∀ {l : List Pr}, (∀ i, ∀ h : i + 1 < l.length, lt (l[i]'(by omega)).key l[i + 1].key = true) → right l = true
  | [], _ => rfl
  | [p], _ => rfl
  | p :: q :: l, h => by
    rw [right_cons, show lt p.key q.key = true from h 0 (by simp), Bool.true_and]
    exact right_all fun i hi => h (i + 1) (by simpa using hi)
theorem right_not : ∀ {l : List Pr} {i : Nat} (h : i + 1 < l.length), lt (l[i]'(by omega)).key l[i + 1].key = false → right l = false
  | p :: q :: l, 0, _, h => by rw [right_cons]; simp only [List.getElem_cons_zero, List.getElem_cons_succ] at h; rw [h]; rfl
  | p :: q :: l, i + 1, hi, h => by
    rw [right_cons, right_not (l := q :: l) (i := i) (by simpa using hi) h, Bool.and_false]

set_option maxHeartbeats 2000000 in
theorem right_any (A : Option Addr) (n c : Nat) (l : List Pr) (w : World) (hd : Lst pairK w A n l) (hmx : n ≤ maxLen) :
    Calls Try.prog 68 #[.slice A n c] w fun e w' => e = .returned (.bool (right l)) ∧ Q w w' := by
  have HD := Lib.hid hd
  have HL := Lib.hid hd.len
  unfold maxLen at hmx
  clear hd
  go_enter Try.func68, Try.ntmps68
  go_wp2
  go_loopw [3] (fun i wr => ∃ k : Nat, k ≤ n ∧ i = .int .i64 ((k : Int) + 1) ∧ Q w wr ∧ ∀ j, ∀ h : j + 1 < l.length, j < k → lt (l[j]'(by omega)).key l[j + 1].key = true) (fun i _ => n + 1 - (intOf i).toNat)
  case atStart => exact ⟨0, Nat.zero_le _, by go_num, Q.refl _, fun j _ h => by omega⟩
  case round =>
    obtain ⟨k, hk, rfl, q, hall⟩ := hrel
    have HA := Lib.hid hall
    have HQ := Lib.hid q
    clear hall q
    by_cases hlt : k + 1 < n
    · have hkl : k + 1 < l.length := by have := HL.out; omega
      have hkl0 : k < l.length := by omega
      obtain ⟨ad, rfl, hab, x0, x1⟩ := load_pair (HD.out.q HQ.out) (Nat.lt_of_succ_lt hlt) hkl0
      obtain ⟨ad', e, hab', y0, y1⟩ := load_pair (HD.out.q HQ.out) hlt hkl
      injection e with e
      subst e
      have e0 : (k : Int) + 1 - 1 = k := by omega
      have e1 : IntKind.i64.wrap ((k : Int) + 1 - 1) = k := by rw [IntKind.wrap_i64]; omega
      have e2 : ((k : Int) + 1).toNat = k + 1 := by omega
      have e3 : (k : Int) + 1 < (n : Int) := by omega
      have e4 : (k : Int) < (n : Int) := by omega
      have e5 : (0 : Int) ≤ (k : Int) + 1 := by omega
      by_cases hh : lt l[k].key l[k + 1].key = true
      · have hb := leq_lt l[k + 1].key l[k].key
        rw [hh] at hb
        have HN := Lib.hid (fun (j : Nat) (h : j + 1 < l.length) (hj : j < k + 1) => show lt (l[j]'(by omega)).key l[j + 1].key = true from by
          by_cases e : j < k
          · exact HA.out j h e
          · have e : j = k := by omega
            subst e
            exact hh)
        clear hh x1 y1
        generalize l[k].key = a at x0 hb
        generalize l[k + 1].key = b at y0 hb
        go_wp2
        go_quiet (fail)
        all_goals
          go_wp2
          go_roundw
          case rel => exact ⟨k + 1, by omega, by go_num, HQ.out.drewN _, HN.out⟩
          case measure => simp [intOf]; omega
      · have hh' : lt l[k].key l[k + 1].key = false := by simpa using hh
        have hb := leq_lt l[k + 1].key l[k].key
        rw [hh'] at hb
        have HE := Lib.hid (right_not hkl hh')
        clear hh hh' x1 y1
        generalize l[k].key = a at x0 hb
        generalize l[k + 1].key = b at y0 hb
        go_wp2
        go_quiet (fail)
        all_goals
          go_wp2
          go_ret
          exact ⟨by rw [HE.out]; rfl, HQ.out.drewN _⟩
    · have HE := Lib.hid (show right l = true from right_all fun i hi => HA.out i hi (by have := HL.out; omega))
      have e3 : ¬ ((k : Int) + 1 < (n : Int)) := by omega
      go_wp2
      go_ret
      exact ⟨by rw [HE.out]; rfl, HQ.out⟩
end Go.Proofs.Ytlbjobbmjccekaa

/- Contract: the document's order of texts. -/
namespace Go.Proofs.Ytlbjobbmjccekaa
set_option maxRecDepth 100000
open Go.RowKit Prm
set_option linter.unusedVariables false
set_option linter.unusedSimpArgs false

theorem less_ne {a b : UInt8} (x y : List UInt8) (h : a ≠ b) : Op.bytesLess (a :: x) (b :: y) = decide (a.toNat < b.toNat) := by
  simp only [Op.bytesLess]
  rw [show (a == b) = false by simpa using h, Bool.false_and, Bool.or_false]
  rfl
theorem less_same (a : UInt8) (x y : List UInt8) : Op.bytesLess (a :: x) (a :: y) = Op.bytesLess x y := by
  simp [Op.bytesLess]
theorem ldrop_at (s : ByteArray) (k : Nat) (h : k < s.size) : s.data.toList.drop k = s[k] :: s.data.toList.drop (k + 1) := by
  rw [List.drop_eq_getElem_cons (by simpa using h)]; rfl
theorem drop_no (s : ByteArray) (k : Nat) (h : s.size ≤ k) : s.data.toList.drop k = [] := List.drop_of_length_le (by simpa using h)

set_option maxHeartbeats 2000000 in
theorem less_any (s t : ByteArray) (w : World) (hs : s.size ≤ maxLen) (ht : t.size ≤ maxLen) :
    Calls Try.prog 47 #[.string s, .string t] w fun e w' => e = .returned (.bool (lt s t)) ∧ ∃ n, w' = w.drewN n := by
  unfold maxLen at hs ht
  go_enter Try.func47, Try.ntmps47
  go_wp2
  go_loopw [5] (fun i wr => ∃ k : Nat, k ≤ s.size ∧ k ≤ t.size ∧ i = .int .i64 k ∧ (∃ n, wr = w.drewN n) ∧ lt s t = Op.bytesLess (s.data.toList.drop k) (t.data.toList.drop k)) (fun i _ => s.size - (intOf i).toNat)
  case atStart => exact ⟨0, Nat.zero_le _, Nat.zero_le _, rfl, ⟨0, rfl⟩, rfl⟩
  case round =>
    obtain ⟨k, hks, hkt, rfl, ⟨q, rfl⟩, hl⟩ := hrel
    have HL := Lib.hid hl
    clear hl
    by_cases h1 : k < s.size
    · by_cases h2 : k < t.size
      · have i1 : (k : Int) < (s.size : Int) := by omega
        have i2 : (k : Int) < (t.size : Int) := by omega
        by_cases hh : s[k] = t[k]
        · have hn : s[k].toNat = t[k].toNat := by rw [hh]
          have b1 : (s[k].toNat == t[k].toNat) = true := by simpa using hn
          have b2 : (s[k].toNat != t[k].toNat) = false := by simpa using hn
          have HS := Lib.hid (show lt s t = Op.bytesLess (s.data.toList.drop (k + 1)) (t.data.toList.drop (k + 1)) by rw [HL.out, ldrop_at s k h1, ldrop_at t k h2, hh, less_same])
          clear hh hn
          go_wp2
          go_quiet (fail)
          all_goals
            go_wp2
            go_roundw
            case rel => exact ⟨k + 1, by omega, by omega, by go_num, ⟨_, rfl⟩, HS.out⟩
            case measure => simp [intOf]; omega
        · have hn : s[k].toNat ≠ t[k].toNat := fun e => hh (UInt8.toNat_inj.1 e)
          have b1 : (s[k].toNat == t[k].toNat) = false := by simpa using hn
          have b2 : (s[k].toNat != t[k].toNat) = true := by simpa using hn
          have HS := Lib.hid (show lt s t = decide (s[k].toNat < t[k].toNat) by rw [HL.out, ldrop_at s k h1, ldrop_at t k h2, less_ne _ _ hh])
          clear hh hn
          go_wp2
          go_quiet (fail)
          all_goals
            go_wp2
            go_quiet (fail)
            all_goals
              go_wp2
              go_ret
              exact ⟨ret_bool (by rw [HS.out]; first | done | rfl | (simp; done) | (simp; omega)), by first | exact ⟨_, rfl⟩ | exact ⟨_, by rw [World.drewN_drewN]⟩ | exact ⟨_, by rw [World.drewN_drewN, World.drewN_drewN]⟩⟩
      · have HS := Lib.hid (show lt s t = false by rw [HL.out, drop_no t k (by omega)]; cases s.data.toList.drop k <;> rfl)
        have i1 : (k : Int) < (s.size : Int) := by omega
        have e3 : k = t.size := by omega
        subst e3
        go_wp2
        go_ret
        exact ⟨ret_bool (by rw [HS.out]; first | done | rfl | (simp; done) | (simp; omega)), by first | exact ⟨_, rfl⟩ | exact ⟨_, by rw [World.drewN_drewN]⟩ | exact ⟨_, by rw [World.drewN_drewN, World.drewN_drewN]⟩⟩
    · have e3 : k = s.size := by omega
      subst e3
      have HS := Lib.hid (show lt s t = decide (s.size < t.size) by
        rw [HL.out, drop_no s _ (Nat.le_refl _)]
        by_cases h2 : s.size < t.size
        · rw [ldrop_at t s.size h2, decide_eq_true h2]; rfl
        · rw [drop_no t _ (by omega), decide_eq_false h2]; rfl)
      go_wp2
      go_ret
      exact ⟨ret_bool (by rw [HS.out]; first | done | rfl | (simp; done) | (simp; omega)), by first | exact ⟨_, rfl⟩ | exact ⟨_, by rw [World.drewN_drewN]⟩ | exact ⟨_, by rw [World.drewN_drewN, World.drewN_drewN]⟩⟩
end Go.Proofs.Ytlbjobbmjccekaa

/- Contracts: the document's answer for pairs: Same, Between, Right, Find, Drop, Range. -/
namespace Go.Proofs.Ytlbjobbmjccekaa
set_option maxRecDepth 100000
open Go.RowKit Prm
set_option linter.unusedVariables false
set_option linter.unusedSimpArgs false

theorem neq_pair (W : World) (f g : Pr) : (binOp .neq 99 f.v g.v).run Try.prog W = .ok (.bool (!decide (f = g))) W := by
  have u := Try.underlying9
  have hS : Try.prog.underlying 99 = some (.struct (Try.prog.fieldsOf 99)) := by kernel_rfl
  have hp : Try.prog.stoodInHeld 99 = false := by kernel_rfl
  have a3 := Try.isAgg9
  have z3 := Try.sizeOf9
  obtain ⟨a, b⟩ := f
  obtain ⟨a', b'⟩ := g
  rw [run_neq_struct, show (10000 : Nat) = 9999 + 1 from rfl, run_equalIn_agg W 9999 _ _ _ hS hp]
  simp only [Program.fieldsOf, Try.underlying99]
  go_simp
  simp only [str_inj]
  by_cases h1 : a = a' <;> by_cases h2 : b = b' <;> simp [h1, h2]

set_option maxHeartbeats 1000000 in
theorem refSame_any (A B : Option Addr) (n c m d : Nat) (l l2 : List Pr) (w : World) (h1 : Lst pairK w A n l) (h2 : Lst pairK w B m l2) (hn : n ≤ maxLen) (hm : m ≤ maxLen) :
    Calls Try.prog 25 #[.slice A n c, .slice B m d] w fun e w' => e = .returned (.bool (decide (l = l2))) ∧ Q w w' := by
  unfold maxLen at hn hm
  have H1 := Lib.hid h1
  have H2 := Lib.hid h2
  have L1 := Lib.hid h1.len
  have L2 := Lib.hid h2.len
  clear h1 h2
  by_cases hnm : n = m
  · subst hnm
    go_enter Try.func25, Try.ntmps25
    go_wp2
    go_loopw [5] (fun i wr => ∃ k : Nat, k ≤ n ∧ i = .int .i64 k ∧ Q w wr ∧ l.take k = l2.take k) (fun i _ => n - (intOf i).toNat)
    case atStart => exact ⟨0, Nat.zero_le _, rfl, Q.refl _, by simp⟩
    case round =>
      obtain ⟨k, hk, rfl, hq, ht⟩ := hrel
      have HT := Lib.hid ht
      clear ht
      by_cases hlt : k < n
      · have k1 : k < l.length := by have := L1.out; omega
        have k2 : k < l2.length := by have := L2.out; omega
        obtain ⟨ad, rfl, hb, c0, c1⟩ := load_pair (H1.out.q hq) hlt k1
        obtain ⟨ae, rfl, he, d0, d1⟩ := load_pair (H2.out.q hq) hlt k2
        have hne := fun W => neq_pair W l[k] l2[k]
        have hkn : (k : Int) < (n : Int) := by omega
        by_cases heq : l[k] = l2[k]
        · have hd : decide (l[k] = l2[k]) = true := by simpa using heq
          have HE := Lib.hid heq
          clear heq
          go_wp2
          go_quiet (fail)
          go_wp2
          go_roundw
          case rel => exact ⟨k + 1, by omega, by go_num, hq.drewN _, by rw [List.take_succ_eq_append_getElem k1, List.take_succ_eq_append_getElem k2, HT.out, HE.out]⟩
          case measure => simp [intOf]; omega
        · have hd : decide (l[k] = l2[k]) = false := by simpa using heq
          have HE := Lib.hid heq
          clear heq
          go_wp2
          go_quiet (fail)
          go_wp2
          go_ret
          exact ⟨ret_bool (by symm; simp only [decide_eq_false_iff_not]; rintro rfl; exact HE.out rfl), hq.drewN _⟩
      · go_wp2
        go_ret
        exact ⟨ret_bool (by symm; simp only [decide_eq_true_eq]; have h1 := HT.out; rwa [List.take_of_length_le (by have := L1.out; omega), List.take_of_length_le (by have := L2.out; omega)] at h1), hq⟩
  · have n1 : ((n : Int) != (m : Int)) = true := by simp; omega
    have n2 : (n != m) = true := by simp; omega
    have n3 : (n == m) = false := by simp; omega
    have n4 : ((n : Int) == (m : Int)) = false := by simp; omega
    have n5 : ¬ (n : Int) = m := by omega
    have HN := Lib.hid hnm
    go_enter Try.func25, Try.ntmps25
    go_wp2
    go_ret
    exact ⟨ret_bool (by symm; simp only [decide_eq_false_iff_not]; rintro rfl; exact HN.out (L1.out.symm.trans L2.out)), Q.refl _⟩

set_option maxHeartbeats 1000000 in
theorem refFind_any (key : ByteArray) (A : Option Addr) (n c : Nat) (l : List Pr) (w : World) (hf : Lst pairK w A n l) (hn : n ≤ maxLen) :
    Calls Try.prog 31 #[.slice A n c, .string key] w fun e w' => e = .returned (.tuple #[.string (find key l).1, .bool (find key l).2]) ∧ w = w' := by
  have HF := Lib.hid hf
  have HL := Lib.hid hf.len
  unfold maxLen at hn
  clear hf
  go_enter Try.func31, Try.ntmps31
  go_wp2
  go_loop [6] (fun i => ∃ k : Nat, k ≤ n ∧ i = .int .i64 k ∧ find key l = find key (l.drop k)) (fun i => n - (intOf i).toNat)
  case atStart => exact ⟨0, Nat.zero_le _, rfl, rfl⟩
  case round =>
    obtain ⟨k, hk, rfl, hp⟩ := hrel
    have HP := Lib.hid hp
    clear hp
    by_cases hlt : k < n
    · have hkl : k < l.length := by have := HL.out; omega
      obtain ⟨ad, rfl, hb, c0, c1⟩ := load_pair HF.out hlt hkl
      have hkn : (k : Int) < (n : Int) := by omega
      have e1 := same_str l[k].key key
      by_cases hh : l[k].key = key
      · rw [decide_eq_true hh] at e1
        have HE := Lib.hid (show find key l = (l[k].val, true) by rw [HP.out, List.drop_eq_getElem_cons hkl, find]; simp [hasK, hh])
        clear hh
        go_wp2
        go_ret2
        exact ⟨by rw [HE.out]; rfl, rfl⟩
      · rw [decide_eq_false hh] at e1
        have HE := Lib.hid (show find key l = find key (l.drop (k + 1)) by rw [HP.out, List.drop_eq_getElem_cons hkl, find]; simp [hasK, hh])
        clear hh
        go_wp2
        go_round
        case rel => exact ⟨k + 1, by omega, by go_num, HE.out⟩
        case measure => simp [intOf]; omega
    · have HE := Lib.hid (show find key l = (⟨#[]⟩, false) by rw [HP.out, List.drop_of_length_le (by have := HL.out; omega)]; rfl)
      go_wp2
      go_ret2
      exact ⟨by rw [HE.out]; rfl, rfl⟩

/-- what a filter has behind k pairs. -/
def FlS (w : World) (l : List Pr) (f : Pr → Bool) (k : Nat) (v : Value) (wr : World) : Prop :=
  ∃ A1 c1, v = .slice A1 ((l.take k).filter f).length c1 ∧ OwnK pairK wr w.heap.size A1 ((l.take k).filter f).length c1 ((l.take k).filter f) ∧ Q w wr

set_option maxHeartbeats 2000000 in
theorem refDrop_any (key : ByteArray) (A : Option Addr) (n c : Nat) (l : List Pr) (w : World) (hf : Lst pairK w A n l) (hb : n * 32 ≤ 140737488355328) :
    Calls Try.prog 72 #[.slice A n c, .string key] w fun e w' => RetL pairK w (drop l key).length (drop l key) e w' := by
  have HF := Lib.hid hf
  have HL := Lib.hid hf.len
  have HB := Lib.hid hb
  have hn : n ≤ 9223372036854775807 := by omega
  clear hf hb
  go_enter Try.func72, Try.ntmps72
  go_wp2
  go_loopw [5, 6] (fun v i wr => ∃ k : Nat, k ≤ n ∧ i = .int .i64 k ∧ FlS w l (keep key) k v wr) (fun _ i _ => n - (intOf i).toNat)
  case atStart => exact ⟨0, Nat.zero_le _, rfl, none, 0, rfl, OwnK.nil_ _ _ _, Q.refl _⟩
  case round =>
    obtain ⟨k, hk, rfl, A3, c3, rfl, o3, q3⟩ := hrel
    have hfl : ((l.take k).filter (keep key)).length ≤ k := Nat.le_trans (List.length_filter_le _ _) (List.length_take_le _ _)
    have O3 := Lib.hid o3
    have Q3 := Lib.hid q3
    clear o3 q3
    by_cases hlt : k < n
    · have hkl : k < l.length := by have := HL.out; omega
      obtain ⟨ad, rfl, hab, x0, x1⟩ := load_pair (HF.out.q Q3.out) hlt hkl
      have hkm : (k : Int) < (n : Int) := by omega
      have e1 := same_str l[k].key key
      by_cases hh : l[k].key = key
      · rw [decide_eq_true hh] at e1
        have HE := Lib.hid (filter_no (f := keep key) hkl (by simp [keep, hasK, hh]))
        have e2 : (l[k].key.toList != key.toList) = false := by simp [bne, e1]
        clear hh
        go_wp2
        go_roundw
        case rel => exact ⟨k + 1, by omega, by go_num, A3, c3, by rw [HE.out], by rw [HE.out]; exact O3.out, Q3.out⟩
        case measure => simp [intOf]; omega
      · rw [decide_eq_false hh] at e1
        have e2 : (l[k].key.toList != key.toList) = true := by simp [bne, e1]
        have HF2 := Lib.hid (filter_yes (f := keep key) hkl (by simp [keep, hasK, hh]))
        have hlen2 := Lib.hid (show (((l.take k).filter (keep key)).length + 1) * 32 ≤ 140737488355328 by have := HB.out; omega)
        have hlen3 := Lib.hid (show ((l.take (k + 1)).filter (keep key)).length = ((l.take k).filter (keep key)).length + 1 by rw [HF2.out, List.length_append, List.length_singleton])
        clear hh
        generalize hgo : ((l.take k).filter (keep key)) = o at O3 hfl HF2 hlen2 hlen3 ⊢
        have HGo := Lib.hid hgo
        clear hgo
        generalize hgx : l[k] = x at x0 x1 HF2 e1 e2
        have HGx := Lib.hid hgx
        clear hgx
        go_wp2_with (at_builtin
                     refine wpl_appK pairK rfl (.tmp 20) (.tmp 25) 38 rfl rfl w.heap.size A3 o.length c3 o rfl (O3.out.alloc _) (some ⟨wr.heap.size, 0, none⟩) 1 1 [x] rfl (lit_pair wr x) (fun e => by cases e) hlen2.out (by have := Q3.out.size; simp; omega) ?_
                     intro A5 c5 w5 o5 b5
                     have S5 := Lib.hid (show FlS w l (keep key) (k + 1) (.slice A5 (o.length + 1) c5) w5 from ⟨A5, c5, by rw [hlen3.out], by rw [hlen3.out, HF2.out]; exact o5, ((Q3.out.alloc _).below).trans b5⟩)
                     clear o5 b5)
        go_roundw
        case rel => exact ⟨k + 1, by omega, by go_num, S5.out⟩
        case measure => simp [intOf]; omega
    · have HE := Lib.hid (show (l.take k).filter (keep key) = drop l key by rw [List.take_of_length_le (by have := HL.out; omega)]; rfl)
      rw [HE.out] at O3 ⊢
      go_wp2
      go_ret
      exact ⟨A3, c3, rfl, O3.out, Q3.out⟩
end Go.Proofs.Ytlbjobbmjccekaa

/- Contracts: the document's answer for pairs: Right, Range, Put, Apply. -/
namespace Go.Proofs.Ytlbjobbmjccekaa
set_option maxRecDepth 100000
open Go.RowKit Prm
set_option linter.unusedVariables false
set_option linter.unusedSimpArgs false

/-- the sizes of a list's keys. -/
def KeysIn (l : List Pr) : Prop := ∀ p ∈ l, p.key.size ≤ maxLen
theorem KeysIn.at_ {l : List Pr} (h : KeysIn l) {k : Nat} (hk : k < l.length) : l[k].key.size ≤ maxLen := h _ (List.getElem_mem hk)

set_option maxHeartbeats 2000000 in
theorem refRight_any (A : Option Addr) (n c : Nat) (l : List Pr) (w : World) (hd : Lst pairK w A n l) (hmx : n ≤ maxLen) (hs : KeysIn l) :
    Calls Try.prog 30 #[.slice A n c] w fun e w' => e = .returned (.bool (right l)) ∧ Q w w' := by
  have HD := Lib.hid hd
  have HL := Lib.hid hd.len
  have HS := Lib.hid hs
  unfold maxLen at hmx
  clear hd hs
  go_enter Try.func30, Try.ntmps30
  go_wp2
  go_loopw [3] (fun i wr => ∃ k : Nat, k ≤ n ∧ i = .int .i64 ((k : Int) + 1) ∧ Q w wr ∧ ∀ j, ∀ h : j + 1 < l.length, j < k → lt (l[j]'(by omega)).key l[j + 1].key = true) (fun i _ => n + 1 - (intOf i).toNat)
  case atStart => exact ⟨0, Nat.zero_le _, by go_num, Q.refl _, fun j _ h => by omega⟩
  case round =>
    obtain ⟨k, hk, rfl, q, hall⟩ := hrel
    have HA := Lib.hid hall
    have HQ := Lib.hid q
    clear hall q
    by_cases hlt : k + 1 < n
    · have hkl : k + 1 < l.length := by have := HL.out; omega
      have hkl0 : k < l.length := by omega
      obtain ⟨ad, rfl, hab, x0, x1⟩ := load_pair (HD.out.q HQ.out) (Nat.lt_of_succ_lt hlt) hkl0
      obtain ⟨ad', e, hab', y0, y1⟩ := load_pair (HD.out.q HQ.out) hlt hkl
      injection e with e
      subst e
      have e1 : IntKind.i64.wrap ((k : Int) + 1 - 1) = k := by rw [IntKind.wrap_i64]; omega
      have e2 : ((k : Int) + 1).toNat = k + 1 := by omega
      have e3 : (k : Int) + 1 < (n : Int) := by omega
      have e4 : (k : Int) < (n : Int) := by omega
      have e5 : (0 : Int) ≤ (k : Int) + 1 := by omega
      have K1 := Lib.hid (fun W => less_any l[k].key l[k + 1].key W (HS.out.at_ hkl0) (HS.out.at_ hkl))
      by_cases hh : lt l[k].key l[k + 1].key = true
      · have HN := Lib.hid (fun (j : Nat) (h : j + 1 < l.length) (hj : j < k + 1) => show lt (l[j]'(by omega)).key l[j + 1].key = true from by
          by_cases e : j < k
          · exact HA.out j h e
          · have e : j = k := by omega
            subst e
            exact hh)
        rw [hh] at K1
        clear hh x1 y1
        generalize l[k].key = a at x0 K1
        generalize l[k + 1].key = b at y0 K1
        go_wp2
        go_quiet ((go_at_call 47; exact Calls.quiet_of (K1.out _)))
        all_goals
          go_wp2
          go_roundw
          case rel => exact ⟨k + 1, by omega, by go_num, HQ.out.drewN _, HN.out⟩
          case measure => simp [intOf]; omega
      · have hh' : lt l[k].key l[k + 1].key = false := by simpa using hh
        have HE := Lib.hid (right_not hkl hh')
        rw [hh'] at K1
        clear hh hh' x1 y1
        generalize l[k].key = a at x0 K1
        generalize l[k + 1].key = b at y0 K1
        go_wp2
        go_quiet ((go_at_call 47; exact Calls.quiet_of (K1.out _)))
        all_goals
          go_wp2
          go_ret
          exact ⟨by rw [HE.out]; rfl, HQ.out.drewN _⟩
    · have HE := Lib.hid (show right l = true from right_all fun i hi => HA.out i hi (by have := HL.out; omega))
      have e3 : ¬ ((k : Int) + 1 < (n : Int)) := by omega
      go_wp2
      go_ret
      exact ⟨by rw [HE.out]; rfl, HQ.out⟩

end Go.Proofs.Ytlbjobbmjccekaa

/- Contracts: the document's answer for pairs: Put, Apply. -/
namespace Go.Proofs.Ytlbjobbmjccekaa
set_option maxRecDepth 100000
open Go.RowKit Prm
set_option linter.unusedVariables false
set_option linter.unusedSimpArgs false

/-- the list so far. -/
def Lo (w : World) (t : List Pr) (v : Value) (wr : World) : Prop :=
  ∃ A1 c1, v = .slice A1 t.length c1 ∧ OwnK pairK wr w.heap.size A1 t.length c1 t ∧ Q w wr
theorem Lo.step {w wr w5 : World} {o t : List Pr} {x : Pr} {A5 : Option Addr} {c5 : Nat} (ht : t = o ++ [x]) (o5 : OwnK pairK w5 w.heap.size A5 (o.length + 1) c5 (o ++ [x])) (q : Q w wr) (b5 : Below w.heap.size wr w5) : Lo w t (.slice A5 (o.length + 1) c5) w5 := by
  subst ht
  exact ⟨A5, c5, by simp, by simpa using o5, q.below.trans b5⟩

theorem set_take_other {l : List Pr} {i k : Nat} {p : Pr} (hk : k < l.length) (h : k ≠ i) : (l.set i p).take (k + 1) = (l.set i p).take k ++ [l[k]] := by
  rw [List.take_succ_eq_append_getElem (by simpa using hk), List.getElem_set_ne (by omega)]
theorem set_take_same {l : List Pr} {i : Nat} {p : Pr} (hk : i < l.length) : (l.set i p).take (i + 1) = (l.set i p).take i ++ [p] := by
  rw [List.take_succ_eq_append_getElem (by simpa using hk), List.getElem_set_self]

set_option maxHeartbeats 4000000 in
theorem refPut_has (key val : ByteArray) (A : Option Addr) (n c : Nat) (l : List Pr) (w : World) (hf : Lst pairK w A n l) (hb : (n + 1) * 32 ≤ 140737488355328) (i : Nat) (hi : i < l.length) (hh : hasK key l[i] = true) (hfirst : ∀ j, ∀ hj : j < l.length, j < i → hasK key l[j] = false) :
    Calls Try.prog 53 #[.slice A n c, .string key, .string val] w fun e w' => RetL pairK w n (l.set i ⟨key, val⟩) e w' := by
  have HF := Lib.hid hf
  have HL := Lib.hid hf.len
  have HB := Lib.hid hb
  have K0 := Lib.hid (fun W (h : Lst pairK W A n l) => refFind_any key A n c l W h (by unfold maxLen; omega))
  rw [find_at hi hh hfirst] at K0
  have HFi := Lib.hid hfirst
  have HH := Lib.hid hh
  have hn : n ≤ 9223372036854775807 := by omega
  have hin : i < n := by have := HL.out; omega
  clear hf hb hh hfirst
  generalize hv : l[i].val = v0 at K0
  have HV := Lib.hid hv
  clear hv
  go_enter Try.func53, Try.ntmps53
  go_wp2_with fail
  refine (K0.out _ HF.out).mono ?_
  rintro e w1 ⟨rfl, rfl⟩
  go_wp2
  go_loopw [9, 10, 11] (fun v d j wr => ∃ k : Nat, k ≤ n ∧ j = .int .i64 k ∧ d = .bool (decide (i < k)) ∧ Lo w ((l.set i ⟨key, val⟩).take k) v wr) (fun _ _ j _ => n - (intOf j).toNat)
  case atStart => exact ⟨0, Nat.zero_le _, rfl, rfl, none, 0, rfl, OwnK.nil_ _ _ _, Q.refl _⟩
  case round =>
    obtain ⟨k, hk, rfl, rfl, A3, c3, rfl, o3, q3⟩ := hrel
    have hol : ((l.set i ⟨key, val⟩).take k).length = k := by rw [List.length_take, List.length_set]; have := HL.out; omega
    have O3 := Lib.hid o3
    have Q3 := Lib.hid q3
    clear o3 q3
    by_cases hlt : k < n
    · have hkl : k < l.length := by have := HL.out; omega
      obtain ⟨ad, rfl, hab, x0, x1⟩ := load_pair (HF.out.q Q3.out) hlt hkl
      have hkm : (k : Int) < (n : Int) := by omega
      have e1 := same_str l[k].key key
      by_cases hki : k = i
      · subst hki
        rw [show decide (l[k].key = key) = true from HH.out] at e1
        have d1 : decide (k < k) = false := by simp
        have hE := Lib.hid (set_take_same (p := ⟨key, val⟩) hkl)
        have hlen2 := Lib.hid (show (((l.set k ⟨key, val⟩).take k).length + 1) * 32 ≤ 140737488355328 by have := HB.out; omega)
        have hdd : decide (k < k + 1) = true := by simp
        clear hol
        generalize ((l.set k ⟨key, val⟩).take k) = o at O3 hE hlen2 ⊢
        generalize l[k] = x at x0 x1 e1
        go_wp2_with (at_builtin
                     refine wpl_appK pairK rfl (.tmp 51) (.tmp 55) 38 rfl rfl w.heap.size A3 o.length c3 o rfl (O3.out.alloc _) (some ⟨wr.heap.size, 0, none⟩) 1 1 [⟨key, val⟩] rfl (lit_pair wr ⟨key, val⟩) (fun e => by cases e) hlen2.out (by have := Q3.out.size; simp; omega) ?_
                     intro A5 c5 w5 o5 b5
                     have S5 := Lib.hid (Lo.step hE.out o5 (Q3.out.alloc _) b5)
                     clear o5 b5)
        go_roundw
        case rel => exact ⟨k + 1, by omega, by go_num, by rw [hdd], S5.out⟩
        case measure => simp [intOf]; omega
      · have hE := Lib.hid (set_take_other (p := ⟨key, val⟩) hkl hki)
        have hlen2 := Lib.hid (show (((l.set i ⟨key, val⟩).take k).length + 1) * 32 ≤ 140737488355328 by have := HB.out; omega)
        by_cases hlt2 : k < i
        · have d1 : decide (i < k) = false := by simp; omega
          have d2 : decide (i < k + 1) = false := by simp; omega
          rw [show decide (l[k].key = key) = false from HFi.out k hkl hlt2] at e1
          rw [d1]
          clear hol
          generalize ((l.set i ⟨key, val⟩).take k) = o at O3 hE hlen2 ⊢
          generalize l[k] = x at x0 x1 e1 hE
          have D2 := Lib.hid d2
          clear d1 d2
          go_wp2_with (at_builtin
                       refine wpl_appK pairK rfl (.tmp 58) (.tmp 63) 38 rfl rfl w.heap.size A3 o.length c3 o rfl (O3.out.alloc _) (some ⟨wr.heap.size, 0, none⟩) 1 1 [x] rfl (lit_pair wr x) (fun e => by cases e) hlen2.out (by have := Q3.out.size; simp; omega) ?_
                       intro A5 c5 w5 o5 b5
                       have S5 := Lib.hid (Lo.step hE.out o5 (Q3.out.alloc _) b5)
                       clear o5 b5)
          go_roundw
          case rel => exact ⟨k + 1, by omega, by go_num, by rw [D2.out], S5.out⟩
          case measure => simp [intOf]; omega
        · have d1 : decide (i < k) = true := by simp; omega
          have d2 : decide (i < k + 1) = true := by simp; omega
          rw [d1]
          clear hol
          generalize ((l.set i ⟨key, val⟩).take k) = o at O3 hE hlen2 ⊢
          generalize l[k] = x at x0 x1 e1 hE
          have D2 := Lib.hid d2
          clear d1 d2 e1
          go_wp2_with (at_builtin
                       refine wpl_appK pairK rfl (.tmp 58) (.tmp 63) 38 rfl rfl w.heap.size A3 o.length c3 o rfl (O3.out.alloc _) (some ⟨wr.heap.size, 0, none⟩) 1 1 [x] rfl (lit_pair wr x) (fun e => by cases e) hlen2.out (by have := Q3.out.size; simp; omega) ?_
                       intro A5 c5 w5 o5 b5
                       have S5 := Lib.hid (Lo.step hE.out o5 (Q3.out.alloc _) b5)
                       clear o5 b5)
          go_roundw
          case rel => exact ⟨k + 1, by omega, by go_num, by rw [D2.out], S5.out⟩
          case measure => simp [intOf]; omega
    · have HE := Lib.hid (show (l.set i ⟨key, val⟩).take k = l.set i ⟨key, val⟩ from List.take_of_length_le (by rw [List.length_set]; have := HL.out; omega))
      have HN := Lib.hid (show (l.set i ⟨key, val⟩).length = n by rw [List.length_set]; exact HL.out)
      rw [HE.out] at O3 ⊢
      have d1 : decide (i < k) = true := by simp; omega
      rw [d1]
      clear d1
      generalize hgo : l.set i ⟨key, val⟩ = o at O3 HN
      have HGo := Lib.hid hgo
      clear hgo
      go_wp2
      go_ret
      exact ⟨A3, c3, by rw [HN.out]; rfl, by have := O3.out; rw [HN.out] at this; rw [HGo.out]; exact this, Q3.out⟩
end Go.Proofs.Ytlbjobbmjccekaa

/- Contracts: the document's answer for pairs: Put where the key is new. -/
namespace Go.Proofs.Ytlbjobbmjccekaa
set_option maxRecDepth 100000
open Go.RowKit Prm
set_option linter.unusedVariables false
set_option linter.unusedSimpArgs false

/-- the list with p in place i. -/
def insAt (l : List Pr) (i : Nat) (p : Pr) : List Pr := l.take i ++ p :: l.drop i
theorem insAt_len {l : List Pr} {i : Nat} {p : Pr} (hi : i ≤ l.length) : (insAt l i p).length = l.length + 1 := by simp [insAt]; omega
theorem insAt_lo {l : List Pr} {i k : Nat} {p : Pr} (hi : i ≤ l.length) (hk : k < i) : (insAt l i p)[k]? = some (l[k]'(by omega)) := by
  unfold insAt
  rw [List.getElem?_append_left (by rw [List.length_take]; omega), List.getElem?_take, if_pos hk, List.getElem?_eq_getElem]
theorem insAt_eq {l : List Pr} {i : Nat} {p : Pr} (hi : i ≤ l.length) : (insAt l i p)[i]? = some p := by
  unfold insAt
  have hl : (l.take i).length = i := by rw [List.length_take]; omega
  rw [List.getElem?_append_right (by omega), hl, Nat.sub_self]; rfl
theorem insAt_hi {l : List Pr} {i k : Nat} {p : Pr} (hk : k < l.length) (hik : i ≤ k) : (insAt l i p)[k + 1]? = some l[k] := by
  unfold insAt
  have hl : (l.take i).length = i := by rw [List.length_take]; omega
  rw [List.getElem?_append_right (by omega), hl, show k + 1 - i = (k - i) + 1 by omega, List.getElem?_cons_succ, List.getElem?_drop, show i + (k - i) = k by omega, List.getElem?_eq_getElem hk]
theorem take_next {l : List Pr} {k : Nat} {x : Pr} (h : l[k]? = some x) : l.take (k + 1) = l.take k ++ [x] := by
  obtain ⟨hk, rfl⟩ := List.getElem?_eq_some_iff.1 h
  exact List.take_succ_eq_append_getElem hk

set_option maxHeartbeats 8000000 in
theorem refPut_new (key val : ByteArray) (A : Option Addr) (n c : Nat) (l : List Pr) (w : World) (hf : Lst pairK w A n l) (hb : (n + 1) * 32 ≤ 140737488355328) (hks : KeysIn l) (hky : key.size ≤ maxLen) (hall : ∀ a ∈ l, hasK key a = false) (i : Nat) (hi : i ≤ l.length) (hia : ∀ h : i < l.length, aboveK key l[i] = true) (hfirst : ∀ j, ∀ hj : j < l.length, j < i → aboveK key l[j] = false) :
    Calls Try.prog 53 #[.slice A n c, .string key, .string val] w fun e w' => RetL pairK w (n + 1) (insAt l i ⟨key, val⟩) e w' := by
  have HF := Lib.hid hf
  have HL := Lib.hid hf.len
  have HB := Lib.hid hb
  have K0 := Lib.hid (fun W (h : Lst pairK W A n l) => refFind_any key A n c l W h (by unfold maxLen; omega))
  rw [find_none hall] at K0
  have HFi := Lib.hid hfirst
  have HIa := Lib.hid hia
  have HKs := Lib.hid hks
  have HKy := Lib.hid hky
  have HT := Lib.hid (insAt_len (p := ⟨key, val⟩) hi)
  have hn : n ≤ 9223372036854775807 := by omega
  have hin : i ≤ n := by have := HL.out; omega
  clear hf hb hfirst hia hks hky hall
  go_enter Try.func53, Try.ntmps53
  go_wp2_with fail
  refine (K0.out _ HF.out).mono ?_
  rintro e w1 ⟨rfl, rfl⟩
  go_wp2
  go_loopw [9, 10, 11] (fun v d j wr => ∃ k : Nat, k ≤ n ∧ j = .int .i64 k ∧ d = .bool (decide (i < k)) ∧ Lo w ((insAt l i ⟨key, val⟩).take (if i < k then k + 1 else k)) v wr) (fun _ _ j _ => n - (intOf j).toNat)
  case atStart => exact ⟨0, Nat.zero_le _, rfl, rfl, none, 0, rfl, OwnK.nil_ _ _ _, Q.refl _⟩
  case round =>
    obtain ⟨k, hk, rfl, rfl, A3, c3, rfl, o3, q3⟩ := hrel
    have O3 := Lib.hid o3
    have Q3 := Lib.hid q3
    clear o3 q3
    by_cases hlt : k < n
    · have hkl : k < l.length := by have := HL.out; omega
      obtain ⟨ad, rfl, hab, x0, x1⟩ := load_pair (HF.out.q Q3.out) hlt hkl
      have hkm : (k : Int) < (n : Int) := by omega
      have K1 := Lib.hid (fun W => less_any key l[k].key W HKy.out (HKs.out.at_ hkl))
      by_cases hlt2 : i < k
      · have d1 : decide (i < k) = true := by simp; omega
        have d2 : decide (i < k + 1) = true := by simp; omega
        rw [d1]
        rw [if_pos hlt2] at O3 ⊢
        have hE := Lib.hid (show (insAt l i ⟨key, val⟩).take (if i < k + 1 then k + 1 + 1 else k + 1) = (insAt l i ⟨key, val⟩).take (k + 1) ++ [l[k]] by
          rw [if_pos (by omega)]; exact take_next (insAt_hi hkl (by omega)))
        have hol : ((insAt l i ⟨key, val⟩).take (k + 1)).length ≤ n := by rw [List.length_take, HT.out]; omega
        have hlen2 := Lib.hid (show (((insAt l i ⟨key, val⟩).take (k + 1)).length + 1) * 32 ≤ 140737488355328 by have := HB.out; omega)
        have D2 := Lib.hid d2
        clear hol d1 d2 K1
        generalize ((insAt l i ⟨key, val⟩).take (k + 1)) = o at O3 hE hlen2 ⊢
        generalize l[k] = x at x0 x1 hE
        go_wp2_with (at_builtin
                     refine wpl_appK pairK rfl (.tmp 58) (.tmp 63) 38 rfl rfl w.heap.size A3 o.length c3 o rfl (O3.out.alloc _) (some ⟨wr.heap.size, 0, none⟩) 1 1 [x] rfl (lit_pair wr x) (fun e => by cases e) hlen2.out (by have := Q3.out.size; simp; omega) ?_
                     intro A5 c5 w5 o5 b5
                     have S5 := Lib.hid (Lo.step hE.out o5 (Q3.out.alloc _) b5)
                     clear o5 b5)
        go_roundw
        case rel => exact ⟨k + 1, by omega, by go_num, by rw [D2.out], S5.out⟩
        case measure => simp [intOf]; omega
      · have d1 : decide (i < k) = false := by simp; omega
        rw [d1]
        rw [if_neg hlt2] at O3 ⊢
        have hol : ((insAt l i ⟨key, val⟩).take k).length ≤ n - 1 := by rw [List.length_take, HT.out]; omega
        have hlen2 := Lib.hid (show (((insAt l i ⟨key, val⟩).take k).length + 1) * 32 ≤ 140737488355328 by have := HB.out; omega)
        by_cases hki : k = i
        · subst hki
          have d2 : decide (k < k + 1) = true := by simp
          have D2 := Lib.hid d2
          have hE1 := Lib.hid (show (insAt l k ⟨key, val⟩).take (k + 1) = (insAt l k ⟨key, val⟩).take k ++ [⟨key, val⟩] from take_next (insAt_eq hi))
          have hE := Lib.hid (show (insAt l k ⟨key, val⟩).take (if k < k + 1 then k + 1 + 1 else k + 1) = (insAt l k ⟨key, val⟩).take k ++ [⟨key, val⟩] ++ [l[k]] by
            rw [if_pos (by omega), ← hE1.out]; exact take_next (insAt_hi hkl (Nat.le_refl _)))
          have hol2 : ((insAt l k ⟨key, val⟩).take k).length + 1 ≤ n := by omega
          have hlen3 : Hid ((((insAt l k ⟨key, val⟩).take k).length + 1 + 1) * 32 ≤ 140737488355328) := Lib.hid (Nat.le_trans (Nat.mul_le_mul_right 32 (Nat.succ_le_succ hol2)) HB.out)
          clear hol2
          rw [show lt key l[k].key = true from HIa.out hkl] at K1
          clear hol d1 d2 hlt2
          generalize ((insAt l k ⟨key, val⟩).take k) = o at O3 hE hE1 hlen2 hlen3 ⊢
          generalize hgx : l[k] = x at x0 x1 hE K1
          have HGx := Lib.hid hgx
          clear hgx
          go_wp2_with fail
          refine (K1.out _).mono ?_
          rintro e w4 ⟨rfl, n4, rfl⟩
          go_upto_region 9 with (at_builtin
                                 refine wpl_appK pairK rfl (.tmp 51) (.tmp 55) 38 rfl rfl w.heap.size A3 o.length c3 o rfl ((O3.out.q ((Q.refl wr).drewN n4)).alloc _) (some ⟨(wr.drewN n4).heap.size, 0, none⟩) 1 1 [⟨key, val⟩] rfl (lit_pair (wr.drewN n4) ⟨key, val⟩) (fun e => by cases e) hlen2.out (by have := (Q3.out.drewN n4).size; simp at this ⊢; omega) ?_
                                 intro A5 c5 w5 o5 b5)
          have S5 := Lib.hid (show Q w w5 from ((Q3.out.drewN n4).alloc (.cells #[.string key, .string val] 99)).below.trans b5)
          have O5 := Lib.hid (show OwnK pairK w5 w.heap.size A5 (o ++ [(⟨key, val⟩ : Pr)]).length c5 (o ++ [⟨key, val⟩]) by rw [List.length_append, List.length_singleton]; exact o5)
          have X5 := Lib.hid (show (o ++ [(⟨key, val⟩ : Pr)]).length = o.length + 1 by simp)
          clear x0 x1 o5 b5
          obtain ⟨ad2, ha2, hab2, u0, u1⟩ := load_pair (HF.out.q S5.out) hlt hkl
          injection ha2 with ha2
          subst ha2
          rw [HGx.out] at u0 u1
          have O5' := Lib.hid (show OwnK pairK w5 w.heap.size A5 (o.length + 1) c5 (o ++ [⟨key, val⟩]) by have := O5.out; rw [X5.out] at this; exact this)
          go_wp2_with (at_builtin
                       refine wpl_appK pairK rfl (.tmp 58) (.tmp 63) 38 rfl rfl w.heap.size A5 (o.length + 1) c5 (o ++ [⟨key, val⟩]) rfl (O5'.out.alloc _) (some ⟨w5.heap.size, 0, none⟩) 1 1 [x] rfl (lit_pair w5 x) (fun e => by cases e) hlen3.out (by have := S5.out.size; simp; omega) ?_
                       intro A6 c6 w6 o6 b6
                       have S6 := Lib.hid (show Lo w ((insAt l k ⟨key, val⟩).take (if k < k + 1 then k + 1 + 1 else k + 1)) (.slice A6 (o.length + 1 + 1) c6) w6 from ⟨A6, c6, by rw [hE.out]; simp, by rw [hE.out]; have := o6; simpa using this, (S5.out.alloc _).below.trans b6⟩)
                       clear o6 b6)
          go_roundw
          case rel => exact ⟨k + 1, by omega, by go_num, by rw [D2.out], S6.out⟩
          case measure => simp [intOf]; omega
        · have hki2 : k < i := by omega
          have d2 : decide (i < k + 1) = false := by simp; omega
          have D2 := Lib.hid d2
          have hE := Lib.hid (show (insAt l i ⟨key, val⟩).take (if i < k + 1 then k + 1 + 1 else k + 1) = (insAt l i ⟨key, val⟩).take k ++ [l[k]] by
            rw [if_neg (by omega)]; exact take_next (insAt_lo hi hki2))
          rw [show lt key l[k].key = false from HFi.out k hkl hki2] at K1
          clear hol d1 d2 hlt2 hki
          generalize ((insAt l i ⟨key, val⟩).take k) = o at O3 hE hlen2 ⊢
          generalize l[k] = x at x0 x1 hE K1
          go_wp2_with fail
          refine (K1.out _).mono ?_
          rintro e w4 ⟨rfl, n4, rfl⟩
          go_wp2_with (at_builtin
                       refine wpl_appK pairK rfl (.tmp 58) (.tmp 63) 38 rfl rfl w.heap.size A3 o.length c3 o rfl ((O3.out.q ((Q.refl wr).drewN n4)).alloc _) (some ⟨(wr.drewN n4).heap.size, 0, none⟩) 1 1 [x] rfl (lit_pair (wr.drewN n4) x) (fun e => by cases e) hlen2.out (by have := (Q3.out.drewN n4).size; simp at this ⊢; omega) ?_
                       intro A5 c5 w5 o5 b5
                       have S5 := Lib.hid (Lo.step hE.out o5 ((Q3.out.drewN n4).alloc _) b5)
                       clear o5 b5)
          go_roundw
          case rel => exact ⟨k + 1, by omega, by go_num, by rw [D2.out], S5.out⟩
          case measure => simp [intOf]; omega
    · have hkn : k = n := by omega
      subst hkn
      by_cases hik : i < k
      · have d1 : decide (i < k) = true := by simp; omega
        rw [d1]
        rw [if_pos hik] at O3 ⊢
        have HE := Lib.hid (show (insAt l i ⟨key, val⟩).take (k + 1) = insAt l i ⟨key, val⟩ from List.take_of_length_le (by rw [HT.out]; have := HL.out; omega))
        have HN := Lib.hid (show (insAt l i ⟨key, val⟩).length = k + 1 by rw [HT.out, HL.out])
        rw [HE.out] at O3 ⊢
        clear d1 hik
        generalize hgo : insAt l i ⟨key, val⟩ = o at O3 HN ⊢
        have HGo := Lib.hid hgo
        clear hgo
        go_wp2
        go_ret
        exact ⟨A3, c3, by rw [HN.out]; rfl, by have := O3.out; rw [HN.out] at this; rw [HGo.out]; exact this, Q3.out⟩
      · have hik' : i = k := by omega
        subst hik'
        have d1 : decide (i < i) = false := by simp
        rw [d1]
        rw [if_neg hik] at O3 ⊢
        have HE := Lib.hid (show insAt l i ⟨key, val⟩ = (insAt l i ⟨key, val⟩).take i ++ [⟨key, val⟩] by
          rw [← take_next (insAt_eq hi)]; exact (List.take_of_length_le (by rw [HT.out]; have := HL.out; omega)).symm)
        have hol : ((insAt l i ⟨key, val⟩).take i).length = i := by rw [List.length_take, HT.out]; have := HL.out; omega
        have HO := Lib.hid hol
        have hlen2 := Lib.hid (show (((insAt l i ⟨key, val⟩).take i).length + 1) * 32 ≤ 140737488355328 by rw [hol]; exact HB.out)
        clear d1 hik hol
        generalize hgo : ((insAt l i ⟨key, val⟩).take i) = o at O3 HE hlen2 HO ⊢
        have HGo := Lib.hid hgo
        clear hgo
        go_wp2_with (at_builtin
                     refine wpl_appK pairK rfl (.tmp 67) (.tmp 71) 38 rfl rfl w.heap.size A3 o.length c3 o rfl (O3.out.alloc _) (some ⟨wr.heap.size, 0, none⟩) 1 1 [⟨key, val⟩] rfl (lit_pair wr ⟨key, val⟩) (fun e => by cases e) hlen2.out (by have := Q3.out.size; simp; omega) ?_
                     intro A5 c5 w5 o5 b5
                     have O5 := Lib.hid o5
                     have B5 := Lib.hid b5
                     clear o5 b5)
        go_ret
        exact ⟨A5, c5, by rw [HO.out]; rfl, by have := O5.out; rw [HO.out] at this; rw [HE.out]; exact this, (Q3.out.alloc _).below.trans B5.out⟩
end Go.Proofs.Ytlbjobbmjccekaa

/- Contracts: the document's answer for pairs: Put, Apply. -/
namespace Go.Proofs.Ytlbjobbmjccekaa
set_option maxRecDepth 100000
open Go.RowKit Prm
set_option linter.unusedVariables false
set_option linter.unusedSimpArgs false

theorem trefPut_any (key val : ByteArray) (A : Option Addr) (n c : Nat) (l : List Pr) (w : World) (hf : Lst pairK w A n l) (hb : (n + 1) * 32 ≤ 140737488355328) (hks : KeysIn l) (hky : key.size ≤ maxLen) :
    Calls Try.prog 53 #[.slice A n c, .string key, .string val] w fun e w' => RetL pairK w (put l ⟨key, val⟩).length (put l ⟨key, val⟩) e w' := by
  have hl := hf.len
  rcases idx_cases (hasK key) l 0 with ⟨hp, hall⟩ | ⟨k, hk, hp, hkn, hfirst⟩
  · have hx : ∃ i, ∃ hi : i ≤ l.length, (∀ h : i < l.length, aboveK key l[i] = true) ∧ ∀ j, ∀ hj : j < l.length, j < i → aboveK key l[j] = false := by
      rcases idx_cases (aboveK key) l 0 with ⟨_, halla⟩ | ⟨i, hi, _, hia, hfa⟩
      · exact ⟨l.length, Nat.le_refl _, fun h => absurd h (Nat.lt_irrefl _), fun j hj _ => halla _ (List.getElem_mem hj)⟩
      · exact ⟨i, Nat.le_of_lt hi, fun _ => hia, hfa⟩
    obtain ⟨i, hi, hia, hfa⟩ := hx
    have e : put l (⟨key, val⟩ : Pr) = insAt l i ⟨key, val⟩ := by rw [put_new (p := ⟨key, val⟩) hall]; exact ins_at (p := ⟨key, val⟩) hi hia hfa
    have e2 : (put l (⟨key, val⟩ : Pr)).length = n + 1 := by rw [e, insAt_len hi, hl]
    simp only [e2]
    rw [e]
    exact refPut_new key val A n c l w hf hb hks hky hall i hi hia hfa
  · have e : put l (⟨key, val⟩ : Pr) = l.set k ⟨key, val⟩ := put_has (p := ⟨key, val⟩) hk hkn hfirst
    have e2 : (put l (⟨key, val⟩ : Pr)).length = n := by rw [e, List.length_set, hl]
    simp only [e2]
    rw [e]
    exact refPut_has key val A n c l w hf hb k hk hkn hfirst

def WKeysIn (l : List Wr) : Prop := ∀ p ∈ l, p.key.size ≤ maxLen
theorem put_keys {l : List Pr} {p : Pr} (h : KeysIn l) (hp : p.key.size ≤ maxLen) : KeysIn (put l p) := by
  intro q hq
  have hi : ∀ (l : List Pr), KeysIn l → q ∈ ins p l → q.key.size ≤ maxLen := by
    intro l
    induction l with
    | nil => intro _ hq; simp [ins] at hq; subst hq; exact hp
    | cons a l ih =>
      intro h hq
      simp only [ins] at hq
      split at hq
      · rcases List.mem_cons.1 hq with rfl | hq
        · exact hp
        · exact h q hq
      · rcases List.mem_cons.1 hq with rfl | hq
        · exact h _ (by simp)
        · exact ih (fun x hx => h x (by simp [hx])) hq
  have hs : ∀ (l : List Pr), KeysIn l → q ∈ setF p l → q.key.size ≤ maxLen := by
    intro l
    induction l with
    | nil => intro _ hq; simp [setF] at hq
    | cons a l ih =>
      intro h hq
      simp only [setF] at hq
      split at hq
      · rcases List.mem_cons.1 hq with rfl | hq
        · exact hp
        · exact h q (by simp [hq])
      · rcases List.mem_cons.1 hq with rfl | hq
        · exact h _ (by simp)
        · exact ih (fun x hx => h x (by simp [hx])) hq
  unfold put at hq
  split at hq
  · exact hs l h hq
  · exact hi l h hq
theorem drop_keys {l : List Pr} {k : ByteArray} (h : KeysIn l) : KeysIn (drop l k) := fun q hq => h q (List.mem_filter.1 hq).1
theorem act_keys {l : List Pr} {x : Wr} (h : KeysIn l) (hx : x.key.size ≤ maxLen) : KeysIn (act l x) := by
  unfold act; split
  · exact drop_keys h
  · exact put_keys h hx
theorem apply_keys {ws : List Wr} : ∀ {l : List Pr}, KeysIn l → WKeysIn ws → KeysIn (apply l ws) := by
  induction ws with
  | nil => intro l h _; exact h
  | cons x ws ih => intro l h hw; exact ih (l := act l x) (act_keys h (hw x (by simp))) (fun y hy => hw y (by simp [hy]))

set_option maxHeartbeats 4000000 in
theorem refApply_any (A A2 : Option Addr) (n c m c2 : Nat) (l : List Pr) (ws : List Wr) (w : World) (hd : In_ pairK w A n c l) (hw : Lst writeK w A2 m ws) (hb : (n + m) * 32 ≤ 140737488355328) (hks : KeysIn l) (hwk : WKeysIn ws) :
    Calls Try.prog 52 #[.slice A n c, .slice A2 m c2] w fun e w' => RetL pairK w (apply l ws).length (apply l ws) e w' := by
  have HD := Lib.hid hd
  have HW := Lib.hid hw
  have HL := Lib.hid hd.len
  have HWL := Lib.hid hw.len
  have HKs := Lib.hid hks
  have HWk := Lib.hid hwk
  have HNil := Lib.hid hd.nil
  clear hd hw hks hwk
  go_enter Try.func52, Try.ntmps52
  go_wp2_with (at_builtin
               refine wpl_appK pairK rfl (.tmp 7) (.tmp 8) 38 rfl rfl w.heap.size (some ⟨w.heap.size, 0, none⟩) 0 0 [] rfl (OwnK.lit0 pairK w _ (Nat.le_refl _)) A n c l rfl (HD.out.lst.q ((Q.refl _).alloc _)) HNil.out (by have := HD.out.few; simpa using this) (by simp) ?_
               intro A1 c1 w1 o1 b1
               have S0 := Lib.hid (show ApS w l ws 0 (.slice A1 n c1) w1 from ⟨A1, c1, by rw [← HL.out]; rfl, by rw [show (apply l (ws.take 0)).length = n from HL.out]; show OwnK pairK w1 w.heap.size A1 n c1 l; simpa using o1, ((Q.refl w).alloc _).below.trans b1⟩)
               clear o1 b1)
  go_loopw [5, 6] (fun v i wr => ∃ k : Nat, k ≤ m ∧ i = .int .i64 k ∧ ApS w l ws k v wr) (fun _ i _ => m - (intOf i).toNat)
  case atStart => exact ⟨0, Nat.zero_le _, rfl, by first | exact S0.out | (rw [Nat.zero_add]; exact S0.out)⟩
  case round =>
    obtain ⟨k, hk, rfl, A3, c3, rfl, o3, q3⟩ := hrel
    have O3 := Lib.hid o3
    have Q3 := Lib.hid q3
    clear o3 q3
    by_cases hlt : k < m
    · have hkl : k < ws.length := by have := HWL.out; omega
      have hln : (apply l (ws.take k)).length ≤ n + k := by
        have h1 := apply_len l (ws.take k)
        have h2 := HL.out
        have h3 := List.length_take_le k ws
        omega
      have hsn := apply_snoc l ws hkl
      obtain ⟨ad, rfl, hab, x0, x1, x2⟩ := load_write (HW.out.q Q3.out) hlt hkl
      have HS := Lib.hid hsn
      have HN := Lib.hid (show ((apply l (ws.take k)).length + 1) * 32 ≤ 140737488355328 by omega)
      have HN0 := Lib.hid (show (apply l (ws.take k)).length * 32 ≤ 140737488355328 by omega)
      have HAk := Lib.hid (show KeysIn (apply l (ws.take k)) from apply_keys HKs.out fun x hx => HWk.out x (List.mem_of_mem_take hx))
      have HXk := Lib.hid (show ws[k].key.size ≤ maxLen from HWk.out _ (List.getElem_mem hkl))
      clear hsn hln
      have hkm : (k : Int) < (m : Int) := by omega
      by_cases hdl : ws[k].del = true
      · have hE := Lib.hid (show apply l (ws.take (k + 1)) = drop (apply l (ws.take k)) ws[k].key by rw [HS.out, act_drop hdl])
        generalize ws[k] = x at x0 x1 x2 hE hdl HXk
        rw [hdl] at x2
        clear hdl
        go_wp2_with fail
        refine (refDrop_any x.key A3 _ c3 _ _ (O3.out.lst) HN0.out).mono ?_
        rintro e w5 ⟨A5, c5, rfl, o5, q5⟩
        have S5 := Lib.hid (show ApS w l ws (k + 1) (.slice A5 (drop (apply l (ws.take k)) x.key).length c5) w5 from ⟨A5, c5, by rw [hE.out], by rw [hE.out]; exact o5.lower Q3.out.size, Q3.out.trans q5⟩)
        clear o5 q5
        go_wp2
        go_roundw
        case rel => exact ⟨k + 1, by omega, by go_num, S5.out⟩
        case measure => simp [intOf]; omega
      · have hdf : ws[k].del = false := by simpa using hdl
        have hE := Lib.hid (show apply l (ws.take (k + 1)) = put (apply l (ws.take k)) ⟨ws[k].key, ws[k].val⟩ by rw [HS.out, act_put hdf])
        generalize ws[k] = x at x0 x1 x2 hE hdf HXk
        rw [hdf] at x2
        clear hdl hdf
        go_wp2
        go_still_tail 11, (by kernel_rfl)
        have Q4 := Lib.hid ((Q.refl wr).drew)
        change wpList _ _ _ _ _ wr.drew
        generalize wr.drew = w4 at Q4 ⊢
        go_wp2_with fail
        refine (trefPut_any x.key x.val A3 _ c3 _ _ (O3.out.lst.q Q4.out) HN.out HAk.out HXk.out).mono ?_
        rintro e w5 ⟨A5, c5, rfl, o5, q5⟩
        have S5 := Lib.hid (show ApS w l ws (k + 1) (.slice A5 (put (apply l (ws.take k)) ⟨x.key, x.val⟩).length c5) w5 from ⟨A5, c5, by rw [hE.out], by rw [hE.out]; exact o5.lower (Q3.out.trans Q4.out).size, (Q3.out.trans Q4.out).trans q5⟩)
        clear o5 q5
        go_wp2
        go_roundw
        case rel => exact ⟨k + 1, by omega, by go_num, S5.out⟩
        case measure => simp [intOf]; omega
    · have hkm : k = m := by omega
      have HE := Lib.hid (show ws.take k = ws by rw [List.take_of_length_le (by rw [HWL.out]; omega)])
      clear hkm
      go_wp2
      go_ret
      exact ⟨A3, c3, by rw [HE.out]; rfl, by have := O3.out; rw [HE.out] at this; exact this, Q3.out⟩
end Go.Proofs.Ytlbjobbmjccekaa

/- The examples of chapter 5, at the head of each law. -/
namespace Go.Proofs.Ytlbjobbmjccekaa
set_option maxRecDepth 100000
open Go.RowKit Prm
set_option linter.unusedVariables false
set_option linter.unusedSimpArgs false

theorem shown_put1 : put [] ⟨⟨#[98]⟩, ⟨#[50]⟩⟩ = [⟨⟨#[98]⟩, ⟨#[50]⟩⟩] := rfl
theorem shown_put2 : put [⟨⟨#[98]⟩, ⟨#[50]⟩⟩] ⟨⟨#[97]⟩, ⟨#[49]⟩⟩ = [⟨⟨#[97]⟩, ⟨#[49]⟩⟩, ⟨⟨#[98]⟩, ⟨#[50]⟩⟩] := by decide
theorem shown_range : range [⟨⟨#[97]⟩, ⟨#[49]⟩⟩, ⟨⟨#[98]⟩, ⟨#[50]⟩⟩] ⟨#[97]⟩ ⟨#[98]⟩ 9 = [⟨⟨#[97]⟩, ⟨#[49]⟩⟩] := by decide

end Go.Proofs.Ytlbjobbmjccekaa

/- What comes in: lists of pairs and of writes. -/
namespace Go.Proofs.Ytlbjobbmjccekaa
set_option maxRecDepth 100000
open Go.ChangeShapes Go.WideShapes Go.RowKit Prm
set_option linter.unusedVariables false

def PrIn (p : Pr) : Prop := p.key.size ≤ 140737488351232 ∧ p.val.size ≤ 140737488351232
def WrIn (p : Wr) : Prop := p.key.size ≤ 140737488351232 ∧ p.val.size ≤ 140737488351232
theorem open_pair {w : World} {cs : List Value} (h : Rd w 99 cs) : ∃ p : Pr, cs = pairK.row p ∧ PrIn p := by
  obtain ⟨hl, hf⟩ := h.struct Try.underlying99
  rw [show Try.prog.cellsOf 99 = 2 by kernel_rfl] at hl
  match cs, hl with
  | [a, b], _ =>
    obtain ⟨s0, e0, r0⟩ := (h.field Try.underlying99 0 (ty := 9) 0 1 rfl (by kernel_rfl)).string Try.underlying9
    obtain ⟨s1, e1, r1⟩ := (h.field Try.underlying99 1 (ty := 9) 1 1 rfl (by kernel_rfl)).string Try.underlying9
    simp at e0 e1
    subst e0 e1
    exact ⟨⟨s0, s1⟩, rfl, r0, r1⟩
theorem open_pairs {w : World} {cs : List Value} (h : Rd w 38 cs) : ∃ A n c l, cs = [.slice A n c] ∧ In_ pairK w A n c l ∧ n * 32 ≤ 140737488351232 ∧ ∀ p ∈ l, PrIn p :=
  open_kind pairK PrIn (fun cs hc => open_pair hc) (by kernel_rfl) (by kernel_rfl) h
theorem open_write {w : World} {cs : List Value} (h : Rd w 63 cs) : ∃ p : Wr, cs = writeK.row p ∧ WrIn p := by
  obtain ⟨hl, hf⟩ := h.struct Try.underlying63
  rw [show Try.prog.cellsOf 63 = 3 by kernel_rfl] at hl
  match cs, hl with
  | [a, b, c], _ =>
    obtain ⟨s0, e0, r0⟩ := (h.field Try.underlying63 0 (ty := 9) 0 1 rfl (by kernel_rfl)).string Try.underlying9
    obtain ⟨s1, e1, r1⟩ := (h.field Try.underlying63 1 (ty := 9) 1 1 rfl (by kernel_rfl)).string Try.underlying9
    obtain ⟨s2, e2⟩ := (h.field Try.underlying63 2 (ty := 4) 2 1 rfl (by kernel_rfl)).bool Try.underlying4
    simp at e0 e1 e2
    subst e0 e1 e2
    exact ⟨⟨s0, s1, s2⟩, rfl, r0, r1⟩
theorem open_writes {w : World} {cs : List Value} (h : Rd w 22 cs) : ∃ A n c l, cs = [.slice A n c] ∧ In_ writeK w A n c l ∧ n * 40 ≤ 140737488351232 ∧ ∀ p ∈ l, WrIn p :=
  open_kind writeK WrIn (fun cs hc => open_write hc) (by kernel_rfl) (by kernel_rfl) h
theorem keys_in {l : List Pr} (h : ∀ p ∈ l, PrIn p) : KeysIn l := fun p hp => by have := (h p hp).1; unfold maxLen; omega
theorem wkeys_in {l : List Wr} (h : ∀ p ∈ l, WrIn p) : WKeysIn l := fun p hp => by have := (h p hp).1; unfold maxLen; omega
end Go.Proofs.Ytlbjobbmjccekaa
