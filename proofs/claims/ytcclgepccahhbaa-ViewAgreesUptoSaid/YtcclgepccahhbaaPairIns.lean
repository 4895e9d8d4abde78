/- Contracts: slices.Insert of one pair into a list of the call's own. -/
import Derived.Test.YtcclgepccahhbaaKindRow
import Derived.Test.YtcclgepccahhbaaApp
import Derived.Test.YtcclgepccahhbaaPair
import Derived.Lib.Overlaps
import Derived.Laws.Externs
namespace Go.Proofs.Ytcclgepccahhbaa
set_option maxRecDepth 100000
open Go.RowKit Prm
set_option linter.unusedVariables false

theorem shape_row {w : World} {b : Nat} {cs : Array Value} {t : TypeId} {m : Nat × Nat} (h : w.heap[b]? = some (.cells cs t m)) : w.shape? b = some (t, cs.size) := by simp [World.shape?, h]
theorem size_pair : ∀ w, (Go.sizeOf 44).run Try.prog w = .ok 2 w := by
  obtain ⟨t, hi, hz, hs, hy⟩ := info_parts pairK.info
  have hi' : Try.prog.info? 44 = some t := hi
  have hs' : t.size = 2 := hs
  intro w
  simp [sizeOf, typeInfo, hi', hs']

/-- what both ways of an insertion leave in a row. -/
theorem shift_list {α : Type} (K : Kind α) (l : List α) (p : α) (xs : List Value) (i n c : Nat) (hi : i ≤ n) (hl : l.length = n) (hc : n + 1 ≤ c) (hx : xs.length = c * K.k) (ht : xs.take (n * K.k) = K.rows l) :
    ((xs.take ((i + 1) * K.k) ++ K.rows (l.drop i) ++ xs.drop ((i + 1) * K.k + (K.rows (l.drop i)).length)).take (i * K.k) ++ K.row p ++ (xs.take ((i + 1) * K.k) ++ K.rows (l.drop i) ++ xs.drop ((i + 1) * K.k + (K.rows (l.drop i)).length)).drop (i * K.k + (K.row p).length)).take ((n + 1) * K.k) = K.rows (l.take i ++ p :: l.drop i) := by
  have hnk : n * K.k + K.k ≤ c * K.k := by
    have : (n + 1) * K.k ≤ c * K.k := Nat.mul_le_mul_right _ hc
    rw [Nat.add_mul] at this; omega
  have hik : i * K.k ≤ n * K.k := Nat.mul_le_mul_right _ hi
  have e1 : (i + 1) * K.k = i * K.k + K.k := by rw [Nat.add_mul]; omega
  have e2 : (n + 1) * K.k = n * K.k + K.k := by rw [Nat.add_mul]; omega
  have hR : (K.rows (l.drop i)).length = n * K.k - i * K.k := by rw [K.rows_len, List.length_drop, hl, Nat.sub_mul]
  have hlt : (xs.take ((i + 1) * K.k)).length = (i + 1) * K.k := by rw [List.length_take]; omega
  have h1 : (xs.take ((i + 1) * K.k) ++ K.rows (l.drop i) ++ xs.drop ((i + 1) * K.k + (K.rows (l.drop i)).length)).take (i * K.k) = K.rows (l.take i) := by
    rw [List.append_assoc, List.take_append_of_le_length (by omega), List.take_take, Nat.min_eq_left (by omega), K.rows_take, ← ht, List.take_take, Nat.min_eq_left hik]
  have h2 : (xs.take ((i + 1) * K.k) ++ K.rows (l.drop i) ++ xs.drop ((i + 1) * K.k + (K.rows (l.drop i)).length)).drop (i * K.k + (K.row p).length) = K.rows (l.drop i) ++ xs.drop ((i + 1) * K.k + (K.rows (l.drop i)).length) := by
    rw [K.len, ← e1, List.append_assoc, List.drop_left' hlt]
  have h3 : (K.rows (l.take i) ++ K.row p ++ K.rows (l.drop i)).length = (n + 1) * K.k := by
    simp only [List.length_append, K.rows_len, K.len, List.length_take, List.length_drop, hl, Nat.min_eq_left hi, Nat.sub_mul]
    omega
  rw [h1, h2, K.rows_app, Kind.rows, ← List.append_assoc (K.rows (l.take i) ++ K.row p), List.take_left' h3, List.append_assoc]
theorem grow_list {α : Type} (K : Kind α) (l : List α) (p : α) (xs : List Value) (i n c : Nat) (hi : i ≤ n) (hl : l.length = n) (hc : n + 1 ≤ c) (hx : xs.length = c * K.k) (ht : xs.take (i * K.k) = K.rows (l.take i)) :
    ((xs.take (i * K.k) ++ K.row p ++ xs.drop (i * K.k + (K.row p).length)).take ((i + 1) * K.k) ++ K.rows (l.drop i) ++ (xs.take (i * K.k) ++ K.row p ++ xs.drop (i * K.k + (K.row p).length)).drop ((i + 1) * K.k + (K.rows (l.drop i)).length)).take ((n + 1) * K.k) = K.rows (l.take i ++ p :: l.drop i) := by
  have e1 : (i + 1) * K.k = i * K.k + K.k := by rw [Nat.add_mul]; omega
  have h0 : (K.rows (l.take i) ++ K.row p).length = (i + 1) * K.k := by
    simp only [List.length_append, K.rows_len, K.len, List.length_take, hl, Nat.min_eq_left hi]; omega
  rw [ht, List.take_left' h0]
  have h3 : (K.rows (l.take i) ++ K.row p ++ K.rows (l.drop i)).length = (n + 1) * K.k := by
    have : i * K.k ≤ n * K.k := Nat.mul_le_mul_right _ hi
    simp only [List.length_append, K.rows_len, K.len, List.length_take, List.length_drop, hl, Nat.min_eq_left hi, Nat.sub_mul, Nat.add_mul]
    omega
  rw [List.take_left' h3, K.rows_app, Kind.rows, List.append_assoc]

set_option maxHeartbeats 2000000 in
/-- at the end. -/
theorem insert_end (base : Nat) (A : Option Addr) (n c : Nat) (l : List Pr) (p : Pr) (vb : Nat) (w : World) (h : OwnK pairK w base A n c l) (hv : Lst pairK w (some ⟨vb, 0, none⟩) 1 [p]) (hn : (n + 1) * 32 ≤ 140737488355328) (hbase : base ≤ w.heap.size) :
    Calls Try.prog 50 #[.slice A n c, .int .i64 n, .slice (some ⟨vb, 0, none⟩) 1 1] w fun e w' => RetB pairK w base (n + 1) (l ++ [p]) e w' := by
  have HO := Lib.hid h
  have HV := Lib.hid hv
  have hcap := h.cap
  have hle := h.le
  unfold maxLen at hcap
  clear h hv
  cases A with
  | none =>
    obtain ⟨rfl, rfl, rfl⟩ : n = 0 ∧ c = 0 ∧ l = [] := by
      rcases HO.out.parts with ⟨_, a, b, d⟩ | ⟨g, cur, e, _⟩
      · exact ⟨a, b, d⟩
      · cases e
    go_enter Try.func50, Try.ntmps50
    go_wp2_with (at_builtin
                 refine wpl_appK pairK rfl (.tmp 23) (.tmp 24) 31 rfl rfl base none 0 0 [] rfl HO.out (some ⟨vb, 0, none⟩) 1 1 [p] rfl HV.out (fun e => by cases e) hn hbase ?_
                 intro A1 c1 w1 ho1 hb1)
    go_ret
    exact ⟨A1, c1, rfl, ho1, hb1⟩
  | some ad =>
    obtain ⟨ab, ao, asp⟩ := ad
    go_enter Try.func50, Try.ntmps50
    go_wp2_with (at_builtin
                 refine wpl_appK pairK rfl (.tmp 23) (.tmp 24) 31 rfl rfl base (some ⟨ab, ao, asp⟩) n c l rfl HO.out (some ⟨vb, 0, none⟩) 1 1 [p] rfl HV.out (fun e => by cases e) hn hbase ?_
                 intro A1 c1 w1 ho1 hb1)
    all_goals go_ret
    all_goals exact ⟨A1, c1, rfl, ho1, hb1⟩

set_option maxHeartbeats 4000000 in
/-- in the midst, where there is room: in place. -/
theorem insert_shift (base g n c i : Nat) (l : List Pr) (p : Pr) (vb : Nat) (w : World) (h : OwnK pairK w base (some ⟨g, 0, none⟩) n c l) (hb : w.heap[vb]? = some (.cells #[.string p.key, .string p.val] 44 (0, 0))) (hne : vb ≠ g) (hi : i < n) (hroom : n + 1 ≤ c) :
    Calls Try.prog 50 #[.slice (some ⟨g, 0, none⟩) n c, .int .i64 i, .slice (some ⟨vb, 0, none⟩) 1 1] w fun e w' => RetB pairK w base (n + 1) (l.take i ++ p :: l.drop i) e w' := by
  have hcap := h.cap
  unfold maxLen at hcap
  have hll := h.len
  obtain ⟨xs, hR, hxs⟩ := h.row
  have hov : ∀ lb cb, (callFunc 52 #[.slice (some ⟨vb, 0, none⟩) 1 1, .slice (some ⟨g, (i + 1) * 2, none⟩) lb cb]).run Try.prog w = .ok (.value (.bool false)) w := fun lb cb => by
    obtain ⟨g', cur, e, hgb, hh, hc', hm', hs', ht'⟩ := h.parts.resolve_left (fun e => by cases e.1)
    injection e with e
    injection e with e
    subst e
    rw [run_callFunc_extern Try.func52 (by kernel_rfl) (by kernel_rfl) (by kernel_rfl) (e := Extern.SlicesOverlaps.overlaps #[31, 31] #[4]) (by kernel_rfl),
      Lib.run_overlaps_apart w 31 4 44 Try.underlying31 2 size_pair ⟨vb, 0, none⟩ ⟨g, (i + 1) * 2, none⟩ 1 1 lb cb hne _ _ _ _ (shape_row hb) (shape_row hh)
        (by have : c * 2 = cur.size := hs'.symm; omega) (frozen_of_row w vb 0 _ _ hb) (frozen_of_row w vb _ _ _ hb)]
    rfl
  have h1 := Lib.hid hov
  have hR0 := Lib.hid hR
  have HX := Lib.hid hxs
  have hX := Lib.hid hR.len
  have hrl : (pairK.rows (l.drop i)).length = (n - i) * 2 := by rw [pairK.rows_len, List.length_drop, hll]; rfl
  have hsrc1 := Lib.hid (fun (j : Nat) (v : Value) (hj : (pairK.rows (l.drop i))[j]? = some v) => show w.drew.cell? ((⟨g, i * 2, none⟩ : Addr).add j) = some v by
    have hjl := (List.getElem?_eq_some_iff.1 hj).1
    rw [Addr.add_lit]
    show w.cell? _ = _
    rw [hR.cell (i * 2 + j) (by have : pairK.k = 2 := rfl; rw [this]; omega)]
    rw [pairK.rows_drop, List.getElem?_drop, ← hxs, List.getElem?_take] at hj
    split at hj
    · exact hj
    · cases hj)
  have HL2 := Lib.hid (show (pairK.rows (l.drop i)).length = Nat.min (n + 1 - i) (n - i) * pairK.k by rw [hrl, show Nat.min (n + 1 - i) (n - i) = n - i from Nat.min_eq_right (by omega)]; rfl)
  have HL3 := Lib.hid (show (i + 1) * 2 + (pairK.rows (l.drop i)).length ≤ c * pairK.k by rw [hrl]; show _ ≤ c * 2; omega)
  have H1R := Lib.hid (pairK.rows_one (l.drop i))
  have hvs := Lib.hid (fun (j : Nat) (v : Value) (hj : (pairK.row p)[j]? = some v) => show w.drew.cell? ((⟨vb, 0, none⟩ : Addr).add j) = some v by
    rw [Addr.add_lit, Nat.zero_add]
    exact (cell_of_row w vb j _ _ _ hb).trans (by simpa [pairK] using hj))
  have hvl : vb < w.heap.size := (Array.getElem?_eq_some_iff.1 hb).1
  have HB := Lib.hid hb
  have HL := Lib.hid hrl
  have hge := Lib.hid hR.ge
  clear hb h hov hR hxs hrl
  have hz2 : ((i : Int) == (n : Int)) = false := by simp; omega
  have hb2 : ¬ (c = i + 1) := by omega
  have hb4 : ¬ (c = i) := by omega
  have hb1 : (0 : Int) ≤ (i : Int) + 1 := by omega
  have htn : ((i : Int) + 1).toNat = i + 1 := by omega
  have hb3 : (i : Int) ≤ (n : Int) + 1 := by omega
  have hll' := Lib.hid hll
  clear hll
  have hov := h1.out
  have hin : i ≤ n := Nat.le_of_lt hi
  have hin1 : i ≤ n + 1 := by omega
  have hw1 : IntKind.i64.wrap ((i : Int) + 1) = (i : Int) + 1 := by rw [IntKind.wrap_i64]; omega
  go_enter Try.func50, Try.ntmps50
  go_wp2_with (simp only [hov])
  go_region_law ((refine step_copyK pairK (by rfl) (.tmp 73) (.tmp 76) _ _ (by rfl) (by rfl) base g c ((i + 1) * 2) xs (n - i) (c - (i + 1)) ⟨g, i * 2, none⟩ (n + 1 - i) (c - i) (by simp [Act.eval, Act.put]) (by simp [Act.eval, Act.put]) hR0.out.drew (pairK.rows (l.drop i)) HL2.out hsrc1.out HL3.out H1R.out ?_); intro w1 hr1 hg1)
  have HR1 := Lib.hid hr1
  have HG1 := Lib.hid hg1
  clear hr1 hg1 hw1 hov
  have hvs1 := Lib.hid (fun (j : Nat) (v : Value) (hj : (pairK.row p)[j]? = some v) => show w1.cell? ((⟨vb, 0, none⟩ : Addr).add j) = some v by
    rw [only_cell HG1.out (by rw [addr_block]; exact hvl) (by rw [addr_block]; exact hne)]
    exact hvs.out j v hj)
  obtain ⟨w2, hrun, hr2, hg2⟩ := copy_row pairK HR1.out 31 3 (i * 2) (n + 1 - i) (c - i) ⟨vb, 0, none⟩ 1 1 (pairK.row p) (by rw [show Nat.min 1 (n + 1 - i) = 1 from Nat.min_eq_left (by omega)]; rfl) hvs1.out (by show i * 2 + 2 ≤ c * 2; omega) (pairK.one _)
  have hrun : (Builtin.copy_ #[31, 31] 3 #[.slice (some ⟨g, i * 2, none⟩) (n + 1 - i) (c - i), .slice (some ⟨vb, 0, none⟩) 1 1]).run Try.prog w1 = .ok (goInt (Nat.min 1 (n + 1 - i))) w2 := hrun
  have hr2 := Lib.hid hr2
  have hg2 := Lib.hid hg2
  go_wp2_with (simp only [hrun])
  go_ret
  refine ⟨_, _, rfl, hr2.out.own hroom ?_, ?_⟩
  · exact shift_list pairK l p xs i n c (Nat.le_of_lt hi) hll'.out hroom hX.out HX.out
  · exact (below_grown ((only_drew (only_refl w g)).trans (HG1.out.trans hg2.out)) (by have := hge.out; omega) (fun k hk => by injection hk with hk; have := hge.out; omega))

set_option maxHeartbeats 4000000 in
/-- in the midst, where there is no room: a new row. -/
theorem insert_grow (base g n c i : Nat) (l : List Pr) (p : Pr) (vb : Nat) (w : World) (h : OwnK pairK w base (some ⟨g, 0, none⟩) n c l) (hb : w.heap[vb]? = some (.cells #[.string p.key, .string p.val] 44 (0, 0))) (hi : i < n) (hroom : c < n + 1) (hn : (n + 1) * 32 ≤ 140737488355328) (hbase : base ≤ w.heap.size) :
    Calls Try.prog 50 #[.slice (some ⟨g, 0, none⟩) n c, .int .i64 i, .slice (some ⟨vb, 0, none⟩) 1 1] w fun e w' => RetB pairK w base (n + 1) (l.take i ++ p :: l.drop i) e w' := by
  have hcap := h.cap
  have hle := h.le
  unfold maxLen at hcap
  have hll := h.len
  have hgw := h.block_lt.2
  have hvl : vb < w.heap.size := (Array.getElem?_eq_some_iff.1 hb).1
  have hlt := Lib.hid (show (pairK.rows (l.take i)).length = i * pairK.k by rw [pairK.rows_len, List.length_take, hll, Nat.min_eq_left (Nat.le_of_lt hi)])
  have hcell : ∀ j v, (pairK.rows l)[j]? = some v → w.cell? ⟨g, j, none⟩ = some v := fun j v hj => by
    have hjl := (List.getElem?_eq_some_iff.1 hj).1
    rw [pairK.rows_len, hll] at hjl
    rw [World.ownsRow.cellAt h j hjl]; exact hj
  have hold := Lib.hid (fun (j : Nat) (v : Value) (hj : (pairK.rows (l.take i))[j]? = some v) => show w.cell? ((⟨g, 0, none⟩ : Addr).add j) = some v by
    rw [Addr.add_lit, Nat.zero_add]
    rw [pairK.rows_take, List.getElem?_take] at hj
    split at hj
    · exact hcell j v hj
    · cases hj)
  have hrest := Lib.hid (fun (j : Nat) (v : Value) (hj : (pairK.rows (l.drop i))[j]? = some v) => show w.cell? ((⟨g, i * 2, none⟩ : Addr).add j) = some v by
    rw [Addr.add_lit]
    rw [pairK.rows_drop, List.getElem?_drop] at hj
    exact hcell _ v hj)
  have hrl := Lib.hid (show (pairK.rows (l.drop i)).length = (n - i) * 2 by rw [pairK.rows_len, List.length_drop, hll]; rfl)
  have hvs := Lib.hid (fun (j : Nat) (v : Value) (hj : (pairK.row p)[j]? = some v) => show w.cell? ((⟨vb, 0, none⟩ : Addr).add j) = some v by
    rw [Addr.add_lit, Nat.zero_add]
    exact (cell_of_row w vb j _ _ _ hb).trans (by simpa [pairK] using hj))
  have hll' := Lib.hid hll
  clear hb h hll hcell
  have hz2 : ((i : Int) == (n : Int)) = false := by simp; omega
  have hz3 : (c : Int) < (n : Int) + 1 := by omega
  have hci : ¬ (c = i) := by omega
  have hb1 : (0 : Int) ≤ (i : Int) + 1 := by omega
  have htn : ((i : Int) + 1).toNat = i + 1 := by omega
  have hb3 : (i : Int) ≤ (n : Int) + 1 := by omega
  have hin : i ≤ n := Nat.le_of_lt hi
  have hin1 : i ≤ n + 1 := by omega
  have hw1 : IntKind.i64.wrap ((i : Int) + 1) = (i : Int) + 1 := by rw [IntKind.wrap_i64]; omega
  go_enter Try.func50, Try.ntmps50
  go_wp2_with (at_builtin
               refine wpl_zerosK pairK rfl (.tmp 34) (.tmp 39) 31 3 rfl Try.underlying3 rfl base ⟨g, 0, none⟩ i c (n + 1 - i) (n + 1) (by omega) ((n : Int) + 1 - i) (by omega) rfl rfl (pairK.rows (l.take i)) hlt.out hold.out (by omega) (by omega) (by rw [show i + (n + 1 - i) = n + 1 by omega]; exact hn) hbase ?_
               intro G w1 xs hr1 ht1 hG q1 hGm hs1
               have hr1 := Lib.hid hr1
               have ht1 := Lib.hid ht1
               have hs1 := Lib.hid hs1
               unfold maxLen at hGm
               have hGi : ¬ (G = i) := by omega
               have hGi1 : ¬ (G = i + 1) := by omega)
  have Q1 := Lib.hid q1
  have hgH : w.heap.size ≠ vb := by omega
  have hgG : w.heap.size ≠ g := by omega
  have hvs1 := Lib.hid (fun (j : Nat) (v : Value) (hj : (pairK.row p)[j]? = some v) => show w1.cell? ((⟨vb, 0, none⟩ : Addr).add j) = some v from (q1.below.cell (by rw [addr_block]; exact hvl)).trans (hvs.out j v hj))
  clear q1
  obtain ⟨w2, hrun, hr2, hg2⟩ := copy_row pairK hr1.out 31 3 (i * 2) (n + 1 - i) (G - i) ⟨vb, 0, none⟩ 1 1 (pairK.row p) (by rw [show Nat.min 1 (n + 1 - i) = 1 from Nat.min_eq_left (by omega)]; rfl) hvs1.out (by show i * 2 + 2 ≤ G * 2; omega) (pairK.one _)
  have hrun : (Builtin.copy_ #[31, 31] 3 #[.slice (some ⟨w.heap.size, i * 2, none⟩) (n + 1 - i) (G - i), .slice (some ⟨vb, 0, none⟩) 1 1]).run Try.prog w1 = .ok (goInt (Nat.min 1 (n + 1 - i))) w2 := hrun
  have hr2 := Lib.hid hr2
  have hg2 := Lib.hid hg2
  have hrest2 := Lib.hid (fun (j : Nat) (v : Value) (hj : (pairK.rows (l.drop i))[j]? = some v) => show w2.drew.cell? ((⟨g, i * 2, none⟩ : Addr).add j) = some v from
    (only_cell hg2.out (p := (⟨g, i * 2, none⟩ : Addr).add j) (by rw [addr_block]; show g < _; have := hs1.out; omega) (by rw [addr_block]; exact fun e => hgG e.symm)).trans ((Q1.out.below.cell (by rw [addr_block]; exact hgw)).trans (hrest.out j v hj)))
  have HL2 := Lib.hid (show (pairK.rows (l.drop i)).length = Nat.min (n - i) (n - i) * pairK.k by rw [hrl.out, show Nat.min (n - i) (n - i) = n - i from Nat.min_self _]; rfl)
  have HL3 := Lib.hid (show (i + 1) * 2 + (pairK.rows (l.drop i)).length ≤ G * pairK.k by rw [hrl.out]; show _ ≤ G * 2; omega)
  have H1R := Lib.hid (pairK.rows_one (l.drop i))
  go_wp2_with (simp only [hrun])
  clear hrun
  go_region_law ((refine step_copyK pairK (by rfl) (.tmp 50) (.tmp 53) _ _ (by rfl) (by rfl) base w.heap.size G ((i + 1) * 2) _ (n - i) (G - (i + 1)) ⟨g, i * 2, none⟩ (n - i) (c - i) (by simp [Act.eval, Act.put]) (by simp [Act.eval, Act.put]) hr2.out.drew (pairK.rows (l.drop i)) HL2.out hrest2.out HL3.out H1R.out ?_); intro w3 hr3 hg3)
  have hr3 := Lib.hid hr3
  have hg3 := Lib.hid hg3
  go_wp2
  go_ret
  refine ⟨_, _, rfl, hr3.out.own hG ?_, ?_⟩
  · exact grow_list pairK l p xs i n G (Nat.le_of_lt hi) hll'.out hG hr1.out.len ht1.out
  · have g2 := only_drew hg2.out
    exact ((Q1.out.below.mono hbase).trans (below_grown (g2.trans hg3.out) (by have := hs1.out; omega) (fun k hk => by injection hk with hk; omega)))
end Go.Proofs.Ytcclgepccahhbaa
