/- Concat, Sorted, App, PairIns, PairDel: merged. -/
import Derived.Test.YtodfdklcioafmaaA3
import Derived.Test.YtodfdklcioafmaaA1
import Derived.Test.YtodfdklcioafmaaShelfSort
import Derived.Sort.OwnSorted
import Derived.Lib.OwnBridge
import Derived.Maps.AppendAt
import Derived.Laws.AppendOwnNone
import Derived.Lib.Overlaps
import Derived.Laws.Externs
/- Contracts: slices.Grow of nothing, slices.Concat of two rows of writes. -/
namespace Go.Proofs.Ytodfdklcioafmaa
set_option maxRecDepth 100000
open Go.RowKit Prm
set_option linter.unusedVariables false
set_option linter.unusedSimpArgs false
variable {α : Type}

/-- 'append(nil, make(.., m)...)': a new row. -/
theorem zeros_row0 (K : Kind α) (w : World) (base : Nat) (tn : TypeId) (htn : Try.prog.underlying tn = some (.int .i64)) (ty : TypeId) (m : Nat)
    (hm : 0 < m) (hb : m * K.bs ≤ 140737488355328) (hbase : base ≤ w.heap.size) :
    ∃ G w' xs, (Builtin.append_ #[K.S, tn] ty #[.slice none 0 0, .int .i64 (m : Int)]).run Try.prog w = .ok (.slice (some ⟨w.heap.size, 0, none⟩) m G) w' ∧ RowK K w' base w.heap.size G xs ∧ m ≤ G ∧ Q w w' ∧ G ≤ maxLen := by
  obtain ⟨t, hi, hz, hs, hy⟩ := info_parts K.info
  have hmax : m ≤ maxLen := by
    have : m * 1 ≤ m * K.bs := Nat.mul_le_mul_left _ K.bpos
    unfold maxLen; omega
  have hGm := grownCap_le_maxLen w (0 + m) 0 K.T (by omega)
  have hGn := grownCap_ge w (0 + m) 0 K.T
  have hmb : m * t.bytes ≤ 281474976710656 := by rw [hy]; omega
  have h := Lib.run_append_grow_zeros (P := Try.prog) w K.S tn ty K.T t K.z .i64 .i64 K.und htn hi hz none 0 0 []
    (run_firstCells_none (P := Try.prog) (w := w.drew) _ 0 0 0) m hm (by rw [hs]; exact K.pos) (by omega) (by unfold maxLen at hmax; omega) hmb (by rw [hy]; exact growslice_fits (by omega) (by rw [Nat.zero_add]; exact hb))
  rw [Nat.zero_add] at h hGm hGn
  generalize grownCap w m 0 K.T = G at h hGm hGn
  have hsz : ((#[] : Array Value) ++ Builtin.zeroCells K.z.cells m ++ Builtin.zeroCells K.z.cells (G - m)).size = G * K.k := by
    simp only [Array.size_append, zeros_size, K.zc, List.size_toArray]
    simp only [List.size_toArray, List.length_nil, Array.size_empty, Nat.zero_add]
    rw [← Nat.add_mul]
    congr 1
    omega
  exact ⟨G, _, _, h, World.ownsRow_lit (e := K.T) (size := K.k) w.drew _ G hbase hGm hsz, hGn, (Q.refl w).drew.alloc _, hGm⟩

theorem wpl_zerosK0 (K : Kind α) {w : World} {ops : Array Oper} {rest : List Oper} {o : Oper} {a : Act} {R : Exit → Act → World → Prop} (hgd : o.guard = none) (s x : Operand) (t tn : TypeId) (ht : t = K.S) (htn : Try.prog.underlying tn = some (.int .i64))
    (ho : o.op = .call { callee := .builtin .append, args := #[s, x], argTypes := #[t, tn] }) (base : Nat) (m : Nat) (hs : a.eval s = .slice none 0 0) (hx : a.eval x = .int .i64 (m : Int))
    (hm : 0 < m) (hb : m * K.bs ≤ 140737488355328) (hbase : base ≤ w.heap.size)
    (hk : ∀ G w' xs, RowK K w' base w.heap.size G xs → m ≤ G → Q w w' → G ≤ maxLen → wpList Try.prog ops R rest (a.put o.dst (.slice (some ⟨w.heap.size, 0, none⟩) m G)) w') : wpList Try.prog ops R (o :: rest) a w := by
  subst ht
  refine wpList_plain hgd fun X hX => ?_
  obtain ⟨G, w', xs, hr, h1, h2, h3, h4⟩ := zeros_row0 K w base tn htn o.type m hm hb hbase
  unfold Oper.wp execOp
  simp only [ho, resolve, invoke, builtin, Sem.run_bind, Sem.run_pure, Result.andThen_ok, List.map_toArray, List.map_cons, List.map_nil, hs, hx, hr]
  exact hX _ _ (hk G w' xs h1 h2 h3 h4)

set_option maxHeartbeats 2000000 in
theorem grow_any (m : Nat) (w : World) (hb : m * 40 ≤ 140737488355328) :
    Calls Try.prog 72 #[.slice none 0 0, .int .i64 (m : Int)] w fun e w' => RetL writeK w 0 [] e w' := by
  have hm : m ≤ 9223372036854775807 := by omega
  by_cases h0 : 0 < m
  · have h1 : (0 : Int) < (m : Int) := by omega
    have HB := Lib.hid hb
    clear hb
    go_enter Try.func72, Try.ntmps72
    go_wp2_with (at_builtin
                 refine wpl_zerosK0 writeK rfl (.tmp 20) (.tmp 21) 39 3 rfl Try.underlying3 rfl w.heap.size m rfl rfl h0 HB.out (Nat.le_refl _) ?_
                 intro G w1 xs hrow hG q1 hGm)
    go_ret
    exact ⟨_, G, rfl, hrow.own (Nat.zero_le _) (by simp [Kind.rows]), q1⟩
  · have h1 : m = 0 := by omega
    subst h1
    clear hb
    go_enter Try.func72, Try.ntmps72
    go_wp2
    go_ret
    exact ⟨none, 0, rfl, OwnK.nil_ _ _ _, Q.refl _⟩

/-- two rows of writes in a row of their own. -/
def Two (w : World) (b : Nat) (A : Option Addr) (n c : Nat) (B : Option Addr) (m d : Nat) : Prop := Bx w b [.slice A n c, .slice B m d]

set_option maxHeartbeats 4000000 in
set_option maxRecDepth 100000 in
theorem concat_any (b : Nat) (A B : Option Addr) (n c m d : Nat) (l l2 : List Wr) (w : World) (hb : Two w b A n c B m d) (h1 : In_ writeK w A n c l) (h2 : In_ writeK w B m d l2) (hs : (n + m) * 40 ≤ 140737488355328) :
    Calls Try.prog 40 #[.slice (some ⟨b, 0, none⟩) 2 2] w fun e w' => RetL writeK w (n + m) (l ++ l2) e w' := by
  obtain ⟨x0, _⟩ := hb 0 _ rfl
  obtain ⟨x1, _⟩ := hb 1 _ rfl
  have H1 := Lib.hid h1
  have H2 := Lib.hid h2
  have HS := Lib.hid hs
  have X0 := Lib.hid x0
  have X1 := Lib.hid x1
  have hn : n ≤ 9223372036854775807 := by have := h1.max; unfold maxLen at this; exact this
  have hm : m ≤ 9223372036854775807 := by have := h2.max; unfold maxLen at this; exact this
  have hnm : n + m ≤ 4611686018427387904 := by omega
  have hnm2 : (n : Int) + (m : Int) ≤ 4611686018427387904 := by omega
  clear h1 h2 hs hb x0 x1
  go_enter Try.func40, Try.ntmps40
  go_wp2
  go_loopw [3, 11] (fun s3 s11 wr => w = wr ∧ ((s3 = .int .i64 0 ∧ s11 = .int .i64 0) ∨ (s3 = .int .i64 (n : Int) ∧ s11 = .int .i64 1) ∨ (s3 = .int .i64 ((n + m : Nat) : Int) ∧ s11 = .int .i64 2))) (fun _ s11 _ => (2 - intOf s11).toNat)
  case atStart => exact ⟨rfl, .inl ⟨rfl, rfl⟩⟩
  case round =>
    obtain ⟨rfl, ⟨rfl, rfl⟩ | ⟨rfl, rfl⟩ | ⟨rfl, rfl⟩⟩ := hrel
    · have x0 := X0.out
      go_wp2
      go_roundw
      case rel => exact ⟨trivial, .inr (.inl ⟨by first | rfl | go_num, rfl⟩)⟩
      case measure => simp [intOf]
    · have x1 := X1.out
      go_wp2
      go_roundw
      case rel => exact ⟨trivial, .inr (.inr ⟨by first | rfl | go_num | (congr 1; omega), rfl⟩)⟩
      case measure => simp [intOf]
    · go_wp2_with fail
      refine (grow_any (n + m) _ HS.out).mono ?_
      rintro e w2 ⟨A2, c2, rfl, o2, q2⟩
      have O2 := Lib.hid o2
      have Q2 := Lib.hid q2
      clear o2 q2
      go_wp2
      go_loopw [6, 27] (fun s6 s27 wy => Q w wy ∧ ((∃ A3 c3, s6 = .slice A3 0 c3 ∧ OwnK writeK wy w.heap.size A3 0 c3 [] ∧ s27 = .int .i64 0) ∨ (∃ A3 c3, s6 = .slice A3 n c3 ∧ OwnK writeK wy w.heap.size A3 n c3 l ∧ s27 = .int .i64 1) ∨ (∃ A3 c3, s6 = .slice A3 (n + m) c3 ∧ OwnK writeK wy w.heap.size A3 (n + m) c3 (l ++ l2) ∧ s27 = .int .i64 2))) (fun _ s27 _ => (2 - intOf s27).toNat)
      case atStart => exact ⟨Q2.out, .inl ⟨A2, c2, rfl, O2.out, rfl⟩⟩
      case round =>
        obtain ⟨q, ⟨A3, c3, rfl, o3, rfl⟩ | ⟨A3, c3, rfl, o3, rfl⟩ | ⟨A3, c3, rfl, o3, rfl⟩⟩ := hrel
        · have QQ := Lib.hid q
          have O3 := Lib.hid o3
          have x0 := box_ q X0.out
          clear q o3
          go_wp2_with (at_builtin
                       refine wpl_appK writeK rfl (.tmp 31) (.tmp 32) 39 rfl rfl w.heap.size A3 0 c3 [] rfl O3.out A n c l rfl (H1.out.lst.q QQ.out) H1.out.nil (by have := HS.out; show (0 + n) * 40 ≤ _; omega) QQ.out.size ?_
                       intro A5 c5 w5 o5 b5
                       have S5 := Lib.hid (show Q w w5 ∧ OwnK writeK w5 w.heap.size A5 n c5 l from ⟨QQ.out.below.trans b5, by simpa using o5⟩)
                       clear o5 b5)
          go_roundw
          case rel => exact ⟨S5.out.1, .inr (.inl ⟨A5, c5, by simp, S5.out.2, rfl⟩)⟩
          case measure => simp [intOf]
        · have QQ := Lib.hid q
          have O3 := Lib.hid o3
          have x1 := box_ q X1.out
          clear q o3
          go_wp2_with (at_builtin
                       refine wpl_appK writeK rfl (.tmp 31) (.tmp 32) 39 rfl rfl w.heap.size A3 n c3 l rfl O3.out B m d l2 rfl (H2.out.lst.q QQ.out) H2.out.nil HS.out QQ.out.size ?_
                       intro A5 c5 w5 o5 b5
                       have S5 := Lib.hid (show Q w w5 ∧ OwnK writeK w5 w.heap.size A5 (n + m) c5 (l ++ l2) from ⟨QQ.out.below.trans b5, o5⟩)
                       clear o5 b5)
          go_roundw
          case rel => exact ⟨S5.out.1, .inr (.inr ⟨A5, c5, by simp, S5.out.2, rfl⟩)⟩
          case measure => simp [intOf]
        · go_wp2
          go_ret
          exact ⟨A3, c3, rfl, o3, q⟩
end Go.Proofs.Ytodfdklcioafmaa

/- Between a list of the call's own and the library's sort: rows of more than one cell. -/
namespace Go.Proofs.Ytodfdklcioafmaa
set_option maxRecDepth 100000
open Go.RowKit Go.Shelf
set_option linter.unusedVariables false
set_option linter.unusedSimpArgs false
variable {α : Type} [Inhabited α]

theorem flat_rows (K : Kind α) (d : Array α) : (Go.Sort.flatK K.row K.k d).toList = K.rows d.toList := by
  apply List.ext_getElem?
  intro t
  by_cases ht : t < d.size * K.k
  · have hs : t < (Go.Sort.flatK K.row K.k d).size := by simpa using ht
    have hq : t / K.k < d.toList.length := by rw [Array.length_toList]; exact Nat.div_lt_of_lt_mul (by rw [Nat.mul_comm]; exact ht)
    have hr : t % K.k < K.k := Nat.mod_lt _ K.pos
    have e := K.rows_at d.toList (t / K.k) hq (t % K.k) hr
    have et : t / K.k * K.k + t % K.k = t := by rw [Nat.mul_comm]; exact Nat.div_add_mod t K.k
    rw [et] at e
    rw [e, Array.getElem?_toList, Array.getElem?_eq_getElem hs]
    have h2 := Go.Sort.get_flatK K.row K.k d t ht
    rw [getElem!_pos (Go.Sort.flatK K.row K.k d) t hs] at h2
    rw [h2]
    have hq2 : t / K.k < d.size := by simpa using hq
    have hrl : t % K.k < (K.row d[t / K.k]).length := by rw [K.len]; exact hr
    rw [getElem!_pos d (t / K.k) hq2, getElem!_pos (K.row d[t / K.k]) (t % K.k) hrl]
    simp only [Array.getElem_toList]
    rw [List.getElem?_eq_getElem hrl]
  · rw [List.getElem?_eq_none (by rw [Array.length_toList, Go.Sort.size_flatK]; omega), List.getElem?_eq_none (by rw [K.rows_len, Array.length_toList]; omega)]
theorem OwnK.holdsK {K : Kind α} {w : World} {base g n c : Nat} {l : List α} (h : OwnK K w base (some ⟨g, 0, none⟩) n c l) : Go.Sort.HoldsK K.row K.k w g 0 l.toArray := by
  intro j hj
  have hl := h.len
  have hj2 : j < n * K.k := by rw [Go.Sort.size_flatK] at hj; simpa [hl] using hj
  rw [Nat.zero_add]
  refine ⟨?_, h.free j⟩
  rw [World.ownsRow.cellAt h j hj2]
  have e := flat_rows K l.toArray
  rw [show l.toArray.toList = l from rfl] at e
  rw [← e, Array.getElem?_toList, Array.getElem?_eq_getElem hj]
  have h3 := getElem!_pos (Go.Sort.flatK K.row K.k l.toArray) j hj
  rw [← h3]; rfl
theorem OwnK.sorted {K : Kind α} {w : World} {base g n c q : Nat} {os : Array Obj} {l : List α} (h : OwnK K w base (some ⟨g, 0, none⟩) n c l) (d : Array α) (hd : d.size = n) :
    OwnK K (sortWorldK K.row K.k w g 0 q d os) base (some ⟨g, 0, none⟩) n c d.toList := by
  rcases h.parts with ⟨e, _⟩ | ⟨g', cur, e, hb, hh, hc, hm, hs, ht⟩
  · cases e
  injection e with e
  injection e with e
  subst e
  have hg : g < w.heap.size := (Array.getElem?_eq_some_iff.1 hh).1
  have hnk : n * K.k ≤ c * K.k := Nat.mul_le_mul_right _ hc
  refine ⟨by rw [K.rows_len, Array.length_toList, hd], .inr ⟨g, c, Go.Sort.putCells id 0 (Go.Sort.flatK K.row K.k d) cur, rfl, hb, ?_, hc, hm, by simpa [Go.Sort.putCells] using hs, ?_⟩⟩
  · unfold sortWorldK Go.Sort.putRowK
    rw [Go.Sort.heap_grow_old _ _ (by simpa [Go.Sort.putRow, Go.Sort.mapBlock, Go.Sort.ahead] using hg)]
    simp [Go.Sort.putRow, Go.Sort.mapBlock, Go.Sort.ahead, Array.getElem?_modify, hh, Go.Sort.onCells]
  · rw [← flat_rows K d]
    apply List.ext_getElem?
    intro j
    have hfs : (Go.Sort.flatK K.row K.k d).size = n * K.k := by rw [Go.Sort.size_flatK, hd]
    by_cases hj : j < n * K.k
    · have hjc : j < cur.size := by omega
      rw [List.getElem?_take_of_lt hj, Array.getElem?_toList, Array.getElem?_toList]
      simp only [Go.Sort.putCells, Array.getElem?_mapIdx, Array.getElem?_eq_getElem hjc, Option.map_some]
      rw [if_pos (by omega), Array.getElem?_eq_getElem (by omega)]
      have h3 := getElem!_pos (Go.Sort.flatK K.row K.k d) j (by omega)
      rw [← h3]; rfl
    · rw [List.getElem?_take_eq_none (by omega), List.getElem?_eq_none (by rw [Array.length_toList]; omega)]
theorem below_sortedK {K : Kind α} {B : Nat} {w0 w : World} {g q : Nat} {os : Array Obj} {d : Array α} (h : Below B w0 w) (hg : B ≤ g) (hgw : B ≤ w.heap.size) : Below B w0 (sortWorldK K.row K.k w g 0 q d os) := by
  have hp := Lib.below_putRow (enc := id) (q := q) (d := Go.Sort.flatK K.row K.k d) h hg
  unfold sortWorldK Go.Sort.putRowK
  refine ⟨hp.os, hp.tape, hp.output, by simpa using Nat.le_trans hp.size (by simp), fun k hk => ?_⟩
  rw [Go.Sort.heap_grow_old _ _ (by have := hp.size; simp [Go.Sort.putRow, Go.Sort.mapBlock, Go.Sort.ahead] at this ⊢; omega)]
  exact hp.block k hk
theorem OwnK.grown {β : Type} {K : Kind β} {w w' : World} {base n c b : Nat} {A : Option Addr} {l : List β} (h : OwnK K w base A n c l) (hg : w.grownBy w' (some b)) (hb : b < base) : OwnK K w' base A n c l := by
  refine ⟨h.1, ?_⟩
  rcases h.2 with ⟨e, h0⟩ | ⟨g, cap, cur, e, hgb, hh, r⟩
  · exact .inl ⟨e, h0⟩
  · have hlt : g < w.heap.size := (Array.getElem?_eq_some_iff.1 hh).1
    exact .inr ⟨g, cap, cur, e, hgb, (hg.block g hlt (by simp; omega)).trans hh, r⟩
end Go.Proofs.Ytodfdklcioafmaa

/- 'append(own, more...)' for rows of any kind of element: the source nil or not; only the own block has turned. -/
namespace Go.Proofs.Ytodfdklcioafmaa
set_option maxRecDepth 100000
open Go.RowKit
set_option linter.unusedVariables false

theorem run_appG {P : Program} {w : World} (base : Nat) (t ty e : TypeId) (z : Value) (size bytes : Nat) (ht : P.underlying t = some (.slice e)) (hinfo : (P.info? e).map (fun i => (i.zero, i.size, i.bytes)) = some (some z, size, bytes))
    (hzs : z.cells.size = size) (hsz : 0 < size) (A : Option Addr) (n c : Nat) (xs : List Value) (h : w.ownsRow base e size (.slice A n c) n xs)
    (A2 : Option Addr) (m c2 : Nat) (news : List Value) (hl : news.length = m * size) (hnews : ∀ j u, news[j]? = some u → ∃ a, A2 = some a ∧ w.cell? (a.add j) = some u) (h1 : ∀ u ∈ news, u.oneCell' = true)
    (hnil : A2 = none → m = 0 ∧ c2 = 0) (hmax : n + m ≤ maxLen) (hb : (n + m) * bytes ≤ 140737488355328) (hbase : base ≤ w.heap.size) :
    ∃ A' c' w', (Builtin.append_ #[t, t] ty #[.slice A n c, .slice A2 m c2]).run P w = .ok (.slice A' (n + m) c') w' ∧ w'.ownsRow base e size (.slice A' (n + m) c') (n + m) (xs ++ news) ∧
      w.grownBy w' (Value.slice A n c).ownBlock ∧ ((Value.slice A' (n + m) c').ownBlock = (Value.slice A n c).ownBlock ∨ (Value.slice A' (n + m) c').ownBlock = some w.heap.size) := by
  obtain ⟨i, hi, hz, hs, hy⟩ := info_parts hinfo
  cases A2 with
  | none =>
    obtain ⟨rfl, rfl⟩ := hnil rfl
    have e2 : news = [] := List.eq_nil_of_length_eq_zero (by omega)
    subst e2
    exact ⟨A, c, w, run_append_owned_none (P := P) (w := w) base _ ty e i size ht hi _ n xs h, by simpa using h, World.grownBy.refl _ _, .inl rfl⟩
  | some ad =>
    obtain ⟨v', w', hr, ho, hg, hn, hat⟩ := run_append_own_at (P := P) (w := w) base t ty e i z size bytes ht hi hz hs hy hzs hsz (.slice A n c) n xs h ad m c2 news hl
      (fun j u hu => by obtain ⟨a', e, hc⟩ := hnews j u hu; injection e with e; subst e; exact hc) h1 hmax hb hbase
    rcases ho.2 with ⟨e, h0⟩ | ⟨g, cap, cur, e, _⟩
    · have h00 : Value.slice none 0 0 = .slice none (n + m) 0 := by rw [h0]
      rw [h00] at e
      subst e
      exact ⟨none, 0, w', hr, ho, hg, hat⟩
    · subst e
      exact ⟨_, cap, w', hr, ho, hg, hat⟩

/-- the same, at a step of a region that draws, or of a plain one. -/
theorem wp_appG {P : Program} {o : Oper} {a : Act} {w : World} {K : Act → World → Prop} {R : Exit → Act → World → Prop} (t : TypeId) (s x : Operand)
    (ho : o.op = .call { callee := .builtin .append, args := #[s, x], argTypes := #[t, t] })
    (base : Nat) (e : TypeId) (z : Value) (size bytes : Nat) (ht : P.underlying t = some (.slice e)) (hinfo : (P.info? e).map (fun i => (i.zero, i.size, i.bytes)) = some (some z, size, bytes))
    (hzs : z.cells.size = size) (hsz : 0 < size) (A : Option Addr) (n c : Nat) (xs : List Value) (hs : a.eval s = .slice A n c) (h : w.ownsRow base e size (.slice A n c) n xs)
    (A2 : Option Addr) (m c2 : Nat) (news : List Value) (hx : a.eval x = .slice A2 m c2) (hl : news.length = m * size) (hnews : ∀ j u, news[j]? = some u → ∃ a, A2 = some a ∧ w.cell? (a.add j) = some u) (h1 : ∀ u ∈ news, u.oneCell' = true)
    (hnil : A2 = none → m = 0 ∧ c2 = 0) (hmax : n + m ≤ maxLen) (hb : (n + m) * bytes ≤ 140737488355328) (hbase : base ≤ w.heap.size)
    (hK : ∀ A' c' w', w'.ownsRow base e size (.slice A' (n + m) c') (n + m) (xs ++ news) → w.grownBy w' (Value.slice A n c).ownBlock →
      ((Value.slice A' (n + m) c').ownBlock = (Value.slice A n c).ownBlock ∨ (Value.slice A' (n + m) c').ownBlock = some w.heap.size) → K (a.put o.dst (.slice A' (n + m) c')) w') : Oper.wp P o a w K R := by
  obtain ⟨A', c', w', hr, h3, h4, h5⟩ := run_appG (P := P) (w := w) base t o.type e z size bytes ht hinfo hzs hsz A n c xs h A2 m c2 news hl hnews h1 hnil hmax hb hbase
  unfold Oper.wp execOp
  simp only [ho, resolve, invoke, builtin, Sem.run_bind, Sem.run_pure, Result.andThen_ok, List.map_toArray, List.map_cons, List.map_nil, hs, hx, hr]
  exact hK A' c' w' h3 h4 h5
theorem wanted_plain {ops : Array Oper} {o : Oper} {a : Act} (hgd : o.guard = none) : Region.wanted o (yielded ops a.tmps) = true := by simp [Region.wanted, hgd]
theorem below_grown {B : Nat} {w w' : World} {row : Option Nat} (hg : w.grownBy w' row) (hB : B ≤ w.heap.size) (hr : ∀ k, row = some k → B ≤ k) : Below B w w' := (Below.refl _ _).grown hg hB hr
end Go.Proofs.Ytodfdklcioafmaa

/- Contracts: slices.Insert of one pair into a list of the call's own. -/
namespace Go.Proofs.Ytodfdklcioafmaa
set_option maxRecDepth 100000
open Go.RowKit Prm
set_option linter.unusedVariables false

theorem shape_row {w : World} {b : Nat} {cs : Array Value} {t : TypeId} {m : Nat × Nat} (h : w.heap[b]? = some (.cells cs t m)) : w.shape? b = some (t, cs.size) := by simp [World.shape?, h]
theorem size_pair : ∀ w, (Go.sizeOf 62).run Try.prog w = .ok 2 w := by
  obtain ⟨t, hi, hz, hs, hy⟩ := info_parts pairK.info
  have hi' : Try.prog.info? 62 = some t := hi
  have hs' : t.size = 2 := hs
  intro w
  simp [sizeOf, typeInfo, hi', hs']

/-- what both ways of an insertion leave in a row. -/
theorem shift_list {α : Type} (K : Kind α) (l : List α) (p : α) (xs : List Value) (i n c : Nat) (hi : i ≤ n) (hl : l.length = n) (hc : n + 1 ≤ c) (hx : xs.length = c * K.k) (ht : xs.take (n * K.k) = K.rows l) :
    ((xs.take ((i + 1) * K.k) ++ K.rows (l.drop i) ++ xs.drop ((i + 1) * K.k + (K.rows (l.drop i)).length)).take (i * K.k) ++ K.row p ++ (xs.take ((i + 1) * K.k) ++ K.rows (l.drop i) ++ xs.drop ((i + 1) * K.k + (K.rows (l.drop i)).length)).drop (i * K.k + (K.row p).length)).take ((n + 1) * K.k) = K.rows (l.take i ++ p :: l.drop i) := by
  have hnk : n * K.k + K.k ≤ c * K.k := by
    have : (n + 1) * K.k ≤ c * K.k := Nat.mul_le_mul_right _ hc
    rw [Nat.add_mul] at this; omega
  have hik : i * K.k ≤ n * K.k := Nat.mul_le_mul_right _ hi
  have e1 : (i + 1) * K.k = i * K.k + K.k := by rw [Nat.add_mul]; omega
  have e2 : (n + 1) * K.k = n * K.k + K.k := by rw [Nat.add_mul]; omega
  have hR : (K.rows (l.drop i)).length = n * K.k - i * K.k := by rw [K.rows_len, List.length_drop, hl, Nat.sub_mul]
  have hlt : (xs.take ((i + 1) * K.k)).length = (i + 1) * K.k := by rw [List.length_take]; omega
  have h1 : (xs.take ((i + 1) * K.k) ++ K.rows (l.drop i) ++ xs.drop ((i + 1) * K.k + (K.rows (l.drop i)).length)).take (i * K.k) = K.rows (l.take i) := by
    rw [List.append_assoc, List.take_append_of_le_length (by omega), List.take_take, Nat.min_eq_left (by omega), K.rows_take, ← ht, List.take_take, Nat.min_eq_left hik]
  have h2 : (xs.take ((i + 1) * K.k) ++ K.rows (l.drop i) ++ xs.drop ((i + 1) * K.k + (K.rows (l.drop i)).length)).drop (i * K.k + (K.row p).length) = K.rows (l.drop i) ++ xs.drop ((i + 1) * K.k + (K.rows (l.drop i)).length) := by
    rw [K.len, ← e1, List.append_assoc, List.drop_left' hlt]
  have h3 : (K.rows (l.take i) ++ K.row p ++ K.rows (l.drop i)).length = (n + 1) * K.k := by
    simp only [List.length_append, K.rows_len, K.len, List.length_take, List.length_drop, hl, Nat.min_eq_left hi, Nat.sub_mul]
    omega
  rw [h1, h2, K.rows_app, Kind.rows, ← List.append_assoc (K.rows (l.take i) ++ K.row p), List.take_left' h3, List.append_assoc]
theorem grow_list {α : Type} (K : Kind α) (l : List α) (p : α) (xs : List Value) (i n c : Nat) (hi : i ≤ n) (hl : l.length = n) (hc : n + 1 ≤ c) (hx : xs.length = c * K.k) (ht : xs.take (i * K.k) = K.rows (l.take i)) :
    ((xs.take (i * K.k) ++ K.row p ++ xs.drop (i * K.k + (K.row p).length)).take ((i + 1) * K.k) ++ K.rows (l.drop i) ++ (xs.take (i * K.k) ++ K.row p ++ xs.drop (i * K.k + (K.row p).length)).drop ((i + 1) * K.k + (K.rows (l.drop i)).length)).take ((n + 1) * K.k) = K.rows (l.take i ++ p :: l.drop i) := by
  have e1 : (i + 1) * K.k = i * K.k + K.k := by rw [Nat.add_mul]; omega
  have h0 : (K.rows (l.take i) ++ K.row p).length = (i + 1) * K.k := by
    simp only [List.length_append, K.rows_len, K.len, List.length_take, hl, Nat.min_eq_left hi]; omega
  rw [ht, List.take_left' h0]
  have h3 : (K.rows (l.take i) ++ K.row p ++ K.rows (l.drop i)).length = (n + 1) * K.k := by
    have : i * K.k ≤ n * K.k := Nat.mul_le_mul_right _ hi
    simp only [List.length_append, K.rows_len, K.len, List.length_take, List.length_drop, hl, Nat.min_eq_left hi, Nat.sub_mul, Nat.add_mul]
    omega
  rw [List.take_left' h3, K.rows_app, Kind.rows, List.append_assoc]

set_option maxHeartbeats 2000000 in
/-- at the end. -/
theorem insert_end (base : Nat) (A : Option Addr) (n c : Nat) (l : List Pr) (p : Pr) (vb : Nat) (w : World) (h : OwnK pairK w base A n c l) (hv : Lst pairK w (some ⟨vb, 0, none⟩) 1 [p]) (hn : (n + 1) * 32 ≤ 140737488355328) (hbase : base ≤ w.heap.size) :
    Calls Try.prog 118 #[.slice A n c, .int .i64 n, .slice (some ⟨vb, 0, none⟩) 1 1] w fun e w' => RetB pairK w base (n + 1) (l ++ [p]) e w' := by
  have HO := Lib.hid h
  have HV := Lib.hid hv
  have hcap := h.cap
  have hle := h.le
  unfold maxLen at hcap
  clear h hv
  cases A with
  | none =>
    obtain ⟨rfl, rfl, rfl⟩ : n = 0 ∧ c = 0 ∧ l = [] := by
      rcases HO.out.parts with ⟨_, a, b, d⟩ | ⟨g, cur, e, _⟩
      · exact ⟨a, b, d⟩
      · cases e
    go_enter Try.func118, Try.ntmps118
    go_wp2_with (at_builtin
                 refine wpl_appK pairK rfl (.tmp 23) (.tmp 24) 31 rfl rfl base none 0 0 [] rfl HO.out (some ⟨vb, 0, none⟩) 1 1 [p] rfl HV.out (fun e => by cases e) hn hbase ?_
                 intro A1 c1 w1 ho1 hb1)
    go_ret
    exact ⟨A1, c1, rfl, ho1, hb1⟩
  | some ad =>
    obtain ⟨ab, ao, asp⟩ := ad
    go_enter Try.func118, Try.ntmps118
    go_wp2_with (at_builtin
                 refine wpl_appK pairK rfl (.tmp 23) (.tmp 24) 31 rfl rfl base (some ⟨ab, ao, asp⟩) n c l rfl HO.out (some ⟨vb, 0, none⟩) 1 1 [p] rfl HV.out (fun e => by cases e) hn hbase ?_
                 intro A1 c1 w1 ho1 hb1)
    all_goals go_ret
    all_goals exact ⟨A1, c1, rfl, ho1, hb1⟩

set_option maxHeartbeats 4000000 in
/-- in the midst, where there is room: in place. -/
theorem insert_shift (base g n c i : Nat) (l : List Pr) (p : Pr) (vb : Nat) (w : World) (h : OwnK pairK w base (some ⟨g, 0, none⟩) n c l) (hb : w.heap[vb]? = some (.cells #[.string p.key, .string p.val] 62 (0, 0))) (hne : vb ≠ g) (hi : i < n) (hroom : n + 1 ≤ c) :
    Calls Try.prog 118 #[.slice (some ⟨g, 0, none⟩) n c, .int .i64 i, .slice (some ⟨vb, 0, none⟩) 1 1] w fun e w' => RetB pairK w base (n + 1) (l.take i ++ p :: l.drop i) e w' := by
  have hcap := h.cap
  unfold maxLen at hcap
  have hll := h.len
  obtain ⟨xs, hR, hxs⟩ := h.row
  have hov : ∀ lb cb, (callFunc 122 #[.slice (some ⟨vb, 0, none⟩) 1 1, .slice (some ⟨g, (i + 1) * 2, none⟩) lb cb]).run Try.prog w = .ok (.value (.bool false)) w := fun lb cb => by
    obtain ⟨g', cur, e, hgb, hh, hc', hm', hs', ht'⟩ := h.parts.resolve_left (fun e => by cases e.1)
    injection e with e
    injection e with e
    subst e
    rw [run_callFunc_extern Try.func122 (by kernel_rfl) (by kernel_rfl) (by kernel_rfl) (e := Extern.SlicesOverlaps.overlaps #[31, 31] #[4]) (by kernel_rfl),
      Lib.run_overlaps_apart w 31 4 62 Try.underlying31 2 size_pair ⟨vb, 0, none⟩ ⟨g, (i + 1) * 2, none⟩ 1 1 lb cb hne _ _ _ _ (shape_row hb) (shape_row hh)
        (by have : c * 2 = cur.size := hs'.symm; omega) (frozen_of_row w vb 0 _ _ hb) (frozen_of_row w vb _ _ _ hb)]
    rfl
  have h1 := Lib.hid hov
  have hR0 := Lib.hid hR
  have HX := Lib.hid hxs
  have hX := Lib.hid hR.len
  have hrl : (pairK.rows (l.drop i)).length = (n - i) * 2 := by rw [pairK.rows_len, List.length_drop, hll]; rfl
  have hsrc1 := Lib.hid (fun (j : Nat) (v : Value) (hj : (pairK.rows (l.drop i))[j]? = some v) => show w.drew.cell? ((⟨g, i * 2, none⟩ : Addr).add j) = some v by
    have hjl := (List.getElem?_eq_some_iff.1 hj).1
    rw [Addr.add_lit]
    show w.cell? _ = _
    rw [hR.cell (i * 2 + j) (by have : pairK.k = 2 := rfl; rw [this]; omega)]
    rw [pairK.rows_drop, List.getElem?_drop, ← hxs, List.getElem?_take] at hj
    split at hj
    · exact hj
    · cases hj)
  have HL2 := Lib.hid (show (pairK.rows (l.drop i)).length = Nat.min (n + 1 - i) (n - i) * pairK.k by rw [hrl, show Nat.min (n + 1 - i) (n - i) = n - i from Nat.min_eq_right (by omega)]; rfl)
  have HL3 := Lib.hid (show (i + 1) * 2 + (pairK.rows (l.drop i)).length ≤ c * pairK.k by rw [hrl]; show _ ≤ c * 2; omega)
  have H1R := Lib.hid (pairK.rows_one (l.drop i))
  have hvs := Lib.hid (fun (j : Nat) (v : Value) (hj : (pairK.row p)[j]? = some v) => show w.drew.cell? ((⟨vb, 0, none⟩ : Addr).add j) = some v by
    rw [Addr.add_lit, Nat.zero_add]
    exact (cell_of_row w vb j _ _ _ hb).trans (by simpa [pairK] using hj))
  have hvl : vb < w.heap.size := (Array.getElem?_eq_some_iff.1 hb).1
  have HB := Lib.hid hb
  have HL := Lib.hid hrl
  have hge := Lib.hid hR.ge
  clear hb h hov hR hxs hrl
  have hz2 : ((i : Int) == (n : Int)) = false := by simp; omega
  have hb2 : ¬ (c = i + 1) := by omega
  have hb4 : ¬ (c = i) := by omega
  have hb1 : (0 : Int) ≤ (i : Int) + 1 := by omega
  have htn : ((i : Int) + 1).toNat = i + 1 := by omega
  have hb3 : (i : Int) ≤ (n : Int) + 1 := by omega
  have hll' := Lib.hid hll
  clear hll
  have hov := h1.out
  have hin : i ≤ n := Nat.le_of_lt hi
  have hin1 : i ≤ n + 1 := by omega
  have hw1 : IntKind.i64.wrap ((i : Int) + 1) = (i : Int) + 1 := by rw [IntKind.wrap_i64]; omega
  go_enter Try.func118, Try.ntmps118
  go_wp2_with (simp only [hov])
  go_region_law ((refine step_copyK pairK (by rfl) (.tmp 73) (.tmp 76) _ _ (by rfl) (by rfl) base g c ((i + 1) * 2) xs (n - i) (c - (i + 1)) ⟨g, i * 2, none⟩ (n + 1 - i) (c - i) (by simp [Act.eval, Act.put]) (by simp [Act.eval, Act.put]) hR0.out.drew (pairK.rows (l.drop i)) HL2.out hsrc1.out HL3.out H1R.out ?_); intro w1 hr1 hg1)
  have HR1 := Lib.hid hr1
  have HG1 := Lib.hid hg1
  clear hr1 hg1 hw1 hov
  have hvs1 := Lib.hid (fun (j : Nat) (v : Value) (hj : (pairK.row p)[j]? = some v) => show w1.cell? ((⟨vb, 0, none⟩ : Addr).add j) = some v by
    rw [only_cell HG1.out (by rw [addr_block]; exact hvl) (by rw [addr_block]; exact hne)]
    exact hvs.out j v hj)
  obtain ⟨w2, hrun, hr2, hg2⟩ := copy_row pairK HR1.out 31 3 (i * 2) (n + 1 - i) (c - i) ⟨vb, 0, none⟩ 1 1 (pairK.row p) (by rw [show Nat.min 1 (n + 1 - i) = 1 from Nat.min_eq_left (by omega)]; rfl) hvs1.out (by show i * 2 + 2 ≤ c * 2; omega) (pairK.one _)
  have hrun : (Builtin.copy_ #[31, 31] 3 #[.slice (some ⟨g, i * 2, none⟩) (n + 1 - i) (c - i), .slice (some ⟨vb, 0, none⟩) 1 1]).run Try.prog w1 = .ok (goInt (Nat.min 1 (n + 1 - i))) w2 := hrun
  have hr2 := Lib.hid hr2
  have hg2 := Lib.hid hg2
  go_wp2_with (simp only [hrun])
  go_ret
  refine ⟨_, _, rfl, hr2.out.own hroom ?_, ?_⟩
  · exact shift_list pairK l p xs i n c (Nat.le_of_lt hi) hll'.out hroom hX.out HX.out
  · exact (below_grown ((only_drew (only_refl w g)).trans (HG1.out.trans hg2.out)) (by have := hge.out; omega) (fun k hk => by injection hk with hk; have := hge.out; omega))

set_option maxHeartbeats 4000000 in
/-- in the midst, where there is no room: a new row. -/
theorem insert_grow (base g n c i : Nat) (l : List Pr) (p : Pr) (vb : Nat) (w : World) (h : OwnK pairK w base (some ⟨g, 0, none⟩) n c l) (hb : w.heap[vb]? = some (.cells #[.string p.key, .string p.val] 62 (0, 0))) (hi : i < n) (hroom : c < n + 1) (hn : (n + 1) * 32 ≤ 140737488355328) (hbase : base ≤ w.heap.size) :
    Calls Try.prog 118 #[.slice (some ⟨g, 0, none⟩) n c, .int .i64 i, .slice (some ⟨vb, 0, none⟩) 1 1] w fun e w' => RetB pairK w base (n + 1) (l.take i ++ p :: l.drop i) e w' := by
  have hcap := h.cap
  have hle := h.le
  unfold maxLen at hcap
  have hll := h.len
  have hgw := h.block_lt.2
  have hvl : vb < w.heap.size := (Array.getElem?_eq_some_iff.1 hb).1
  have hlt := Lib.hid (show (pairK.rows (l.take i)).length = i * pairK.k by rw [pairK.rows_len, List.length_take, hll, Nat.min_eq_left (Nat.le_of_lt hi)])
  have hcell : ∀ j v, (pairK.rows l)[j]? = some v → w.cell? ⟨g, j, none⟩ = some v := fun j v hj => by
    have hjl := (List.getElem?_eq_some_iff.1 hj).1
    rw [pairK.rows_len, hll] at hjl
    rw [World.ownsRow.cellAt h j hjl]; exact hj
  have hold := Lib.hid (fun (j : Nat) (v : Value) (hj : (pairK.rows (l.take i))[j]? = some v) => show w.cell? ((⟨g, 0, none⟩ : Addr).add j) = some v by
    rw [Addr.add_lit, Nat.zero_add]
    rw [pairK.rows_take, List.getElem?_take] at hj
    split at hj
    · exact hcell j v hj
    · cases hj)
  have hrest := Lib.hid (fun (j : Nat) (v : Value) (hj : (pairK.rows (l.drop i))[j]? = some v) => show w.cell? ((⟨g, i * 2, none⟩ : Addr).add j) = some v by
    rw [Addr.add_lit]
    rw [pairK.rows_drop, List.getElem?_drop] at hj
    exact hcell _ v hj)
  have hrl := Lib.hid (show (pairK.rows (l.drop i)).length = (n - i) * 2 by rw [pairK.rows_len, List.length_drop, hll]; rfl)
  have hvs := Lib.hid (fun (j : Nat) (v : Value) (hj : (pairK.row p)[j]? = some v) => show w.cell? ((⟨vb, 0, none⟩ : Addr).add j) = some v by
    rw [Addr.add_lit, Nat.zero_add]
    exact (cell_of_row w vb j _ _ _ hb).trans (by simpa [pairK] using hj))
  have hll' := Lib.hid hll
  clear hb h hll hcell
  have hz2 : ((i : Int) == (n : Int)) = false := by simp; omega
  have hz3 : (c : Int) < (n : Int) + 1 := by omega
  have hci : ¬ (c = i) := by omega
  have hb1 : (0 : Int) ≤ (i : Int) + 1 := by omega
  have htn : ((i : Int) + 1).toNat = i + 1 := by omega
  have hb3 : (i : Int) ≤ (n : Int) + 1 := by omega
  have hin : i ≤ n := Nat.le_of_lt hi
  have hin1 : i ≤ n + 1 := by omega
  have hw1 : IntKind.i64.wrap ((i : Int) + 1) = (i : Int) + 1 := by rw [IntKind.wrap_i64]; omega
  go_enter Try.func118, Try.ntmps118
  go_wp2_with (at_builtin
               refine wpl_zerosK pairK rfl (.tmp 34) (.tmp 39) 31 3 rfl Try.underlying3 rfl base ⟨g, 0, none⟩ i c (n + 1 - i) (n + 1) (by omega) ((n : Int) + 1 - i) (by omega) rfl rfl (pairK.rows (l.take i)) hlt.out hold.out (by omega) (by omega) (by rw [show i + (n + 1 - i) = n + 1 by omega]; exact hn) hbase ?_
               intro G w1 xs hr1 ht1 hG q1 hGm hs1
               have hr1 := Lib.hid hr1
               have ht1 := Lib.hid ht1
               have hs1 := Lib.hid hs1
               unfold maxLen at hGm
               have hGi : ¬ (G = i) := by omega
               have hGi1 : ¬ (G = i + 1) := by omega)
  have Q1 := Lib.hid q1
  have hgH : w.heap.size ≠ vb := by omega
  have hgG : w.heap.size ≠ g := by omega
  have hvs1 := Lib.hid (fun (j : Nat) (v : Value) (hj : (pairK.row p)[j]? = some v) => show w1.cell? ((⟨vb, 0, none⟩ : Addr).add j) = some v from (q1.below.cell (by rw [addr_block]; exact hvl)).trans (hvs.out j v hj))
  clear q1
  obtain ⟨w2, hrun, hr2, hg2⟩ := copy_row pairK hr1.out 31 3 (i * 2) (n + 1 - i) (G - i) ⟨vb, 0, none⟩ 1 1 (pairK.row p) (by rw [show Nat.min 1 (n + 1 - i) = 1 from Nat.min_eq_left (by omega)]; rfl) hvs1.out (by show i * 2 + 2 ≤ G * 2; omega) (pairK.one _)
  have hrun : (Builtin.copy_ #[31, 31] 3 #[.slice (some ⟨w.heap.size, i * 2, none⟩) (n + 1 - i) (G - i), .slice (some ⟨vb, 0, none⟩) 1 1]).run Try.prog w1 = .ok (goInt (Nat.min 1 (n + 1 - i))) w2 := hrun
  have hr2 := Lib.hid hr2
  have hg2 := Lib.hid hg2
  have hrest2 := Lib.hid (fun (j : Nat) (v : Value) (hj : (pairK.rows (l.drop i))[j]? = some v) => show w2.drew.cell? ((⟨g, i * 2, none⟩ : Addr).add j) = some v from
    (only_cell hg2.out (p := (⟨g, i * 2, none⟩ : Addr).add j) (by rw [addr_block]; show g < _; have := hs1.out; omega) (by rw [addr_block]; exact fun e => hgG e.symm)).trans ((Q1.out.below.cell (by rw [addr_block]; exact hgw)).trans (hrest.out j v hj)))
  have HL2 := Lib.hid (show (pairK.rows (l.drop i)).length = Nat.min (n - i) (n - i) * pairK.k by rw [hrl.out, show Nat.min (n - i) (n - i) = n - i from Nat.min_self _]; rfl)
  have HL3 := Lib.hid (show (i + 1) * 2 + (pairK.rows (l.drop i)).length ≤ G * pairK.k by rw [hrl.out]; show _ ≤ G * 2; omega)
  have H1R := Lib.hid (pairK.rows_one (l.drop i))
  go_wp2_with (simp only [hrun])
  clear hrun
  go_region_law ((refine step_copyK pairK (by rfl) (.tmp 50) (.tmp 53) _ _ (by rfl) (by rfl) base w.heap.size G ((i + 1) * 2) _ (n - i) (G - (i + 1)) ⟨g, i * 2, none⟩ (n - i) (c - i) (by simp [Act.eval, Act.put]) (by simp [Act.eval, Act.put]) hr2.out.drew (pairK.rows (l.drop i)) HL2.out hrest2.out HL3.out H1R.out ?_); intro w3 hr3 hg3)
  have hr3 := Lib.hid hr3
  have hg3 := Lib.hid hg3
  go_wp2
  go_ret
  refine ⟨_, _, rfl, hr3.out.own hG ?_, ?_⟩
  · exact grow_list pairK l p xs i n G (Nat.le_of_lt hi) hll'.out hG hr1.out.len ht1.out
  · have g2 := only_drew hg2.out
    exact ((Q1.out.below.mono hbase).trans (below_grown (g2.trans hg3.out) (by have := hs1.out; omega) (fun k hk => by injection hk with hk; omega)))
end Go.Proofs.Ytodfdklcioafmaa

/- Contracts: slices.DeleteFunc by a key, at a list of the call's own. -/
namespace Go.Proofs.Ytodfdklcioafmaa
set_option maxRecDepth 100000
open Go.RowKit Prm
set_option linter.unusedVariables false

theorem zero_pair : ∀ W, (zeroValue pairK.T).run Try.prog W = .ok pairK.z W := by
  obtain ⟨t, hi, hz, hs, hy⟩ := info_parts pairK.info
  intro W
  simp [zeroValue, typeInfo, hi, hz]

def keep (key : ByteArray) (p : Pr) : Bool := !hasK key p
theorem drop_all {key : ByteArray} {l : List Pr} (h : ∀ a ∈ l, hasK key a = false) : drop l key = l := by
  unfold drop
  exact List.filter_eq_self.2 fun a ha => by rw [h a ha]; rfl
theorem filter_first {key : ByteArray} {l : List Pr} {k : Nat} (hk : k < l.length) (h : hasK key l[k] = true) (hf : ∀ j, ∀ hj : j < l.length, j < k → hasK key l[j] = false) : (l.take (k + 1)).filter (keep key) = l.take k := by
  rw [List.take_succ_eq_append_getElem hk, List.filter_append]
  have h1 : (l.take k).filter (keep key) = l.take k := List.filter_eq_self.2 fun a ha => by
    obtain ⟨j, hj, rfl⟩ := List.mem_iff_getElem.1 ha
    rw [List.length_take] at hj
    rw [List.getElem_take, keep, hf j (by omega) (by omega)]; rfl
  rw [h1, List.filter_cons, keep, h]; simp
theorem filter_keep {key : ByteArray} {l cur : List Pr} {a b : Nat} (hb : b < l.length) (hab : a < b) (hc : cur.length = l.length) (h1 : cur.take a = (l.take b).filter (keep key)) (h2 : cur.drop b = l.drop b) (hk : hasK key l[b] = false) :
    (cur.set a l[b]).take (a + 1) = (l.take (b + 1)).filter (keep key) ∧ (cur.set a l[b]).drop (b + 1) = l.drop (b + 1) := by
  constructor
  · rw [List.take_succ_eq_append_getElem (by simp; omega), List.take_set_of_le (Nat.le_refl _), h1, List.getElem_set_self, List.take_succ_eq_append_getElem hb, List.filter_append, List.filter_cons, keep, hk]
    simp
  · rw [List.drop_set_of_lt (by omega), ← List.drop_drop, ← List.drop_drop, h2]
theorem filter_skip {key : ByteArray} {l cur : List Pr} {a b : Nat} (hb : b < l.length) (h1 : cur.take a = (l.take b).filter (keep key)) (h2 : cur.drop b = l.drop b) (hk : hasK key l[b] = true) :
    cur.take a = (l.take (b + 1)).filter (keep key) ∧ cur.drop (b + 1) = l.drop (b + 1) := by
  constructor
  · rw [h1, List.take_succ_eq_append_getElem hb, List.filter_append, List.filter_cons, keep, hk]; simp
  · rw [← List.drop_drop, ← List.drop_drop, h2]

set_option maxHeartbeats 4000000 in
theorem deleteFunc (key : ByteArray) (B base : Nat) (A : Option Addr) (n c : Nat) (l : List Pr) (w : World) (h : OwnK pairK w base A n c l) (hB : B < w.heap.size) (hc : w.cell? ⟨B, 0, none⟩ = some (.string key)) (hne : ∀ g, A = some ⟨g, 0, none⟩ → B ≠ g) (hbase : base ≤ w.heap.size) :
    Calls Try.prog 115 #[.slice A n c, .func (.func 120) #[] #[.pointer (some ⟨B, 0, none⟩)]] w fun e w' => RetB pairK w base (drop l key).length (drop l key) e w' := by
  have HO := Lib.hid h
  have HC := Lib.hid hc
  have hcap := h.cap
  have hle := h.le
  have HM := Lib.hid (Nat.le_trans hle hcap)
  unfold maxLen at hcap
  rcases idx_cases (hasK key) l 0 with ⟨hp, hall⟩ | ⟨k, hk, hp, hkn, hfirst⟩
  · have HP := Lib.hid hp
    rw [drop_all hall]
    have HL := Lib.hid h.len
    clear hp hall h hc
    go_enter Try.func115, Try.ntmps115
    go_wp2_with fail
    refine (pindexFunc _ _ key (fun p B w => has1 p key B w) (.inl rfl) B A n c l _ hB HC.out HO.out.lst HM.out).mono ?_
    rintro e w1 ⟨rfl, q1⟩
    rw [HP.out]
    go_wp2
    go_ret
    exact ⟨A, c, by rw [HL.out]; rfl, by rw [HL.out]; exact HO.out.q q1, q1.below.mono hbase⟩
  · have HP := Lib.hid (hp.trans (by simp : ((0 + k : Nat) : Int) = (k : Int)))
    have HF := Lib.hid (filter_first hk hkn hfirst)
    have hkl : k < n := by have := h.len; omega
    obtain ⟨g, rfl⟩ : ∃ g, A = some ⟨g, 0, none⟩ := by
      rcases h.parts with ⟨_, e, _⟩ | ⟨g, cur, rfl, _⟩
      · omega
      · exact ⟨g, rfl⟩
    have hbg := hne g rfl
    have HL := Lib.hid h.len
    have hgb := Lib.hid h.block_lt
    clear hp hkn hfirst h hc hk hne
    have hk1 : ((k : Int) == -1) = false := by simp
    go_enter Try.func115, Try.ntmps115
    go_wp2_with fail
    refine (pindexFunc _ _ key (fun p B w => has1 p key B w) (.inl rfl) B (some ⟨g, 0, none⟩) n c l _ hB HC.out HO.out.lst HM.out).mono ?_
    rintro e w1 ⟨rfl, q1⟩
    rw [HP.out]
    have Q1 := Lib.hid q1
    clear q1
    go_wp2
    go_loopw [5, 6] (fun i j wr => ∃ (a b : Nat) (cur : List Pr), i = .int .i64 a ∧ j = .int .i64 b ∧ a < b ∧ b ≤ n ∧ OwnK pairK wr base (some ⟨g, 0, none⟩) n c cur ∧ cur.take a = (l.take b).filter (keep key) ∧ cur.drop b = l.drop b ∧ Below base w wr ∧ wr.cell? ⟨B, 0, none⟩ = some (.string key)) (fun _ j _ => n - (intOf j).toNat)
    case atStart => exact ⟨k, k + 1, l, rfl, by go_num, Nat.lt_succ_self k, hkl, HO.out.q Q1.out, HF.out.symm, rfl, Q1.out.below.mono hbase, (Q1.out.below.cell (p := ⟨B, 0, none⟩) hB).trans HC.out⟩
    case round =>
      obtain ⟨a, b, cur, rfl, rfl, hab, hbn, ho, h1, h2, hbl, hcl⟩ := hrel
      have H1 := Lib.hid h1
      have H2 := Lib.hid h2
      have HOr := Lib.hid ho
      have HBl := Lib.hid hbl
      have HCl := Lib.hid hcl
      have hBr := block_lt_of_cell hcl
      have hgr := ho.block_lt
      have hcl' := ho.len
      have HCu := Lib.hid hcl'
      clear h1 h2 ho hbl hcl
      by_cases hlt : b < n
      · have hbl' : b < l.length := by have := HL.out; omega
        have hbc : b < cur.length := by omega
        have hac : a < cur.length := by omega
        have he : cur[b] = l[b] := by
          have e1 : (cur.drop b)[0]? = (l.drop b)[0]? := by rw [H2.out]
          rw [List.getElem?_drop, List.getElem?_drop, Nat.add_zero, List.getElem?_eq_getElem hbc, List.getElem?_eq_getElem hbl'] at e1
          exact Option.some.inj e1
        have c0 := HOr.out.cells hbc 0 _ rfl
        have c1 := HOr.out.cells hbc 1 _ rfl
        rw [he] at c0 c1
        have HE := Lib.hid he
        have c0 : wr.cell? ⟨g, b * 2, none⟩ = some (.string l[b].key) := c0
        have c1 : wr.cell? ⟨g, b * 2 + 1, none⟩ = some (.string l[b].val) := c1
        have hbi : (b : Int) < (n : Int) := by omega
        clear he hcl'
        go_wp2_with fail
        refine (has1 l[b] key B _ (by simp; omega) (box_ ((Q.refl _).alloc _) HCl.out)).mono ?_
        rintro e w2 ⟨rfl, q2⟩
        have O2 := Lib.hid ((HOr.out.alloc (.cells #[.string l[b].key, .string l[b].val] 62)).q q2)
        have B2 := Lib.hid ((HBl.out.alloc (by have := HBl.out.size; omega) (.cells #[.string l[b].key, .string l[b].val] 62)).trans (q2.below.mono (by simp; have := HBl.out.size; omega)))
        have C2 := Lib.hid (box_ (((Q.refl wr).alloc (.cells #[.string l[b].key, .string l[b].val] 62)).trans q2) HCl.out)
        obtain ⟨x0, x1⟩ : w2.cell? ⟨wr.heap.size, 0, none⟩ = some (.string l[b].key) ∧ w2.cell? ⟨wr.heap.size, 1, none⟩ = some (.string l[b].val) := ⟨box_ q2 (by simp), box_ q2 (by simp)⟩
        have ac0 : w2.cell? ⟨g, a * 2, none⟩ = some (.string cur[a].key) := O2.out.cells hac 0 _ rfl
        have ac1 : w2.cell? ⟨g, a * 2 + 1, none⟩ = some (.string cur[a].val) := O2.out.cells hac 1 _ rfl
        have f0 : w2.frozen? ⟨g, a * 2, none⟩ = false := O2.out.free _
        have f1 : w2.frozen? ⟨g, a * 2 + 1, none⟩ = false := O2.out.free _
        have hai : (a : Int) < (n : Int) := by omega
        clear q2 c0 c1
        by_cases hh : hasK key l[b] = true
        · have HS := Lib.hid (filter_skip hbl' H1.out H2.out hh)
          go_wp2
          go_roundw
          case rel => exact ⟨a, b + 1, cur, rfl, by go_num, by omega, by omega, O2.out, HS.out.1, HS.out.2, B2.out, C2.out⟩
          case measure => simp [intOf]; omega
        · have hf : hasK key l[b] = false := by simpa using hh
          have HS := Lib.hid (filter_keep hbl' hab (HCu.out.trans HL.out.symm) H1.out H2.out hf)
          have O3 := Lib.hid (O2.out.put hac l[b])
          have B3 := Lib.hid (O2.out.below_set B2.out (pairK.row l[b]) (a * 2))
          have hgB : (⟨g, a * 2, none⟩ : Addr) ≠ ⟨B, 0, none⟩ := by intro e; injection e with e; exact hbg e.symm
          have hgB1 : (⟨g, a * 2 + 1, none⟩ : Addr) ≠ ⟨B, 0, none⟩ := by intro e; injection e with e; exact hbg e.symm
          have C3 := Lib.hid (show ((w2.setCell ⟨g, a * 2, none⟩ (.string l[b].key)).setCell ⟨g, a * 2 + 1, none⟩ (.string l[b].val)).cell? ⟨B, 0, none⟩ = some (.string key) by
            rw [World.cell?_setCell_other _ _ _ _ hgB1, World.cell?_setCell_other _ _ _ _ hgB]; exact C2.out)
          clear hh
          go_wp2
          go_roundw
          case rel => exact ⟨a + 1, b + 1, cur.set a l[b], by go_num, by go_num, by omega, by omega, O3.out, HS.out.1, HS.out.2, B3.out, C3.out⟩
          case measure => simp [intOf]; omega
      · have hbn' : b = n := by omega
        have HBN := Lib.hid hbn'
        have HLD := Lib.hid (show drop l key = cur.take a by rw [H1.out, hbn', ← HL.out, List.take_length]; rfl)
        have HLA := Lib.hid (show (drop l key).length = a by rw [HLD.out, List.length_take, hcl', Nat.min_eq_left (by omega)])
        obtain ⟨xs, hr, hx⟩ := HOr.out.row
        obtain ⟨zs, hzl, hcl⟩ := run_clearK pairK hr (fun u hu => by simp [pairK, Value.cells] at hu; rcases hu with rfl | rfl <;> rfl) zero_pair 0 (a * 2) (n - a) 0 (by omega) (by show a * 2 + (n - a) * 2 ≤ c * 2; omega)
        have hcl := hcl (c - a)
        have hcl : (Builtin.clear_ #[31] 0 #[.slice (some ⟨g, a * 2, none⟩) (n - a) (c - a)]).run Try.prog wr = .ok (.tuple #[]) (wr.setCells g (a * 2) zs) := hcl
        have HZ := Lib.hid hzl
        have HR := Lib.hid hr
        have HX := Lib.hid hx
        have hca : ¬ (c = a) := by omega
        have han : a ≤ n := by omega
        have hac2 : a ≤ c := by omega
        have B3 := Lib.hid (HOr.out.below_set HBl.out zs (a * 2))
        generalize hW : wr.setCells g (a * 2) zs = W3 at hcl B3
        have HW := Lib.hid hW
        clear hr hx hzl hW hbn' hcl'
        go_wp2_with (simp only [hcl])
        go_ret
        refine ⟨_, c, by rw [HLA.out]; rfl, ?_, B3.out⟩
        rw [HLA.out, HLD.out, ← HW.out]
        have h1 := HR.out.sets (a * 2) zs (by rw [HZ.out]; show a * 2 + (n - a) * 2 ≤ c * 2; omega)
        refine h1.own hac2 ?_
        have h2 : (xs.take (a * 2)).length = a * pairK.k := by rw [List.length_take, HR.out.len]; show min (a * 2) (c * 2) = a * 2; omega
        rw [List.append_assoc, List.take_left' h2, pairK.rows_take, ← HX.out, List.take_take]
        congr 1
        show a * 2 = min (a * 2) (n * 2)
        omega
end Go.Proofs.Ytodfdklcioafmaa
