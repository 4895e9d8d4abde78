/- Contracts: lists of files of the call's own: a clone, a file that is set. -/
import Derived.Test.YtpjadjbniddmgaaDiskFind
import Derived.Maps.AppendAt
import Derived.Laws.AppendOwnNone
namespace Go.Proofs.Ytpjadjbniddmgaa
open Go.RowKit Dkm
set_option linter.unusedVariables false

/-- The slice is the call's own, from block 'base' on, and holds these files. -/
def Own (w : World) (base : Nat) (A : Option Addr) (n c : Nat) (l : List Fil) : Prop := w.ownsRow base 29 3 (.slice A n c) n (rows l)

/-- A slice of files as it comes in. -/
structure Dsk (w : World) (A : Option Addr) (n c : Nat) (l : List Fil) : Prop where
  files : Files w A n l
  nil : A = none → n = 0 ∧ c = 0
  le : n ≤ c
  cap : c ≤ maxLen
  few : n * 48 ≤ 140737488355328

theorem Dsk.len {w : World} {A : Option Addr} {n c : Nat} {l : List Fil} (h : Dsk w A n c l) : l.length = n := h.files.len
theorem Dsk.q {w w' : World} {A : Option Addr} {n c : Nat} {l : List Fil} (h : Dsk w A n c l) (hq : Q w w') : Dsk w' A n c l := ⟨h.files.q hq, h.nil, h.le, h.cap, h.few⟩
theorem Dsk.max {w : World} {A : Option Addr} {n c : Nat} {l : List Fil} (h : Dsk w A n c l) : n ≤ maxLen := Nat.le_trans h.le h.cap

theorem Own.parts {w : World} {base : Nat} {A : Option Addr} {n c : Nat} {l : List Fil} (h : Own w base A n c l) :
    (A = none ∧ n = 0 ∧ c = 0 ∧ l = []) ∨ ∃ g cur, A = some ⟨g, 0, none⟩ ∧ base ≤ g ∧ w.heap[g]? = some (.cells cur 29 (0, 0)) ∧ n ≤ c ∧ c ≤ maxLen ∧ cur.size = c * 3 ∧ cur.toList.take (n * 3) = rows l := by
  rcases h.2 with ⟨e, h0⟩ | ⟨g, cap, cur, e, hb, hh, hc, hm, hs, ht⟩
  · injection e with e1 e2 e3
    refine .inl ⟨e1, e2, e3, ?_⟩
    have := h.1; rw [rows_length] at this
    exact List.eq_nil_of_length_eq_zero (by omega)
  · injection e with e1 e2 e3
    subst e1 e3
    exact .inr ⟨g, cur, rfl, hb, hh, hc, hm, hs, ht⟩
theorem Own.len {w : World} {base : Nat} {A : Option Addr} {n c : Nat} {l : List Fil} (h : Own w base A n c l) : l.length = n := by
  have := h.1; rw [rows_length] at this; omega
theorem Own.files {w : World} {base : Nat} {A : Option Addr} {n c : Nat} {l : List Fil} (h : Own w base A n c l) : Files w A n l := by
  refine ⟨h.1, fun j u hu => ?_⟩
  rcases h.parts with ⟨rfl, rfl, rfl, rfl⟩ | ⟨g, cur, rfl, hb, hh, hc, hm, hs, ht⟩
  · simp [rows] at hu
  · have hj : j < n * 3 := by
      have := (List.getElem?_eq_some_iff.1 hu).1; rw [h.1] at this; exact this
    refine ⟨_, rfl, ?_, ?_⟩
    · rcases Nat.lt_or_ge g w.heap.size with hlt | hge
      · exact hlt
      · rw [Array.getElem?_eq_none hge] at hh; cases hh
    · rw [Addr.add_mid, Nat.zero_add, World.ownsRow.cellAt h j hj]; exact hu
theorem Own.dsk {w : World} {base : Nat} {A : Option Addr} {n c : Nat} {l : List Fil} (h : Own w base A n c l) (hn : n * 48 ≤ 140737488355328) : Dsk w A n c l := by
  refine ⟨h.files, ?_, ?_, ?_, hn⟩ <;> rcases h.parts with ⟨rfl, rfl, rfl, rfl⟩ | ⟨g, cur, rfl, hb, hh, hc, hm, hs, ht⟩
  · intro _; exact ⟨rfl, rfl⟩
  · intro e; cases e
  · exact Nat.le_refl _
  · exact hc
  · exact Nat.zero_le _
  · exact hm
theorem Own.keep {w w' : World} {base B : Nat} {A : Option Addr} {n c : Nat} {l : List Fil} (h : Own w base A n c l) (hb : Below B w w') (hB : w.heap.size ≤ B) : Own w' base A n c l := by
  refine ⟨h.1, ?_⟩
  rcases h.2 with ⟨e, h0⟩ | ⟨g, cap, cur, e, hg, hh, r⟩
  · exact .inl ⟨e, h0⟩
  · have hlt : g < w.heap.size := by
      rcases Nat.lt_or_ge g w.heap.size with hlt | hge
      · exact hlt
      · rw [Array.getElem?_eq_none hge] at hh; cases hh
    exact .inr ⟨g, cap, cur, e, hg, (hb.block g (by omega)).trans hh, r⟩
theorem Own.q {w w' : World} {base : Nat} {A : Option Addr} {n c : Nat} {l : List Fil} (h : Own w base A n c l) (hq : Q w w') : Own w' base A n c l := h.keep hq.below (Nat.le_refl _)
theorem Own.setCell {w : World} {base : Nat} {A : Option Addr} {n c : Nat} {l : List Fil} (h : Own w base A n c l) {p : Addr} (hp : p.block < base) (u : Value) : Own (w.setCell p u) base A n c l := by
  refine ⟨h.1, ?_⟩
  rcases h.2 with ⟨e, h0⟩ | ⟨g, cap, cur, e, hg, hh, r⟩
  · exact .inl ⟨e, h0⟩
  · exact .inr ⟨g, cap, cur, e, hg, (heap_setCell_other w p g u (by omega)).trans hh, r⟩
theorem Own.alloc {w : World} {base : Nat} {A : Option Addr} {n c : Nat} {l : List Fil} (h : Own w base A n c l) (o : Obj) : Own (w.alloc o) base A n c l := h.q ((Q.refl _).alloc o)
theorem Own.lower {w : World} {base b2 : Nat} {A : Option Addr} {n c : Nat} {l : List Fil} (h : Own w base A n c l) (hb : b2 ≤ base) : Own w b2 A n c l := by
  refine ⟨h.1, ?_⟩
  rcases h.2 with ⟨e, h0⟩ | ⟨g, cap, cur, e, hg, hh, r⟩
  · exact .inl ⟨e, h0⟩
  · exact .inr ⟨g, cap, cur, e, by omega, hh, r⟩

theorem file_info : (Try.prog.info? 29).map (fun i => (i.zero, i.size, i.bytes)) = some (some (.agg #[.string ⟨#[]⟩, .string ⟨#[]⟩, .string ⟨#[]⟩]), 3, 48) := by kernel_rfl

/-- 'append(own, more...)', the source nil or not. -/
theorem run_app (w : World) (base : Nat) (A : Option Addr) (n c : Nat) (l : List Fil) (h : Own w base A n c l) (A2 : Option Addr) (m c2 : Nat) (l2 : List Fil) (h2 : Files w A2 m l2) (hnil : A2 = none → m = 0 ∧ c2 = 0)
    (hb : (n + m) * 48 ≤ 140737488355328) (hbase : base ≤ w.heap.size) (ty : TypeId) :
    ∃ A' c' w', (Builtin.append_ #[22, 22] ty #[.slice A n c, .slice A2 m c2]).run Try.prog w = .ok (.slice A' (n + m) c') w' ∧ Own w' base A' (n + m) c' (l ++ l2) ∧ Below base w w' := by
  obtain ⟨i, hi, hz, hs, hy⟩ := info_parts file_info
  have hmax : n + m ≤ maxLen := by unfold maxLen; omega
  cases A2 with
  | none =>
    obtain ⟨rfl, rfl⟩ := hnil rfl
    have e2 : l2 = [] := List.eq_nil_of_length_eq_zero h2.len
    subst e2
    refine ⟨A, c, w, run_append_owned_none (P := Try.prog) (w := w) base _ ty 29 i 3 Try.underlying22 hi _ n (rows l) h, by simpa using h, Below.refl _ _⟩
  | some ad =>
    obtain ⟨v', w', hr, ho, hg, hn, hat⟩ := run_append_own_at (P := Try.prog) w base 22 ty 29 i _ 3 48 Try.underlying22 hi hz hs hy rfl (by omega) (.slice A n c) n (rows l) h ad m c2 (rows l2) h2.1
      (fun j u hu => by obtain ⟨a', e, _, hc⟩ := h2.2 j u hu; injection e with e; subst e; exact hc) (rows_one l2) hmax hb hbase
    rw [← rows_append] at ho
    have hbl : Below base w w' := (Below.refl _ _).grown hg hbase (fun k hk => by
      rcases h.parts with ⟨rfl, _⟩ | ⟨g, cur, rfl, hb, _⟩
      · cases hk
      · simp only [Value.ownBlock, Option.some.injEq] at hk; omega)
    rcases ho.2 with ⟨e, h0⟩ | ⟨g, cap, cur, e, _⟩
    · have h00 : Value.slice none 0 0 = .slice none (n + m) 0 := by rw [h0]
      rw [h00] at e
      subst e
      exact ⟨none, 0, w', hr, ho, hbl⟩
    · subst e
      exact ⟨_, cap, w', hr, ho, hbl⟩

/-- The same, for a plain region's list. -/
theorem wpl_app {w : World} {ops : Array Oper} {rest : List Oper} {o : Oper} {a : Act} {R : Exit → Act → World → Prop} (hgd : o.guard = none) (s x : Operand)
    (ho : o.op = .call { callee := .builtin .append, args := #[s, x], argTypes := #[22, 22] })
    (base : Nat) (A : Option Addr) (n c : Nat) (l : List Fil) (hs : a.eval s = .slice A n c) (h : Own w base A n c l) (A2 : Option Addr) (m c2 : Nat) (l2 : List Fil) (hx : a.eval x = .slice A2 m c2) (h2 : Files w A2 m l2) (hnil : A2 = none → m = 0 ∧ c2 = 0)
    (hb : (n + m) * 48 ≤ 140737488355328) (hbase : base ≤ w.heap.size)
    (hk : ∀ A' c' w', Own w' base A' (n + m) c' (l ++ l2) → Below base w w' → wpList Try.prog ops R rest (a.put o.dst (.slice A' (n + m) c')) w') : wpList Try.prog ops R (o :: rest) a w := by
  refine wpList_plain hgd fun K hK => ?_
  obtain ⟨A', c', w', hr, h3, h4⟩ := run_app w base A n c l h A2 m c2 l2 h2 hnil hb hbase o.type
  unfold Oper.wp execOp
  simp only [ho, resolve, invoke, builtin, Sem.run_bind, Sem.run_pure, Result.andThen_ok, List.map_toArray, List.map_cons, List.map_nil, hs, hx, hr]
  exact hK _ _ (hk A' c' w' h3 h4)

def RetOwn (w : World) (n : Nat) (l : List Fil) (e : Ending) (w' : World) : Prop :=
  ∃ A' c', e = .returned (.slice A' n c') ∧ Own w' w.heap.size A' n c' l ∧ Q w w'

theorem own_lit0 (w : World) (base : Nat) (hb : base ≤ w.heap.size) : Own (w.alloc (.cells #[] 29)) base (some ⟨w.heap.size, 0, none⟩) 0 0 [] :=
  World.ownsRow_lit w #[] 0 hb (Nat.zero_le _) rfl

theorem eql_nil (W : World) (A : Option Addr) (n c : Nat) : (binOp .eql 22 (.slice A n c) (.slice none 0 0)).run Try.prog W = .ok (.bool A.isNone) W := by
  have h : ∀ d, (Op.equalIn (d + 1) 22 (.slice A n c) (.slice none 0 0)).run Try.prog W = .ok A.isNone W := by
    intro d
    cases A <;> simp [Op.equalIn, run_underlying Try.underlying22]
  have h2 : (Op.equal 22 (.slice A n c) (.slice none 0 0)).run Try.prog W = .ok A.isNone W := h 9999
  simp [binOp, h2]

set_option maxHeartbeats 1000000 in
theorem clone (A : Option Addr) (n c : Nat) (l : List Fil) (w : World) (hd : Dsk w A n c l) :
    Calls Try.prog 46 #[.slice A n c] w fun e w' => RetOwn w n l e w' := by
  have HD := Lib.hid hd
  clear hd
  cases A with
  | none =>
    obtain ⟨h1, h2⟩ := HD.out.nil rfl
    subst h1 h2
    have hl : l = [] := List.eq_nil_of_length_eq_zero HD.out.len
    subst hl
    have hnil := fun W : World => eql_nil W none 0 0
    go_enter Try.func46, Try.ntmps46
    go_wp2
    go_ret
    exact ⟨none, 0, rfl, ⟨rfl, .inl ⟨rfl, rfl⟩⟩, Q.refl _⟩
  | some ad =>
    have hnil := fun W : World => eql_nil W (some ad) n c
    go_enter Try.func46, Try.ntmps46
    go_wp2_with (at_builtin
                 refine wpl_app rfl (.tmp 5) (.tmp 6) rfl w.heap.size (some ⟨w.heap.size, 0, none⟩) 0 0 [] rfl (own_lit0 w _ (Nat.le_refl _)) (some ad) n c l rfl (HD.out.files.q ((Q.refl _).alloc _)) (fun e => by cases e) (by have := HD.out.few; omega) (by simp) ?_
                 intro A1 c1 w1 ho1 hb1)
    go_ret
    refine ⟨A1, c1, by simp, by simpa using ho1, ((Q.refl _).alloc _).below.trans hb1⟩

theorem box_ {W w1 : World} (q : Q W w1) {p : Addr} {v : Value} (h : W.cell? p = some v) : w1.cell? p = some v := (q.below.cell (block_lt_of_cell h)).trans h
theorem box4 {W w1 : World} (q : Q W w1) {b : Nat} {x y z u : Value} (h0 : W.cell? ⟨b, 0, none⟩ = some x) (h1 : W.cell? ⟨b, 1, none⟩ = some y) (h2 : W.cell? ⟨b, 2, none⟩ = some z) (h3 : W.cell? ⟨b, 3, none⟩ = some u) :
    w1.cell? ⟨b, 0, none⟩ = some x ∧ w1.cell? ⟨b, 1, none⟩ = some y ∧ w1.cell? ⟨b, 2, none⟩ = some z ∧ w1.cell? ⟨b, 3, none⟩ = some u := ⟨box_ q h0, box_ q h1, box_ q h2, box_ q h3⟩
theorem box3 {W w1 : World} (q : Q W w1) {b : Nat} {x y z : Value} (h0 : W.cell? ⟨b, 0, none⟩ = some x) (h1 : W.cell? ⟨b, 1, none⟩ = some y) (h2 : W.cell? ⟨b, 2, none⟩ = some z) :
    w1.cell? ⟨b, 0, none⟩ = some x ∧ w1.cell? ⟨b, 1, none⟩ = some y ∧ w1.cell? ⟨b, 2, none⟩ = some z := ⟨box_ q h0, box_ q h1, box_ q h2⟩

def RetOwnD (w : World) (n : Nat) (room fuse : Int) (off : Bool) (l : List Fil) (e : Ending) (w' : World) : Prop :=
  ∃ A' c', e = .returned (dkv A' n c' room fuse off) ∧ Own w' w.heap.size A' n c' l ∧ Q w w'

set_option maxHeartbeats 1000000 in
theorem own_any (A : Option Addr) (n c : Nat) (room fuse : Int) (off : Bool) (l : List Fil) (w : World) (hd : Dsk w A n c l) :
    Calls Try.prog 33 #[dkv A n c room fuse off] w fun e w' => RetOwnD w n room fuse off l e w' := by
  have HD := Lib.hid hd
  clear hd
  go_enter Try.func33, Try.ntmps33
  go_wp2_with fail
  refine (clone A n c l _ (HD.out.q (((Q.refl _).alloc _).alloc _))).mono ?_
  rintro e w1 ⟨A1, c1, rfl, ho, q1⟩
  have HO := Lib.hid ho
  clear ho
  obtain ⟨e0, e1, e2, e3⟩ := box4 q1 (b := w.heap.size) (x := .slice A n c) (y := .int .i64 room) (z := .int .i64 fuse) (u := .bool off) (by simp) (by simp) (by simp) (by simp)
  obtain ⟨r0, r1, r2, r3⟩ := box4 q1 (b := w.heap.size + 1) (x := .slice none 0 0) (y := .int .i64 0) (z := .int .i64 0) (u := .bool false) (by simp) (by simp) (by simp) (by simp)
  obtain ⟨hc, hz⟩ := bcell q1.below
  clear hc
  go_wp2
  refine bodyPost_ret (v := dkv A1 n c1 room fuse off) (by simp [results, Try.results33, go_sem, r0, r1, r2, r3]) rfl ⟨A1, c1, rfl, ?_, ?_⟩
  · exact (((((HO.out.setCell (p := ⟨_, _, none⟩) (by simp <;> omega) _).setCell (p := ⟨_, _, none⟩) (by simp <;> omega) _).setCell (p := ⟨_, _, none⟩) (by simp <;> omega) _).setCell (p := ⟨_, _, none⟩) (by simp <;> omega) _).setCell (p := ⟨_, _, none⟩) (by simp <;> omega) _).lower (by simp <;> omega)
  · exact ((((Q.refl _).alloc _).alloc _).trans q1).setCell (by simp) _ |>.set4 (by simp) _ _ _ _

theorem rows_set (l : List Fil) (k : Nat) (h : k < l.length) (f : Fil) : (((rows l).set (k * 3) (.string f.nm)).set (k * 3 + 1) (.string f.sf)).set (k * 3 + 2) (.string f.wt) = rows (l.set k f) := by
  induction l generalizing k with
  | nil => simp at h
  | cons g l ih =>
    cases k with
    | zero => simp [rows, Fil.row]
    | succ k =>
      have e := ih k (by simpa using h)
      have e0 : (k + 1) * 3 = k * 3 + 3 := by omega
      simp only [rows, List.set_cons_succ, Fil.row, e0, List.cons_append, List.nil_append, ← e]

theorem Own.set3 {w : World} {base g n c : Nat} {l : List Fil} (h : Own w base (some ⟨g, 0, none⟩) n c l) {k : Nat} (hk : k < n) (f : Fil) :
    Own (((w.setCell ⟨g, k * 3, none⟩ (.string f.nm)).setCell ⟨g, k * 3 + 1, none⟩ (.string f.sf)).setCell ⟨g, k * 3 + 2, none⟩ (.string f.wt)) base (some ⟨g, 0, none⟩) n c (l.set k f) ∧
    Below base w (((w.setCell ⟨g, k * 3, none⟩ (.string f.nm)).setCell ⟨g, k * 3 + 1, none⟩ (.string f.sf)).setCell ⟨g, k * 3 + 2, none⟩ (.string f.wt)) := by
  have h1 := World.ownsRow.stored h (k * 3) (.string f.nm)
  have h2 := World.ownsRow.stored h1.1 (k * 3 + 1) (.string f.sf)
  have h3 := World.ownsRow.stored h2.1 (k * 3 + 2) (.string f.wt)
  have hl : k < l.length := by have := h.len; omega
  have hg : base ≤ g := by
    rcases h.parts with ⟨e, _⟩ | ⟨g', cur, e, hb, _⟩
    · cases e
    · injection e with e; injection e with e; omega
  refine ⟨?_, (((Below.refl _ _).setCell (p := ⟨g, _, none⟩) hg _).setCell (p := ⟨g, _, none⟩) hg _).setCell (p := ⟨g, _, none⟩) hg _⟩
  have := h3.1
  rw [rows_set l k hl f] at this
  exact this

set_option maxHeartbeats 1000000 in
theorem set_mid (base : Nat) (A : Option Addr) (n c : Nat) (k : Nat) (f : Fil) (l : List Fil) (w : World) (h : Own w base A n c l) (hk : k < n) :
    Calls Try.prog 37 #[.slice A n c, .int .i64 k, f.val] w fun e w' => e = .returned (.slice A n c) ∧ Own w' base A n c (l.set k f) ∧ Below base w w' := by
  rcases h.parts with ⟨rfl, rfl, _⟩ | ⟨g, cur, rfl, hb, hh, hc, hm, hs, ht⟩
  · omega
  have hgw : g < w.heap.size := by
    rcases Nat.lt_or_ge g w.heap.size with hlt | hge
    · exact hlt
    · rw [Array.getElem?_eq_none hge] at hh; cases hh
  have hkl : k < l.length := by have := h.len; omega
  have c0 : w.cell? ⟨g, k * 3, none⟩ = some (.string l[k].nm) := by rw [World.ownsRow.cellAt h _ (by omega)]; exact rows_at l k hkl 0 (by omega)
  have c1 : w.cell? ⟨g, k * 3 + 1, none⟩ = some (.string l[k].sf) := by rw [World.ownsRow.cellAt h _ (by omega)]; exact rows_at l k hkl 1 (by omega)
  have c2 : w.cell? ⟨g, k * 3 + 2, none⟩ = some (.string l[k].wt) := by rw [World.ownsRow.cellAt h _ (by omega)]; exact rows_at l k hkl 2 (by omega)
  have f0 : w.frozen? ⟨g, k * 3, none⟩ = false := World.ownsRow.frozenAt h _
  have f1 : w.frozen? ⟨g, k * 3 + 1, none⟩ = false := World.ownsRow.frozenAt h _
  have f2 : w.frozen? ⟨g, k * 3 + 2, none⟩ = false := World.ownsRow.frozenAt h _
  unfold maxLen at hm
  have HO := Lib.hid h
  have hkn : ((k : Int) == (n : Int)) = false := by simp; omega
  have hkn2 : (k == n) = false := by simp; omega
  clear h hh hs ht
  obtain ⟨a, b, d⟩ := f
  go_enter Try.func37, Try.ntmps37
  go_wp2
  go_ret
  exact ⟨rfl, (HO.out.set3 hk ⟨a, b, d⟩).1.alloc _, (HO.out.set3 hk ⟨a, b, d⟩).2.alloc (by simp <;> omega) _⟩

theorem files_lit1 (w : World) (f : Fil) : Files (w.alloc (.cells #[.string f.nm, .string f.sf, .string f.wt] 29)) (some ⟨w.heap.size, 0, none⟩) 1 [f] :=
  Own.files (base := 0) (c := 1) (World.ownsRow_lit w #[.string f.nm, .string f.sf, .string f.wt] 1 (Nat.zero_le _) (by unfold maxLen; omega) rfl)

def RetOwnB (w : World) (base n : Nat) (l : List Fil) (e : Ending) (w' : World) : Prop :=
  ∃ A' c', e = .returned (.slice A' n c') ∧ Own w' base A' n c' l ∧ Below base w w'

set_option maxHeartbeats 1000000 in
theorem set_end (base : Nat) (A : Option Addr) (n c : Nat) (f : Fil) (l : List Fil) (w : World) (h : Own w base A n c l) (hn : (n + 1) * 48 ≤ 140737488355328) (hbase : base ≤ w.heap.size) :
    Calls Try.prog 37 #[.slice A n c, .int .i64 n, f.val] w fun e w' => RetOwnB w base (n + 1) (l ++ [f]) e w' := by
  have HO := Lib.hid h
  clear h
  obtain ⟨a, b, d⟩ := f
  go_enter Try.func37, Try.ntmps37
  go_wp2_with (at_builtin
               refine wpl_app rfl (.tmp 11) (.tmp 13) rfl base A n c l rfl ((HO.out.alloc _).alloc _) (some ⟨w.heap.size + 1, 0, none⟩) 1 1 [⟨a, b, d⟩] rfl (by have := files_lit1 (w.alloc (.cells #[.string a, .string b, .string d] 29)) ⟨a, b, d⟩; simpa using this) (fun e => by cases e) hn (by simp <;> omega) ?_
               intro A1 c1 w1 ho1 hb1)
  go_ret
  exact ⟨A1, c1, rfl, ho1, (((Below.refl _ _).alloc hbase _).alloc (by simp <;> omega) _).trans hb1⟩
end Go.Proofs.Ytpjadjbniddmgaa
