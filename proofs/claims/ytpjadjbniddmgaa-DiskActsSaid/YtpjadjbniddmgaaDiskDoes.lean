/- Contracts: the law's 'does': one act. -/
import Derived.Test.YtpjadjbniddmgaaDiskRen2
import Derived.Test.YtpjadjbniddmgaaDiskShown
namespace Go.Proofs.Ytpjadjbniddmgaa
open Go.RowKit Dkm
set_option linter.unusedVariables false

namespace Dkm
/-- what one act makes of a disk. -/
def doesM (d : Dk) (kind num : Int) (nm s : ByteArray) : Dk × Int :=
  if kind = 1 then appd d nm s else if kind = 2 then syn d nm else if kind = 3 then ren d nm s else if kind = 4 then del d nm
  else if kind = 5 then (crs d (List.replicate d.fs.length num), 0) else if kind = 6 then ({ d with fuse := max num (-1) }, 0) else (d, 0)
theorem lss_len (d : Dk) (k : Nat) : (lss d k).fs.length ≤ d.fs.length := by unfold lss; simp [List.length_eraseIdx]; split <;> omega
theorem pow_fs (d : Dk) : (pow d).1.fs = d.fs := by unfold pow; split; rfl; split <;> rfl
theorem del_len (d : Dk) (nm : ByteArray) : (del d nm).1.fs.length ≤ d.fs.length := by
  unfold del
  split; exact Nat.le_refl _
  split; exact Nat.le_refl _
  split
  · rw [pow_fs]; exact Nat.le_refl _
  · exact Nat.le_trans (lss_len _ _) (by rw [pow_fs]; exact Nat.le_refl _)
theorem nmd_len (d : Dk) (k : Nat) (to : ByteArray) : (nmd d k to).fs.length = d.fs.length := by unfold nmd; simp
theorem ren_len (d : Dk) (fr to : ByteArray) : (ren d fr to).1.fs.length ≤ d.fs.length := by
  unfold ren
  split; exact Nat.le_refl _
  split; exact Nat.le_refl _
  split; exact Nat.le_refl _
  split; exact Nat.le_refl _
  split
  · rw [pow_fs]; exact Nat.le_refl _
  split
  · exact Nat.le_trans (lss_len _ _) (by rw [nmd_len, pow_fs]; exact Nat.le_refl _)
  · rw [nmd_len, pow_fs]; exact Nat.le_refl _
theorem appd_few (d : Dk) (nm s : ByteArray) : (appd d nm s).1.fs.length ≤ max d.fs.length 64 := by
  have h := appd_len d nm s
  by_cases h1 : d.fs.length < 64
  · omega
  · unfold appd
    split; exact Nat.le_max_left _ _
    split; exact Nat.le_max_left _ _
    split; exact Nat.le_max_left _ _
    split; exact Nat.le_max_left _ _
    rename_i _ _ h3 _
    show (put _ _ _).length ≤ _
    unfold put
    split
    · exact absurd (Or.inl ⟨by assumption, by omega⟩) h3
    · simp only [List.length_set]; exact Nat.le_max_left _ _
theorem does_few (d : Dk) (kind num : Int) (nm s : ByteArray) : (doesM d kind num nm s).1.fs.length ≤ max d.fs.length 64 := by
  unfold doesM
  split; exact appd_few d nm s
  split; rw [syn_len]; exact Nat.le_max_left _ _
  split; exact Nat.le_trans (ren_len _ _ _) (Nat.le_max_left _ _)
  split; exact Nat.le_trans (del_len _ _) (Nat.le_max_left _ _)
  split; rw [crs_len]; exact Nat.le_max_left _ _
  split <;> exact Nat.le_max_left _ _
end Dkm

/-- a disk, and why not. -/
def RetDV (w : World) (A : Option Addr) (d : Dk) (er : Int) (e : Ending) (w' : World) : Prop :=
  ∃ A' n' c', e = .returned (.tuple #[dkv A' n' c' d.room d.fuse d.off, .int .i64 er]) ∧ Dsk w' A' n' c' d.fs ∧ Q w w' ∧ (A' = A ∨ ∀ ad, A' = some ad → w.heap.size ≤ ad.block)
theorem Own.far_ {w : World} {base : Nat} {A : Option Addr} {n c : Nat} {l : List Fil} (h : Own w base A n c l) : ∀ ad, A = some ad → base ≤ ad.block := by
  intro ad e
  rcases h.parts with ⟨rfl, _⟩ | ⟨g, cur, rfl, hb, _⟩
  · cases e
  · injection e with e; subst e; exact hb
theorem Holds.away {w : World} {B k : Nat} {A : Option Addr} {n : Nat} {xs : List Value} (h : Holds w B k A n xs) {b : Nat} (ha : ∀ ad, A = some ad → ad.block ≠ b) (o : Nat) (u : Value) : Holds (w.setCell ⟨b, o, none⟩ u) B k A n xs :=
  ⟨h.1, fun j v hj => by
    obtain ⟨ad, e, hb, hc⟩ := h.2 j v hj
    exact ⟨ad, e, hb, (World.cell?_setCell_other _ _ _ _ (by intro x; have := congrArg Addr.block x; rw [addr_block] at this; exact ha ad e this.symm)).trans hc⟩⟩
theorem Dsk.away {w : World} {A : Option Addr} {n c : Nat} {l : List Fil} (h : Dsk w A n c l) {b : Nat} (ha : ∀ ad, A = some ad → ad.block ≠ b) (o : Nat) (u : Value) : Dsk (w.setCell ⟨b, o, none⟩ u) A n c l :=
  ⟨by have := Holds.away h.files ha o u; rw [show w.heap.size = (w.setCell ⟨b, o, none⟩ u).heap.size by simp [World.setCell]] at this; exact this, h.nil, h.le, h.cap, h.few⟩

/-- integers in a row of the call's own. -/
def OwnI (w : World) (base : Nat) (A : Option Addr) (n c : Nat) (ks : List Int) : Prop := w.ownsRow base 3 1 (.slice A n c) n (ks.map (Value.int .i64))
theorem int_info : (Try.prog.info? 3).map (fun i => (i.zero, i.size, i.bytes)) = some (some (.int .i64 0), 1, 8) := by kernel_rfl
theorem OwnI.ints {w : World} {base : Nat} {A : Option Addr} {n c : Nat} {ks : List Int} (h : OwnI w base A n c ks) : Ints w A n ks := by
  refine ⟨h.1, fun j u hu => ?_⟩
  rcases h.2 with ⟨e, h0⟩ | ⟨g, cap, cur, e, hb, hh, hc, hm, hs, ht⟩
  · have := (List.getElem?_eq_some_iff.1 hu).1
    rw [h.1] at this; omega
  · injection e with e1 e2 e3
    subst e1 e3
    have hj : j < n * 1 := by
      have := (List.getElem?_eq_some_iff.1 hu).1; rw [h.1] at this; exact this
    refine ⟨_, rfl, ?_, ?_⟩
    · rcases Nat.lt_or_ge g w.heap.size with hlt | hge
      · exact hlt
      · rw [Array.getElem?_eq_none hge] at hh; cases hh
    · rw [Addr.add_mid, Nat.zero_add, World.ownsRow.cellAt h j hj]; exact hu
theorem run_appI (w : World) (base : Nat) (A : Option Addr) (n c : Nat) (l : List Int) (h : OwnI w base A n c l) (ad : Addr) (m c2 : Nat) (l2 : List Int) (h2 : Ints w (some ad) m l2)
    (hb : (n + m) * 8 ≤ 140737488355328) (hbase : base ≤ w.heap.size) (ty : TypeId) :
    ∃ A' c' w', (Builtin.append_ #[47, 47] ty #[.slice A n c, .slice (some ad) m c2]).run Try.prog w = .ok (.slice A' (n + m) c') w' ∧ OwnI w' base A' (n + m) c' (l ++ l2) ∧ Below base w w' := by
  obtain ⟨i, hi, hz, hs, hy⟩ := info_parts int_info
  have hmax : n + m ≤ maxLen := by unfold maxLen; omega
  obtain ⟨v', w', hr, ho, hg, hn, hat⟩ := run_append_own_at (P := Try.prog) w base 47 ty 3 i _ 1 8 Try.underlying47 hi hz hs hy rfl (by omega) (.slice A n c) n (l.map (Value.int .i64)) h ad m c2 (l2.map (Value.int .i64)) h2.1
      (fun j u hu => by obtain ⟨a', e, _, hc⟩ := h2.2 j u hu; injection e with e; subst e; exact hc) (by intro u hu; obtain ⟨_, _, rfl⟩ := List.mem_map.1 hu; rfl) hmax hb hbase
  rw [← List.map_append] at ho
  have hbl : Below base w w' := (Below.refl _ _).grown hg hbase (fun k hk => by
    rcases h.2 with ⟨e, _⟩ | ⟨g, cap, cur, e, hb, _⟩
    · rw [e] at hk; cases hk
    · rw [e] at hk; simp only [Value.ownBlock, Option.some.injEq] at hk; omega)
  rcases ho.2 with ⟨e, h0⟩ | ⟨g, cap, cur, e, _⟩
  · have h00 : Value.slice none 0 0 = .slice none (n + m) 0 := by rw [h0]
    rw [h00] at e
    subst e
    exact ⟨none, 0, w', hr, ho, hbl⟩
  · subst e
    exact ⟨_, cap, w', hr, ho, hbl⟩
theorem wpl_appI {w : World} {ops : Array Oper} {rest : List Oper} {o : Oper} {a : Act} {R : Exit → Act → World → Prop} (hgd : o.guard = none) (s x : Operand)
    (ho : o.op = .call { callee := .builtin .append, args := #[s, x], argTypes := #[47, 47] })
    (base : Nat) (A : Option Addr) (n c : Nat) (l : List Int) (hs : a.eval s = .slice A n c) (h : OwnI w base A n c l) (ad : Addr) (m c2 : Nat) (l2 : List Int) (hx : a.eval x = .slice (some ad) m c2) (h2 : Ints w (some ad) m l2)
    (hb : (n + m) * 8 ≤ 140737488355328) (hbase : base ≤ w.heap.size)
    (hk : ∀ A' c' w', OwnI w' base A' (n + m) c' (l ++ l2) → Below base w w' → wpList Try.prog ops R rest (a.put o.dst (.slice A' (n + m) c')) w') : wpList Try.prog ops R (o :: rest) a w := by
  refine wpList_plain hgd fun K hK => ?_
  obtain ⟨A', c', w', hr, h3, h4⟩ := run_appI w base A n c l h ad m c2 l2 h2 hb hbase o.type
  unfold Oper.wp execOp
  simp only [ho, resolve, invoke, builtin, Sem.run_bind, Sem.run_pure, Result.andThen_ok, List.map_toArray, List.map_cons, List.map_nil, hs, hx, hr]
  exact hK _ _ (hk A' c' w' h3 h4)

abbrev actv (kind num : Int) (nm s : ByteArray) : Value := .agg #[.int .i64 kind, .int .i64 num, .string nm, .string s]

/-- the three boxes of 'does'. -/
structure Dz (w : World) (A : Option Addr) (n c : Nat) (d : Dk) (kind num : Int) (nm s : ByteArray) (wr : World) : Prop where
  dk : Bx wr w.heap.size [.slice A n c, .int .i64 d.room, .int .i64 d.fuse, .bool d.off]
  act : Bx wr (w.heap.size + 1) [.int .i64 kind, .int .i64 num, .string nm, .string s]
  res : Bx wr (w.heap.size + 2) [.slice none 0 0, .int .i64 0, .int .i64 0, .bool false]
  dsk : Dsk wr A n c d.fs
  q : Q w wr
theorem Dz.new {w : World} {A : Option Addr} {n c : Nat} {d : Dk} (kind num : Int) (nm s : ByteArray) (h : Dsk w A n c d.fs) :
    Dz w A n c d kind num nm s (((w.alloc (.cells #[.slice A n c, .int .i64 d.room, .int .i64 d.fuse, .bool d.off] 24)).alloc (.cells #[.int .i64 kind, .int .i64 num, .string nm, .string s] 56)).alloc (.cells #[.slice none 0 0, .int .i64 0, .int .i64 0, .bool false] 24)) := by
  have b1 := Bx.new (w.alloc (.cells #[.slice A n c, .int .i64 d.room, .int .i64 d.fuse, .bool d.off] 24)) [.int .i64 kind, .int .i64 num, .string nm, .string s] 56
  have b2 := Bx.new ((w.alloc (.cells #[.slice A n c, .int .i64 d.room, .int .i64 d.fuse, .bool d.off] 24)).alloc (.cells #[.int .i64 kind, .int .i64 num, .string nm, .string s] 56)) [.slice none 0 0, .int .i64 0, .int .i64 0, .bool false] 24
  refine ⟨((Bx.new w [.slice A n c, .int .i64 d.room, .int .i64 d.fuse, .bool d.off] 24).alloc _).alloc _, ?_, ?_, h.q ((((Q.refl _).alloc _).alloc _).alloc _), (((Q.refl _).alloc _).alloc _).alloc _⟩
  · have := b1.alloc (.cells #[.slice none 0 0, .int .i64 0, .int .i64 0, .bool false] 24)
    simpa using this
  · simpa using b2
theorem Dz.step {w wr w2 : World} {A : Option Addr} {n c : Nat} {d : Dk} {kind num : Int} {nm s : ByteArray} (h : Dz w A n c d kind num nm s wr) (q : Q wr w2) : Dz w A n c d kind num nm s w2 :=
  ⟨h.dk.q q, h.act.q q, h.res.q q, h.dsk.q q, h.q.trans q⟩
theorem Dz.fin {w wr w2 : World} {A : Option Addr} {n c : Nat} {d : Dk} {kind num : Int} {nm s : ByteArray} (h : Dz w A n c d kind num nm s wr) (q : Q wr w2) {A2 : Option Addr} {n2 c2 : Nat} {d2 : Dk} (er : Int) (ho : Own w2 wr.heap.size A2 n2 c2 d2.fs) (hn : n2 * 48 ≤ 140737488355328) (x y z u : Value) :
    RetDV w A d2 er (.returned (.tuple #[dkv A2 n2 c2 d2.room d2.fuse d2.off, .int .i64 er])) ((((w2.setCell ⟨w.heap.size + 2, 0, none⟩ x).setCell ⟨w.heap.size + 2, 1, none⟩ y).setCell ⟨w.heap.size + 2, 2, none⟩ z).setCell ⟨w.heap.size + 2, 3, none⟩ u) :=
  ⟨A2, n2, c2, rfl, (ho.set4 h.res.lt _ _ _ _).dsk hn, (h.q.trans q).set4 (by omega) _ _ _ _, .inr fun ad e => by have h1 := ho.far_ ad e; have h2 := h.q.size; omega⟩
end Go.Proofs.Ytpjadjbniddmgaa
