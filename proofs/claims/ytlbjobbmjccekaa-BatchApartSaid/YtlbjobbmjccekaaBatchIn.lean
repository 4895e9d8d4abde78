/- What comes in: states, batches, lists of batches; the document's SameBatch. -/
import Derived.Test.YtlbjobbmjccekaaPairIn
import Derived.Test.YtlbjobbmjccekaaBatchDo
import Derived.Test.YtlbjobbmjccekaaRunFold
namespace Go.Proofs.Ytlbjobbmjccekaa
set_option maxRecDepth 100000
open Go.ChangeShapes Go.WideShapes Go.RowKit Prm
set_option linter.unusedVariables false
set_option linter.unusedSimpArgs false

theorem open_state {w : World} {cs : List Value} (h : Rd w 40 cs) : ∃ A n c l B m d t, cs = [.slice A n c, .slice B m d] ∧ In_ pairK w A n c l ∧ n * 32 ≤ 140737488351232 ∧ (∀ p ∈ l, PrIn p) ∧ In_ pairK w B m d t ∧ m * 32 ≤ 140737488351232 ∧ ∀ p ∈ t, PrIn p := by
  obtain ⟨hl, hf⟩ := h.struct Try.underlying40
  rw [show Try.prog.cellsOf 40 = 2 by kernel_rfl] at hl
  match cs, hl with
  | [a, b], _ =>
    obtain ⟨A, n, c, l, e0, i0, b0, p0⟩ := open_pairs (h.field Try.underlying40 0 (ty := 38) 0 1 rfl (by kernel_rfl))
    obtain ⟨B, m, d, t, e1, i1, b1, p1⟩ := open_pairs (h.field Try.underlying40 1 (ty := 38) 1 1 rfl (by kernel_rfl))
    simp at e0 e1
    subst e0 e1
    exact ⟨A, n, c, l, B, m, d, t, rfl, i0, b0, p0, i1, b1, p1⟩
theorem open_batch {w : World} {cs : List Value} (h : Rd w 24 cs) : ∃ k tok C p q ws, cs = [.int .i64 k, .string tok, .slice C p q] ∧ tok.size ≤ 140737488351232 ∧ In_ writeK w C p q ws ∧ p * 40 ≤ 140737488351232 ∧ (∀ x ∈ ws, WrIn x) ∧ -9223372036854775808 ≤ k ∧ k ≤ 9223372036854775807 := by
  obtain ⟨hl, hf⟩ := h.struct Try.underlying24
  rw [show Try.prog.cellsOf 24 = 3 by kernel_rfl] at hl
  match cs, hl with
  | [a, b, x], _ =>
    obtain ⟨k, e0, r0⟩ := (h.field Try.underlying24 0 (ty := 3) 0 1 rfl (by kernel_rfl)).int Try.underlying3
    obtain ⟨tok, e1, r1⟩ := (h.field Try.underlying24 1 (ty := 9) 1 1 rfl (by kernel_rfl)).string Try.underlying9
    obtain ⟨C, p, q, ws, e2, i2, b2, p2⟩ := open_writes (h.field Try.underlying24 2 (ty := 22) 2 1 rfl (by kernel_rfl))
    simp at e0 e1 e2
    subst e0 e1 e2
    exact ⟨k, tok, C, p, q, ws, rfl, r1, i2, b2, p2, (wf_i64 r0).1, (wf_i64 r0).2⟩

/-- a batch as it lies in a list. -/
structure BRaw where
  k : Int
  tok : ByteArray
  C : Option Addr
  p : Nat
  q : Nat
def rawK : Kind BRaw where
  T := 24
  S := 57
  k := 3
  bs := 48
  z := .agg #[.int .i64 0, .string ⟨#[]⟩, .slice none 0 0]
  row := fun p => [.int .i64 p.k, .string p.tok, .slice p.C p.p p.q]
  pos := by omega
  bpos := by omega
  len := fun _ => rfl
  one := fun _ u hu => by simp at hu; rcases hu with rfl | rfl | rfl <;> rfl
  und := Try.underlying57
  info := by kernel_rfl
  zc := rfl
theorem load_raw {w : World} {A : Option Addr} {n : Nat} {l : List BRaw} (h : Lst rawK w A n l) {k : Nat} (hk : k < n) (hl : k < l.length) :
    ∃ ad, A = some ad ∧ ad.block < w.heap.size ∧ w.cell? (ad.add (k * 3)) = some (.int .i64 l[k].k) ∧ w.cell? ⟨(ad.add (k * 3)).block, (ad.add (k * 3)).off + 1, none⟩ = some (.string l[k].tok) ∧
      w.cell? ⟨(ad.add (k * 3)).block, (ad.add (k * 3)).off + 2, none⟩ = some (.slice l[k].C l[k].p l[k].q) := by
  obtain ⟨ad, e, hb, hc⟩ := h.load hk hl
  exact ⟨ad, e, hb, hc 0 _ rfl, hc 1 _ rfl, hc 2 _ rfl⟩
/-- the raw batch r of a list stands for the batch b. -/
def Stands (w : World) (r : BRaw) (b : Bm.Bt) : Prop := r.k = b.kind ∧ r.tok = b.tok ∧ In_ writeK w r.C r.p r.q b.ws
theorem open_batches {w : World} {cs : List Value} (h : Rd w 57 cs) : ∃ A n c l, cs = [.slice A n c] ∧ In_ rawK w A n c l ∧ ∃ bl : List Bm.Bt, bl.length = n ∧ ∀ i, ∀ h1 : i < l.length, ∀ h2 : i < bl.length, Stands w l[i] bl[i] := by
  obtain ⟨A, n, c, l, rfl, hi, _, hP⟩ := open_kind rawK (fun r => ∃ b, Stands w r b) (fun cs hc => by
    obtain ⟨k, tok, C, p, q, ws, rfl, _, h1, _⟩ := open_batch hc
    exact ⟨⟨k, tok, C, p, q⟩, rfl, ⟨k, tok, ws⟩, rfl, rfl, h1⟩) (by kernel_rfl) (by kernel_rfl) h
  refine ⟨A, n, c, l, rfl, hi, ?_⟩
  have hl := hi.len
  obtain ⟨bl, hbl, hb⟩ := choose_list (R := fun i (b : Bm.Bt) => ∃ h : i < l.length, Stands w l[i] b) n (fun i hin => by
    obtain ⟨b, hb⟩ := hP l[i] (List.getElem_mem (by omega))
    exact ⟨b, by omega, hb⟩)
  exact ⟨bl, hbl, fun i h1 h2 => (hb i h2).2⟩

theorem Bm.fin_len (x : Bm.Bt × Bm.Hs) : (Bm.fin x).1.ws.length ≤ 24 := by
  obtain ⟨b, y, o⟩ := x
  unfold Bm.fin
  by_cases h : o = true ∧ y = [] ∧ Bm.may b = true
  · rw [if_pos h]; exact Bm.may_len h.2.2
  · rw [if_neg h]; simp
theorem Bm.take_len (s : List UInt8) : (Bm.take s).1.ws.length ≤ 24 := by
  unfold Bm.take
  generalize Bm.tkB (s, true) = x
  exact Bm.fin_len x

set_option maxHeartbeats 2000000 in
theorem sameBatch_any (k k2 : Int) (tok tok2 : ByteArray) (A B : Option Addr) (n c m d : Nat) (ws ws2 : List Wr) (w : World) (h1 : Lst writeK w A n ws) (h2 : Lst writeK w B m ws2) (hn : n ≤ maxLen) (hm : m ≤ maxLen) :
    Calls Try.prog 16 #[batV k tok A n c, batV k2 tok2 B m d] w fun e w' => e = .returned (.bool (decide ((⟨k, tok, ws⟩ : Bm.Bt) = ⟨k2, tok2, ws2⟩))) ∧ Q w w' := by
  have KW := Lib.hid (fun W q => refWrites_any A B n c m d ws ws2 W (h1.q q) (h2.q q) hn hm)
  have hE : decide ((⟨k, tok, ws⟩ : Bm.Bt) = ⟨k2, tok2, ws2⟩) = (decide (ws = ws2) && (k == k2) && (tok.toList == tok2.toList)) := by
    rw [same_str]
    by_cases e1 : k = k2 <;> by_cases e2 : tok = tok2 <;> by_cases e3 : ws = ws2 <;> simp [e1, e2, e3]
  have HE := Lib.hid hE
  clear h1 h2 hE
  generalize decide ((⟨k, tok, ws⟩ : Bm.Bt) = ⟨k2, tok2, ws2⟩) = R at HE ⊢
  generalize decide (ws = ws2) = r1 at KW HE
  generalize hr2 : (k == k2) = r2 at HE
  generalize hr3 : (tok.toList == tok2.toList) = r3 at HE
  go_enter Try.func16, Try.ntmps16
  go_upto_region 1 with (fail)
  have X : Hid (Bx ((w.alloc (.cells #[.int .i64 k, .string tok, .slice A n c] 24)).alloc (.cells #[.int .i64 k2, .string tok2, .slice B m d] 24)) w.heap.size [.int .i64 k, .string tok, .slice A n c] ∧
      Bx ((w.alloc (.cells #[.int .i64 k, .string tok, .slice A n c] 24)).alloc (.cells #[.int .i64 k2, .string tok2, .slice B m d] 24)) (w.heap.size + 1) [.int .i64 k2, .string tok2, .slice B m d] ∧
      Q w ((w.alloc (.cells #[.int .i64 k, .string tok, .slice A n c] 24)).alloc (.cells #[.int .i64 k2, .string tok2, .slice B m d] 24))) := by
    refine Lib.hid ⟨(Bx.new w [.int .i64 k, .string tok, .slice A n c] 24).alloc _, ?_, ((Q.refl w).alloc _).alloc _⟩
    have := Bx.new (w.alloc (.cells #[.int .i64 k, .string tok, .slice A n c] 24)) [.int .i64 k2, .string tok2, .slice B m d] 24
    simpa using this
  generalize ((w.alloc (.cells #[.int .i64 k, .string tok, .slice A n c] 24)).alloc (.cells #[.int .i64 k2, .string tok2, .slice B m d] 24)) = w2 at X ⊢
  obtain ⟨c0, c1, c2⟩ := X.out.1.get3.1
  obtain ⟨d0, d1, d2⟩ := X.out.2.1.get3.1
  go_wp2_with fail
  refine (KW.out _ X.out.2.2).mono ?_
  rintro e w3 ⟨rfl, y3⟩
  have Y := Lib.hid (X.out.2.2.trans y3)
  have X1 := Lib.hid (X.out.1.q y3)
  have X2 := Lib.hid (X.out.2.1.q y3)
  clear y3 c0 c1 c2 d0 d1 d2 X
  obtain ⟨c0, c1, c2⟩ := X1.out.get3.1
  obtain ⟨d0, d1, d2⟩ := X2.out.get3.1
  cases r1 <;> cases r2 <;> cases r3
  all_goals
    go_wp2
    go_ret
    exact ⟨ret_bool (by rw [HE.out]; first | rfl | simp_all), Y.out⟩
end Go.Proofs.Ytlbjobbmjccekaa
