/- Builder, RunBytes, RunShown: merged. -/
import Derived.Test.YtodfdklcioafmaaA1
import Derived.Test.YtodfdklcioafmaaShelf
import Derived.Lib.Builder
import Derived.Lib.AppendStr
import Derived.OwnWalk
import Derived.Test.YtodfdklcioafmaaA9
/- Contracts: strings.Builder's copyCheck, WriteString, String, at a builder that the call has made. -/
namespace Go.Proofs.Ytodfdklcioafmaa
set_option maxRecDepth 100000
open Go.RowKit
set_option linter.unusedVariables false

theorem bld_size : (Try.prog.info? 79).map (fun i => i.size) = some 2 := by kernel_rfl
theorem bld_lies : liesAt Try.prog Try.prog.depth 79 (2 / Try.prog.cellsOf 79) 0 79 1 = true := by kernel_rfl
theorem byte_info : (Try.prog.info? 5).map (fun i => (i.zero, i.size, i.bytes)) = some (some (.int .u8 0), 1, 1) := by kernel_rfl

set_option maxHeartbeats 1000000 in
set_option maxRecDepth 100000 in
theorem check_used (b : Nat) (w : World) (h0 : w.cell? ⟨b, 0, none⟩ = some (.pointer (some ⟨b, 0, none⟩))) :
    Calls Try.prog 81 #[.pointer (some ⟨b, 0, none⟩)] w fun e w' => e = .returned (.tuple #[]) ∧ w' = w := by
  obtain ⟨j, hj, _⟩ := Option.map_eq_some_iff.1 bld_size
  go_enter Try.func81, Try.ntmps81
  go_wp2
  rw [Lib.run_neq_ptr_same w _ Try.underlying76 hj]
  go_wp2
  go_end0
  exact ⟨rfl, rfl⟩

set_option maxHeartbeats 1000000 in
set_option maxRecDepth 100000 in
theorem check_fresh (b : Nat) (w : World) (h0 : w.cell? ⟨b, 0, none⟩ = some (.pointer none)) (hsh : w.shape? b = some (79, 2)) (hfz : w.frozen? ⟨b, 0, none⟩ = false) :
    Calls Try.prog 81 #[.pointer (some ⟨b, 0, none⟩)] w fun e w' => e = .returned (.tuple #[]) ∧ w' = w.setCell ⟨b, 0, none⟩ (.pointer (some ⟨b, 0, none⟩)) := by
  obtain ⟨j, hj, hjs⟩ := Option.map_eq_some_iff.1 bld_size
  go_enter Try.func81, Try.ntmps81
  go_wp2
  rw [Lib.run_to_unsafe w ⟨b, 0, none⟩ Try.underlying76 Try.underlying144 hj (by rw [hjs]; decide) hsh (Nat.zero_lt_succ 1)]
  simp only [Result.andThen]
  rw [Oper.upon_value]
  go_wp2
  rw [run_callFunc_extern Try.func105 (by kernel_rfl) (by kernel_rfl) (by kernel_rfl) (e := Extern.AbiNoEscape.same) (by kernel_rfl)]
  rw [Lib.run_noEscape]
  simp only [Result.andThen]
  rw [Oper.upon_value]
  go_wp2
  rw [Lib.run_from_unsafe w ⟨b, 0, none⟩ Try.underlying144 Try.underlying76 hj hsh bld_lies]
  simp only [Result.andThen]
  rw [Oper.upon_value]
  go_wp2
  go_end0
  exact ⟨rfl, rfl⟩

abbrev BldAt (B b : Nat) (p : Value) (l : List UInt8) (w : World) : Prop := Lib.BuilderAt 79 5 B b p (Lib.byteCells l) w
/-- a builder in block b that holds these bytes. -/
def Bld (B b : Nat) (l : List UInt8) (w : World) : Prop := Lib.IsBuilder 79 5 B b (Lib.byteCells l) w

theorem check_any (B b : Nat) (l : List UInt8) (w : World) (h : Bld B b l w) :
    Calls Try.prog 81 #[.pointer (some ⟨b, 0, none⟩)] w fun e w' => e = .returned (.tuple #[]) ∧ BldAt B b (.pointer (some ⟨b, 0, none⟩)) l w' ∧ Below B w w' ∧ ∀ X, X ≠ b → w'.heap[X]? = w.heap[X]? := by
  rcases h with h | h
  · refine (check_fresh b w h.cell0 h.shape h.frozen0).mono ?_
    rintro e w' ⟨rfl, rfl⟩
    exact ⟨rfl, h.used _, (Below.refl B w).setCell (p := ⟨b, 0, none⟩) h.1 _, fun X hX => heap_setCell_other w ⟨b, 0, none⟩ X _ hX⟩
  · refine (check_used b w h.cell0).mono ?_
    rintro e w' ⟨rfl, rfl⟩
    exact ⟨rfl, h, Below.refl B _, fun _ _ => rfl⟩
/-- all rows but those of bytes, and the builder itself, are as they were. -/
def KeepB (b : Nat) (w w' : World) : Prop := ∀ X cs T fr, w.heap[X]? = some (.cells cs T fr) → T ≠ 5 → X ≠ b → w'.heap[X]? = some (.cells cs T fr)

theorem str_cells (s : ByteArray) : Lib.strCells s = Lib.byteCells s.data.toList := rfl
theorem byteCells_app (l m : List UInt8) : Lib.byteCells l ++ Lib.byteCells m = Lib.byteCells (l ++ m) := by simp [Lib.byteCells]
theorem byteCells_len (l : List UInt8) : (Lib.byteCells l).length = l.length := by simp [Lib.byteCells]

set_option maxHeartbeats 2000000 in
set_option maxRecDepth 100000 in
theorem write_any (B b : Nat) (l : List UInt8) (s : ByteArray) (w : World) (h : Bld B b l w) (hlen : l.length + s.size ≤ 140737488355328) (hBw : B ≤ w.heap.size) :
    Calls Try.prog 47 #[.pointer (some ⟨b, 0, none⟩), .string s] w fun e w' => e = .returned (.tuple #[.int .i64 s.size, .nilIface]) ∧ Bld B b (l ++ s.data.toList) w' ∧ Below B w w' ∧ KeepB b w w' := by
  obtain ⟨i0, hi, hz0, hz1, hz2⟩ := info_parts byte_info
  have hne : (79 : TypeId) ≠ 5 := by decide
  have hbl := byteCells_len l
  have HBL := Lib.hid hbl
  clear hbl
  go_enter Try.func47, Try.ntmps47
  go_wp2_with fail
  refine (check_any B b l _ h).mono ?_
  rintro e w1 ⟨rfl, ⟨hB, v, hbk, hown, hnv⟩, hb1, hk1⟩
  have HK1 := Lib.hid hk1
  clear hk1
  have c0 : w1.cell? ⟨b, 0, none⟩ = some (.pointer (some ⟨b, 0, none⟩)) := by rw [Lib.cell_of_heap hbk]; rfl
  have c1 : w1.cell? ⟨b, 1, none⟩ = some v := by rw [Lib.cell_of_heap hbk]; rfl
  go_wp2_with (at_builtin; refine Lib.wpList_append_own_string _ rfl _ _ 77 9 rfl B 5 i0 Try.underlying77 Try.underlying9 hi hz0 hz1 hz2 _ _ _ rfl hown s rfl ?c3 ?c4 ?c5 ?_)
  case c3 => unfold maxLen; have := HBL.out; omega
  case c4 => have := HBL.out; omega
  case c5 => have := hb1.size; omega
  intro v' w2 hown' hgrow _
  have hlt : b < w1.heap.size := by
    rcases Nat.lt_or_ge b w1.heap.size with h' | h'
    · exact h'
    · simp [Array.getElem?_eq_none h'] at hbk
  have hb2 : w2.heap[b]? = some (.cells #[.pointer (some ⟨b, 0, none⟩), v] 79 (0, 0)) := by
    rw [hgrow.block b hlt (fun e => hnv e.symm)]
    exact hbk
  have d0 : w2.cell? ⟨b, 0, none⟩ = some (.pointer (some ⟨b, 0, none⟩)) := by rw [Lib.cell_of_heap hb2]; rfl
  have d1 : w2.cell? ⟨b, 1, none⟩ = some v := by rw [Lib.cell_of_heap hb2]; rfl
  have f1 : w2.frozen? ⟨b, 1, none⟩ = false := Lib.frozen_of_heap hb2 1
  obtain ⟨ao, n', cap, rfl⟩ : ∃ ao n' cap, v' = .slice ao n' cap := by
    rcases hown'.2 with ⟨hv, _⟩ | ⟨g, cap, cur, hv, _⟩
    · exact ⟨_, _, _, hv⟩
    · exact ⟨_, _, _, hv⟩
  go_wp2
  go_ret2
  refine ⟨rfl, .inr ?_, ?_, fun X cs T fr hX hT hXb => ?_⟩
  · have := Lib.BuilderAt.put (T := 79) (e := 5) hB hb2 (bs' := Lib.byteCells l ++ Lib.strCells s) (by simpa [Lib.strCells_length] using hown') hne
    rw [str_cells, byteCells_app] at this
    exact this
  · exact (hb1.grown hgrow (by have := hb1.size; omega) (fun k hk => (hown.lt k hk).1)).setCell (p := ⟨b, 1, none⟩) hB _
  · rw [heap_setCell_other w2 ⟨b, 1, none⟩ X _ hXb]
    have hX1 : w1.heap[X]? = some (.cells cs T fr) := (HK1.out X hXb).trans hX
    have hlt1 : X < w1.heap.size := by
      rcases Nat.lt_or_ge X w1.heap.size with h' | h'
      · exact h'
      · rw [Array.getElem?_eq_none h'] at hX1; cases hX1
    rw [hgrow.block X hlt1 (fun e => Lib.ownBlock_ne hown hX1 hT e.symm)]
    exact hX1

theorem string_any (B b : Nat) (l : List UInt8) (w : World) (h : Bld B b l w) (hBw : B ≤ w.heap.size) :
    Calls Try.prog 51 #[.pointer (some ⟨b, 0, none⟩)] w fun e w' => e = .returned (.string ⟨l.toArray⟩) ∧ Below B w w' := Try.Builder_String_any B b l w h hBw
theorem owns_q {w w' : World} {base : Nat} {T : TypeId} {k : Nat} {v : Value} {n : Nat} {xs : List Value} (h : w.ownsRow base T k v n xs) (q : Q w w') : w'.ownsRow base T k v n xs := by
  refine ⟨h.1, ?_⟩
  rcases h.2 with ⟨e, h0⟩ | ⟨g, cap, cur, e, hg, hh, r⟩
  · exact .inl ⟨e, h0⟩
  · have hlt : g < w.heap.size := by
      rcases Nat.lt_or_ge g w.heap.size with hlt | hge
      · exact hlt
      · rw [Array.getElem?_eq_none hge] at hh; cases hh
    exact .inr ⟨g, cap, cur, e, hg, (q.below.block g hlt).trans hh, r⟩
theorem Bld.q {B b : Nat} {l : List UInt8} {w w' : World} (h : Bld B b l w) (q : Q w w') : Bld B b l w' := by
  have key : ∀ p, BldAt B b p l w → BldAt B b p l w' := by
    rintro p ⟨hB, v, hbk, hown, hnv⟩
    have hlt : b < w.heap.size := by
      rcases Nat.lt_or_ge b w.heap.size with h' | h'
      · exact h'
      · simp [Array.getElem?_eq_none h'] at hbk
    exact ⟨hB, v, (q.below.block b hlt).trans hbk, owns_q hown q, hnv⟩
  rcases h with h | h
  · exact .inl (key _ h)
  · exact .inr (key _ h)
theorem Bld.lt {B b : Nat} {l : List UInt8} {w : World} (h : Bld B b l w) : b < w.heap.size := by
  rcases h with h | h
  · exact h.lt
  · exact h.lt
theorem Bld.fresh (w : World) : Bld w.heap.size w.heap.size [] (w.alloc (.cells #[.pointer none, .slice none 0 0] 79)) := Lib.fresh_isBuilder _ _ w
end Go.Proofs.Ytodfdklcioafmaa

/- The contract of run.Bytes. -/
namespace Go.Proofs.Ytodfdklcioafmaa
set_option maxRecDepth 100000
open Go.RowKit Prm
set_option linter.unusedVariables false
set_option linter.unusedSimpArgs false

namespace Rn
def bytesM (l : List Pr) : List UInt8 × Int := if may l then (bytes l, 0) else ([], 1)
theorem flat_len : ∀ (l : List Pr), (∀ p ∈ l, p.key.size ≤ 65536 ∧ p.val.size ≤ 65536) → (flat l).length ≤ l.length * 131114
  | [], _ => by simp [flat]
  | p :: m, hm => by
    have h1 := hm p (by simp)
    have h2 := flat_len m fun q hq => hm q (by simp [hq])
    have h3 := Dm.num_length p.key.size (by omega)
    have h4 := Dm.num_length p.val.size (by omega)
    simp only [flat, one, ptx, List.length_append, List.length_cons, size_data, Nat.add_mul]
    omega
theorem ptx_eq (s : ByteArray) : Dm.num s.size ++ s.data.toList = ptx s := by unfold ptx; rw [size_data]
end Rn

set_option maxHeartbeats 4000000 in
theorem bytes_any (A : Option Addr) (n c : Nat) (l : List Pr) (w : World) (hf : Lst pairK w A n l) (hn : n ≤ 536870912) :
    Calls Try.prog 22 #[.slice A n c] w fun e w' => e = .returned (.tuple #[.string ⟨(Rn.bytesM l).1.toArray⟩, .int .i64 (Rn.bytesM l).2]) ∧ Q w w' := by
  have KM := Lib.hid (mayBe_any A n c l w hf (by unfold maxLen; omega))
  have HF := Lib.hid hf
  have hlen := hf.len
  cases hm : Rn.may l with
  | false =>
    rw [hm] at KM
    have HR := Lib.hid (show Rn.bytesM l = ([], 1) by unfold Rn.bytesM; rw [hm]; rfl)
    clear hf hm hlen
    go_enter Try.func22, Try.ntmps22
    go_wp2_with fail
    refine KM.out.mono ?_
    rintro e w1 ⟨rfl, q1⟩
    go_wp2_with fail
    go_ret2
    exact ⟨by rw [HR.out]; rfl, q1⟩
  | true =>
    rw [hm] at KM
    have HR := Lib.hid (show Rn.bytesM l = (Rn.bytes l, 0) by unfold Rn.bytesM; rw [hm]; rfl)
    have HB := Lib.hid (Rn.may_big hm)
    have HL := Lib.hid hlen
    have HN := Lib.hid (Dm.num_length n (by omega))
    have HTot := Lib.hid (show ∀ k, k ≤ n → (Dm.num n ++ Rn.flat (l.take k)).length ≤ 21 + k * 131114 from fun k hk => by
      have h1 := Rn.flat_len (l.take k) fun p hp => HB.out p (List.mem_of_mem_take hp)
      rw [List.length_take, Nat.min_eq_left (by omega)] at h1
      rw [List.length_append]
      have := HN.out
      omega)
    have e1 : 0 ≤ (n : Int) := by omega
    clear hf hm hlen
    go_enter Try.func22, Try.ntmps22
    go_wp2_with fail
    refine KM.out.mono ?_
    rintro e w1 ⟨rfl, q1⟩
    have Q1 := Lib.hid q1
    have B1 := Lib.hid (Bld.fresh w1)
    clear q1
    go_wp2_with fail
    refine (num_any _ _ (by omega) (by omega)).mono ?_
    rintro e w2 ⟨rfl, q2⟩
    have Q2 := Lib.hid q2
    clear q2
    go_wp2_with fail
    refine (write_any w1.heap.size w1.heap.size [] _ _ (B1.out.q Q2.out) (by have := HN.out; simp [ByteArray.size]; omega) (by have := Q2.out.size; simp at this; omega)).mono ?_
    rintro e w3 ⟨rfl, b3, be3, _⟩
    have B3 := Lib.hid (show Bld w1.heap.size w1.heap.size (Dm.num n ++ Rn.flat (l.take 0)) w3 by simpa [Rn.flat] using b3)
    have Q3 := Lib.hid (show Below w1.heap.size w1 w3 from (((Q.refl w1).alloc _).trans Q2.out).below.trans be3)
    clear b3 be3 Q2 B1
    go_wp2
    go_loopw [17] (fun i wr => ∃ k : Nat, k ≤ n ∧ i = .int .i64 k ∧ Bld w1.heap.size w1.heap.size (Dm.num n ++ Rn.flat (l.take k)) wr ∧ Below w1.heap.size w1 wr) (fun i _ => n - (intOf i).toNat)
    case atStart => exact ⟨0, Nat.zero_le _, rfl, B3.out, Q3.out⟩
    case round =>
      obtain ⟨k, hk, rfl, b4, be4⟩ := hrel
      have B4 := Lib.hid b4
      have Q4 := Lib.hid (show Q w1 wr from be4)
      clear b4 be4 B3 Q3
      by_cases hlt : k < n
      · have hkl : k < l.length := by have := HL.out; omega
        have hbk := HB.out l[k] (List.getElem_mem hkl)
        have ht0 := HTot.out k (by omega)
        have HS := Lib.hid (Rn.flat_snoc l hkl)
        obtain ⟨ad, rfl, hab, x0, x1⟩ := load_pair (HF.out.q (Q1.out.trans Q4.out)) hlt hkl
        have hkn : (k : Int) < (n : Int) := by omega
        generalize hx : l[k] = x at x0 x1 hbk HS
        have HX := Lib.hid hx
        clear hx
        have hk1 := Dm.num_length x.key.size (by omega)
        have hk2 := Dm.num_length x.val.size (by omega)
        generalize hacc : Dm.num n ++ Rn.flat (l.take k) = acc at B4 ht0
        have HAcc := Lib.hid hacc
        clear hacc
        have KT1 := Lib.hid (fun W => text_any x.key W (by omega))
        have KT2 := Lib.hid (fun W => text_any x.val W (by omega))
        have ez1 : (⟨(Dm.num x.key.size ++ x.key.data.toList).toArray⟩ : ByteArray).size ≤ 65600 := by
          show (Dm.num x.key.size ++ x.key.data.toList).toArray.size ≤ _
          rw [List.size_toArray, List.length_append, Rn.size_data]; omega
        have ez2 : (⟨(Dm.num x.val.size ++ x.val.data.toList).toArray⟩ : ByteArray).size ≤ 65600 := by
          show (Dm.num x.val.size ++ x.val.data.toList).toArray.size ≤ _
          rw [List.size_toArray, List.length_append, Rn.size_data]; omega
        generalize hs1 : (⟨(Dm.num x.key.size ++ x.key.data.toList).toArray⟩ : ByteArray) = s1 at KT1 ez1
        generalize hs2 : (⟨(Dm.num x.val.size ++ x.val.data.toList).toArray⟩ : ByteArray) = s2 at KT2 ez2
        have HS1 := Lib.hid (show s1.data.toList = Rn.ptx x.key by rw [← hs1, ← Rn.ptx_eq])
        have HS2 := Lib.hid (show s2.data.toList = Rn.ptx x.val by rw [← hs2, ← Rn.ptx_eq])
        have HE1 := Lib.hid ez1
        have HE2 := Lib.hid ez2
        have HT0 := Lib.hid ht0
        clear hs1 hs2 hk1 hk2 hbk ez1 ez2 ht0
        go_wp2_with fail
        refine (KT1.out _).mono ?_
        rintro e w5 ⟨rfl, q5⟩
        have Q5 := Lib.hid (((Q.refl wr).alloc (.cells #[.string x.key, .string x.val] 62)).trans q5)
        have Y1 := Lib.hid (show w5.heap[wr.heap.size]? = some (.cells #[.string x.key, .string x.val] 62 (0, 0)) from (q5.below.block _ (by simp)).trans (heap_alloc_new wr _))
        clear q5
        go_wp2_with fail
        refine (write_any w1.heap.size w1.heap.size acc s1 _ (B4.out.q Q5.out) (by have := HT0.out; have := HE1.out; omega) (by have := Q4.out.size; have := Q5.out.size; omega)).mono ?_
        rintro e w6 ⟨rfl, b6, be6, k6⟩
        have B6 := Lib.hid b6
        have Q6 := Lib.hid (show Q w1 w6 from (Q4.out.trans Q5.out).below.trans be6)
        have y6 := k6 _ _ _ _ Y1.out (by decide) (by have := Q4.out.size; have := B4.out.lt; omega)
        have z1 : w6.cell? ⟨wr.heap.size, 1, none⟩ = some (.string x.val) := by rw [Lib.cell_of_heap y6]; rfl
        clear b6 be6 k6 y6 Y1
        go_wp2_with fail
        refine (KT2.out _).mono ?_
        rintro e w7 ⟨rfl, q7⟩
        have Q7 := Lib.hid q7
        clear q7
        go_wp2_with fail
        refine (write_any w1.heap.size w1.heap.size (acc ++ s1.data.toList) s2 _ (B6.out.q Q7.out) (by rw [List.length_append, Rn.size_data]; have := HT0.out; have := HE1.out; have := HE2.out; omega) (by have := Q6.out.size; have := Q7.out.size; omega)).mono ?_
        rintro e w8 ⟨rfl, b8, be8, _⟩
        have B8 := Lib.hid (show Bld w1.heap.size w1.heap.size (Dm.num n ++ Rn.flat (l.take (k + 1))) w8 by
          rw [HS.out, ← List.append_assoc, HAcc.out, Rn.one, ← List.append_assoc, ← HS1.out, ← HS2.out]; exact b8)
        have Q8 := Lib.hid (show Below w1.heap.size w1 w8 from (Q6.out.trans Q7.out).below.trans be8)
        clear b8 be8
        go_wp2
        go_roundw
        case rel => exact ⟨k + 1, by omega, by go_num, B8.out, Q8.out⟩
        case measure => simp [intOf]; omega
      · have hkn : k = n := by omega
        have hbody := HTot.out n (Nat.le_refl _)
        have hfull : Dm.num n ++ Rn.flat (l.take k) = Rn.body l := by
          unfold Rn.body
          rw [HL.out, hkn, List.take_of_length_le (by rw [HL.out]; exact Nat.le_refl _)]
        have hfull2 : Dm.num n ++ Rn.flat (l.take n) = Rn.body l := by
          unfold Rn.body
          rw [HL.out, List.take_of_length_le (by rw [HL.out]; exact Nat.le_refl _)]
        rw [hfull2] at hbody
        rw [hfull] at B4
        have HBody := Lib.hid hbody
        clear hfull hfull2 hbody hkn
        generalize hbo : Rn.body l = bo at B4 HBody
        have HBo := Lib.hid hbo
        clear hbo
        go_wp2_with fail
        refine (string_any w1.heap.size w1.heap.size bo _ B4.out Q4.out.size).mono ?_
        rintro e w5 ⟨rfl, be5⟩
        have Q5 := Lib.hid (show Q w1 w5 from Q4.out.below.trans be5)
        clear be5
        go_wp2_with fail
        refine (seal_any ⟨bo.toArray⟩ _ (by show bo.toArray.size ≤ _; have := HBody.out; simp; omega)).mono ?_
        rintro e w6 ⟨rfl, q6⟩
        go_wp2_with fail
        go_ret2
        exact ⟨by rw [HR.out, Rn.bytes, HBo.out]; rfl, Q1.out.trans (Q5.out.trans q6)⟩
end Go.Proofs.Ytodfdklcioafmaa

/- The example of chapter 6, at the head of each law. -/
namespace Go.Proofs.Ytodfdklcioafmaa
set_option maxRecDepth 100000
open Go.RowKit Prm
set_option linter.unusedVariables false
set_option linter.unusedSimpArgs false

def exPr : Pr := ⟨⟨#[97]⟩, ⟨#[49]⟩⟩
theorem rex_may : Rn.may [exPr] = true := by decide
theorem rex_adler : Sm.adler [49, 59, 49, 59, 97, 49, 59, 49] = 137888215 := by decide
theorem rex_body : Rn.body [exPr] = [49, 59, 49, 59, 97, 49, 59, 49] := by
  have e1 : Dm.dg 1 = [49] := by rw [Dm.dg]; rfl
  unfold Rn.body Rn.flat Rn.one Rn.ptx Dm.num Rn.flat
  show Dm.dg 1 ++ [59] ++ (Dm.dg 1 ++ [59] ++ [97] ++ (Dm.dg 1 ++ [59] ++ [49]) ++ []) = _
  rw [e1]; rfl
theorem rex_bytes : Rn.bytes [exPr] = [56, 59, 49, 59, 49, 59, 97, 49, 59, 49, 49, 51, 55, 56, 56, 56, 50, 49, 53, 59] := by
  unfold Rn.bytes
  rw [rex_body]
  unfold sld Dm.num
  rw [rex_adler]
  have e8 : Dm.dg 8 = [56] := by rw [Dm.dg]; rfl
  have f0 : Dm.dg 1 = [49] := by rw [Dm.dg]; rfl
  have f1 : Dm.dg 13 = [49, 51] := by rw [Dm.dg, if_neg (by omega), show 13 / 10 = 1 from rfl, f0]; rfl
  have f2 : Dm.dg 137 = [49, 51, 55] := by rw [Dm.dg, if_neg (by omega), show 137 / 10 = 13 from rfl, f1]; rfl
  have f3 : Dm.dg 1378 = [49, 51, 55, 56] := by rw [Dm.dg, if_neg (by omega), show 1378 / 10 = 137 from rfl, f2]; rfl
  have f4 : Dm.dg 13788 = [49, 51, 55, 56, 56] := by rw [Dm.dg, if_neg (by omega), show 13788 / 10 = 1378 from rfl, f3]; rfl
  have f5 : Dm.dg 137888 = [49, 51, 55, 56, 56, 56] := by rw [Dm.dg, if_neg (by omega), show 137888 / 10 = 13788 from rfl, f4]; rfl
  have f6 : Dm.dg 1378882 = [49, 51, 55, 56, 56, 56, 50] := by rw [Dm.dg, if_neg (by omega), show 1378882 / 10 = 137888 from rfl, f5]; rfl
  have f7 : Dm.dg 13788821 = [49, 51, 55, 56, 56, 56, 50, 49] := by rw [Dm.dg, if_neg (by omega), show 13788821 / 10 = 1378882 from rfl, f6]; rfl
  have f8 : Dm.dg 137888215 = [49, 51, 55, 56, 56, 56, 50, 49, 53] := by rw [Dm.dg, if_neg (by omega), show 137888215 / 10 = 13788821 from rfl, f7]; rfl
  rw [show (137888215 : Int).toNat = 137888215 from rfl, f8, show ([49, 59, 49, 59, 97, 49, 59, 49] : List UInt8).length = 8 from rfl, e8]; rfl
def exS : ByteArray := ⟨#[56, 59, 49, 59, 49, 59, 97, 49, 59, 49, 49, 51, 55, 56, 56, 56, 50, 49, 53, 59]⟩
theorem exS_size : exS.size = 20 := rfl
theorem rex_take : Rn.take exS.data.toList exS.size = ([exPr], 0) := by
  rw [show exS.data.toList = Rn.bytes [exPr] by rw [rex_bytes]; rfl]
  exact Rn.take_bytes [exPr] exS.size rex_may (by rw [rex_body]; decide) (by rw [rex_body]; decide)
theorem bytes_ex (w : World) : Calls Try.prog 22 #[.slice (some ⟨w.heap.size, 0, none⟩) 1 1] (w.alloc (.cells #[.string ⟨#[97]⟩, .string ⟨#[49]⟩] 62)) fun e w' => e = .returned (.tuple #[.string exS, .int .i64 0]) ∧ Q (w.alloc (.cells #[.string ⟨#[97]⟩, .string ⟨#[49]⟩] 62)) w' := by
  have h := bytes_any (some ⟨w.heap.size, 0, none⟩) 1 1 [exPr] _ (lit_pair w exPr) (by omega)
  rw [show Rn.bytesM [exPr] = (Rn.bytes [exPr], 0) by unfold Rn.bytesM; rw [rex_may]; rfl, rex_bytes] at h
  exact h
theorem take_ex (w : World) : Calls Try.prog 23 #[.string exS] w fun e w' => ∃ A c, e = .returned (.tuple #[.slice A 1 c, .int .i64 0]) ∧ OwnK pairK w' w.heap.size A 1 c [exPr] ∧ Q w w' := by
  have h := rtake_any exS w (by rw [exS_size]; omega)
  rw [rex_take] at h
  exact h

set_option maxHeartbeats 2000000 in
theorem rshown_any (w : World) : Calls Try.prog 10 #[] w fun e w' => e = .returned (.bool true) ∧ Q w w' := by
  go_enter Try.func10, Try.ntmps10
  go_wp2_with fail
  refine (bytes_ex _).mono ?_
  rintro e w1 ⟨rfl, q1⟩
  have Q1 := Lib.hid (((Q.refl w).alloc _).trans q1)
  clear q1
  go_wp2_with fail
  refine (take_ex _).mono ?_
  rintro e w2 ⟨A, c, rfl, o2, q2⟩
  have Q2 := Lib.hid (Q1.out.trans q2)
  obtain ⟨ad, rfl, hb, x0, x1⟩ := load_pair o2.lst (k := 0) (by simp) (by simp)
  simp only [List.getElem_cons_zero, Nat.zero_mul] at x0 x1
  rw [show ad.add 0 = ad from rfl] at x0 x1
  clear q2 o2
  have hz : ((10 : Int) < (exS.size : Int)) := by decide
  have hz2 : ((10 : Int) ≤ (exS.size : Int)) := by decide
  have hx : exS.extract 0 10 = ⟨#[56, 59, 49, 59, 49, 59, 97, 49, 59, 49]⟩ := by decide
  unfold exPr at x0 x1
  go_wp2
  go_ret
  exact ⟨by first | rfl | simp, Q2.out⟩
end Go.Proofs.Ytodfdklcioafmaa
