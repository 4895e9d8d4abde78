/- The contracts of batch.deed and batch.Bytes; the example. -/
import Derived.Test.YtlbjobbmjccekaaBatchMay
import Derived.Test.YtlbjobbmjccekaaBuilder
namespace Go.Proofs.Ytlbjobbmjccekaa
set_option maxRecDepth 100000
open Go.RowKit Prm
set_option linter.unusedVariables false
set_option linter.unusedSimpArgs false

theorem bdeed_any (x : Wr) (w : World) : Calls Try.prog 35 #[x.v] w fun e w' => e = .returned (.int .u64 (Bm.del x : Nat)) ∧ Q w w' := by
  obtain ⟨a, b, d⟩ := x
  cases d
  all_goals
    go_enter Try.func35, Try.ntmps35
    go_wp2
    go_ret
    exact ⟨rfl, (Q.refl _).alloc _⟩

theorem Bm.ptx_eq (s : ByteArray) : Dm.num s.size ++ s.data.toList = Rn.ptx s := by unfold Rn.ptx; rw [Rn.size_data]
theorem dt_app (a b : ByteArray) : (a ++ b).data.toList = a.data.toList ++ b.data.toList := by simp
theorem dt_size (a : ByteArray) {l : List UInt8} (h : a.data.toList = l) : a.size = l.length := by rw [← h]; rfl
theorem dt_mk (a : ByteArray) {l : List UInt8} (h : a.data.toList = l) : a = ⟨l.toArray⟩ := by rw [← h]
theorem heap_lt {w : World} {b : Nat} {o : Obj} (h : w.heap[b]? = some o) : b < w.heap.size := (Array.getElem?_eq_some_iff.1 h).1

set_option maxHeartbeats 4000000 in
theorem bbytes_any (k : Int) (tok : ByteArray) (A : Option Addr) (n c : Nat) (l : List Wr) (w : World) (hf : Lst writeK w A n l) (hn : n ≤ maxLen) :
    Calls Try.prog 12 #[batV k tok A n c] w fun e w' => e = .returned (.tuple #[.string ⟨(Bm.bytesM ⟨k, tok, l⟩).1.toArray⟩, .int .i64 (Bm.bytesM ⟨k, tok, l⟩).2]) ∧ Q w w' := by
  have KM := Lib.hid (fun W q => may_any k tok A n c l W (hf.q q) hn)
  have HF := Lib.hid hf
  have hlen := hf.len
  cases hm : Bm.may ⟨k, tok, l⟩ with
  | false =>
    rw [hm] at KM
    have HR := Lib.hid (show Bm.bytesM ⟨k, tok, l⟩ = ([], 1) by unfold Bm.bytesM; rw [hm]; rfl)
    clear hf hm hlen
    go_enter Try.func12, Try.ntmps12
    go_wp2_with fail
    refine (KM.out _ ((Q.refl _).alloc _)).mono ?_
    rintro e w1 ⟨rfl, q1⟩
    have Q1 := Lib.hid (((Q.refl w).alloc _).trans q1)
    clear q1
    go_wp2_with fail
    go_ret2
    exact ⟨by rw [HR.out]; rfl, Q1.out⟩
  | true =>
    rw [hm] at KM
    have HR := Lib.hid (show Bm.bytesM ⟨k, tok, l⟩ = (Bm.head ⟨k, tok, l⟩ ++ Bm.flat l, 0) by unfold Bm.bytesM; rw [hm]; rfl)
    have HOk := Lib.hid (Bm.may_ok hm).2
    have hk := Bm.may_kind hm
    have ht := Bm.may_tok hm
    have hn24 := Bm.may_len hm
    have hhl := Bm.head_len hm
    simp only at hk ht hn24
    rw [hlen] at hn24
    have HTot := Lib.hid (show ∀ j, j ≤ n → (Bm.head ⟨k, tok, l⟩ ++ Bm.flat (l.take j)).length ≤ 5000 from fun j hj => by
      have h1 := Bm.flat_len (l.take j) fun p hp => HOk.out p (List.mem_of_mem_take hp)
      rw [List.length_take, Nat.min_eq_left (by omega)] at h1
      rw [List.length_append]
      omega)
    have K1 := Lib.hid (fun W => num_any k W (by omega) (by omega))
    have K2 := Lib.hid (fun W => text_any tok W (by omega))
    have K3 := Lib.hid (fun W => num_any (n : Int) W (by omega) (by omega))
    have HH : Bm.head ⟨k, tok, l⟩ = Dm.num k.toNat ++ (Dm.num tok.size ++ tok.data.toList) ++ Dm.num ((n : Int)).toNat := by
      unfold Bm.head; simp only [Int.toNat_natCast]; rw [Bm.ptx_eq, hlen]
    obtain ⟨S1, hS1⟩ : ∃ S : ByteArray, S = ⟨(Dm.num k.toNat).toArray⟩ := ⟨_, rfl⟩
    obtain ⟨S2, hS2⟩ : ∃ S : ByteArray, S = ⟨(Dm.num tok.size ++ tok.data.toList).toArray⟩ := ⟨_, rfl⟩
    obtain ⟨S3, hS3⟩ : ∃ S : ByteArray, S = ⟨(Dm.num ((n : Int)).toNat).toArray⟩ := ⟨_, rfl⟩
    rw [← hS1] at K1
    rw [← hS2] at K2
    rw [← hS3] at K3
    have HHd := Lib.hid (show Bm.head ⟨k, tok, l⟩ = S1.data.toList ++ S2.data.toList ++ S3.data.toList by rw [HH, hS1, hS2, hS3])
    have HSz := Lib.hid (show S1.size + S2.size + S3.size ≤ 79 by
      have := HHd.out
      rw [this, List.length_append, List.length_append] at hhl
      simp at hhl ⊢; omega)
    have e1 : (0 : Int) ≤ k := by omega
    have e2 : k ≤ 2 := by omega
    have e3 : (n : Int) ≤ 24 := by omega
    have HL := Lib.hid hlen
    clear hf hm hlen HH hS1 hS2 hS3 hhl hk ht hn24
    go_enter Try.func12, Try.ntmps12
    go_wp2_with fail
    refine (KM.out _ ((Q.refl _).alloc _)).mono ?_
    rintro e w1 ⟨rfl, q1⟩
    have X1 := Lib.hid ((Bx.new w [.int .i64 k, .string tok, .slice A n c] 24).q q1)
    have Q1 := Lib.hid (((Q.refl w).alloc _).trans q1)
    have hs1 : w.heap.size < w1.heap.size := by have := q1.size; simp at this; omega
    have B1 := Lib.hid (Bld.fresh w1)
    obtain ⟨⟨x0, x1, x2⟩, _⟩ := X1.out.get3
    clear q1
    go_wp2_with fail
    refine (K1.out _).mono ?_
    rintro e w2 ⟨rfl, q2⟩
    have Q2 := Lib.hid q2
    clear q2
    go_wp2_with fail
    refine (write_any w1.heap.size w1.heap.size [] S1 _ (B1.out.q Q2.out) (by have := HSz.out; simp; omega) (by have := Q2.out.size; simp at this; omega)).mono ?_
    rintro e w3 ⟨rfl, b3, be3, _⟩
    have B3 := Lib.hid b3
    have Q3 := Lib.hid (show Below w1.heap.size w1 w3 from (((Q.refl w1).alloc _).trans Q2.out).below.trans be3)
    clear b3 be3 Q2 B1 x0 x1 x2
    obtain ⟨⟨x0, x1, x2⟩, _⟩ := (X1.out.below Q3.out hs1).get3
    go_wp2_with fail
    refine (K2.out _).mono ?_
    rintro e w4 ⟨rfl, q4⟩
    have Q4 := Lib.hid q4
    clear q4
    go_wp2_with fail
    refine (write_any w1.heap.size w1.heap.size ([] ++ S1.data.toList) S2 _ (B3.out.q Q4.out) (by have := HSz.out; simp; omega) (by have h1 := Q3.out.size; have := Q4.out.size; omega)).mono ?_
    rintro e w5 ⟨rfl, b5, be5, _⟩
    have B5 := Lib.hid b5
    have Q5 := Lib.hid (show Below w1.heap.size w1 w5 from (Q3.out.trans (Q4.out.below.mono Q3.out.size)).trans be5)
    clear b5 be5 Q4 B3 Q3 x0 x1 x2
    obtain ⟨⟨x0, x1, x2⟩, _⟩ := (X1.out.below Q5.out hs1).get3
    go_wp2_with fail
    refine (K3.out _).mono ?_
    rintro e w6 ⟨rfl, q6⟩
    have Q6 := Lib.hid q6
    clear q6
    go_wp2_with fail
    refine (write_any w1.heap.size w1.heap.size ([] ++ S1.data.toList ++ S2.data.toList) S3 _ (B5.out.q Q6.out) (by have := HSz.out; simp; omega) (by have h1 := Q5.out.size; have := Q6.out.size; omega)).mono ?_
    rintro e w7 ⟨rfl, b7, be7, _⟩
    have B7 := Lib.hid (show Bld w1.heap.size w1.heap.size (Bm.head ⟨k, tok, l⟩ ++ Bm.flat (l.take 0)) w7 by rw [HHd.out]; simpa [Bm.flat] using b7)
    have Q7 := Lib.hid (show Below w1.heap.size w1 w7 from (Q5.out.trans (Q6.out.below.mono Q5.out.size)).trans be7)
    clear b7 be7 Q6 B5 Q5 x0 x1 x2
    obtain ⟨⟨x0, x1, x2⟩, _⟩ := (X1.out.below Q7.out hs1).get3
    clear HHd
    generalize Bm.head ⟨k, tok, l⟩ = hd at B7 HTot HR
    go_wp2
    go_loopw [28] (fun i wr => ∃ j : Nat, j ≤ n ∧ i = .int .i64 j ∧ Bld w1.heap.size w1.heap.size (hd ++ Bm.flat (l.take j)) wr ∧ Below w1.heap.size w1 wr) (fun i _ => n - (intOf i).toNat)
    case atStart => exact ⟨0, Nat.zero_le _, rfl, B7.out, Q7.out⟩
    case round =>
      obtain ⟨j, hj, rfl, b4, be4⟩ := hrel
      have B4 := Lib.hid b4
      have Q4 := Lib.hid (show Q w1 wr from be4)
      clear b4 be4 B7 Q7 x0 x1 x2
      by_cases hlt : j < n
      · have hjl : j < l.length := by have := HL.out; omega
        have hok := HOk.out l[j] (List.getElem_mem hjl)
        have hwn := Bm.wrong_not hok
        have h1l := Bm.one_len l[j] hok
        have ht0 := HTot.out j (by omega)
        have HS := Lib.hid (Bm.flat_snoc l hjl)
        obtain ⟨ad, rfl, hab, y0, y1, y2⟩ := load_write (HF.out.q (Q1.out.trans Q4.out)) hlt hjl
        have hjn : (j : Int) < (n : Int) := by omega
        generalize l[j] = x at y0 y1 y2 hok hwn HS h1l
        generalize hacc : hd ++ Bm.flat (l.take j) = acc at B4 ht0
        have HAcc := Lib.hid hacc
        clear hacc
        have KD := Lib.hid (fun W => bdeed_any x W)
        have hd1 : Bm.del x ≤ 1 := by unfold Bm.del; split <;> omega
        have KT0 := Lib.hid (fun W => num_any (Bm.del x : Nat) W (by omega) (by omega))
        have KT1 := Lib.hid (fun W => text_any x.key W (by omega))
        have KT2 := Lib.hid (fun W => text_any x.val W (by omega))
        have ho : Bm.one x = Dm.num ((Bm.del x : Nat) : Int).toNat ++ (Dm.num x.key.size ++ x.key.data.toList) ++ (Dm.num x.val.size ++ x.val.data.toList) := by
          unfold Bm.one; simp only [Int.toNat_natCast]; rw [Bm.ptx_eq, Bm.ptx_eq]
        obtain ⟨T0, hT0⟩ : ∃ S : ByteArray, S = ⟨(Dm.num ((Bm.del x : Nat) : Int).toNat).toArray⟩ := ⟨_, rfl⟩
        obtain ⟨T1, hT1⟩ : ∃ S : ByteArray, S = ⟨(Dm.num x.key.size ++ x.key.data.toList).toArray⟩ := ⟨_, rfl⟩
        obtain ⟨T2, hT2⟩ : ∃ S : ByteArray, S = ⟨(Dm.num x.val.size ++ x.val.data.toList).toArray⟩ := ⟨_, rfl⟩
        rw [← hT0] at KT0
        rw [← hT1] at KT1
        rw [← hT2] at KT2
        have HO := Lib.hid (show Bm.one x = T0.data.toList ++ T1.data.toList ++ T2.data.toList by rw [ho, hT0, hT1, hT2])
        have HZ := Lib.hid (show T0.size + T1.size + T2.size ≤ 159 by
          have := HO.out
          rw [this, List.length_append, List.length_append] at h1l
          simp at h1l ⊢; omega)
        have HT0 := Lib.hid ht0
        generalize Bm.del x = dx at KD KT0 hd1
        have hd0 : (0 : Int) ≤ (dx : Int) := by omega
        have hd2 : (dx : Int) ≤ 1 := by omega
        clear hok hwn h1l ht0 ho hT0 hT1 hT2
        go_wp2_with fail
        refine (KD.out _).mono ?_
        rintro e w3 ⟨rfl, q3⟩
        have Q5 := Lib.hid (((Q.refl wr).alloc (.cells #[.string x.key, .string x.val, .bool x.del] 63)).trans q3)
        have Y1 := Lib.hid (show w3.heap[wr.heap.size]? = some (.cells #[.string x.key, .string x.val, .bool x.del] 63 (0, 0)) from (q3.below.block _ (by simp)).trans (heap_alloc_new wr _))
        clear q3
        go_wp2_with fail
        refine (KT0.out _).mono ?_
        rintro e w4 ⟨rfl, q4⟩
        have Y2 := Lib.hid (show w4.heap[wr.heap.size]? = some (.cells #[.string x.key, .string x.val, .bool x.del] 63 (0, 0)) from (q4.below.block _ (heap_lt Y1.out)).trans Y1.out)
        have Q6 := Lib.hid (Q5.out.trans q4)
        clear q4 Q5 Y1
        go_wp2_with fail
        refine (write_any w1.heap.size w1.heap.size acc T0 _ (B4.out.q Q6.out) (by have := HT0.out; have := HZ.out; omega) (by have := Q4.out.size; have := Q6.out.size; omega)).mono ?_
        rintro e w5 ⟨rfl, b5, be5, k5⟩
        have B5 := Lib.hid b5
        have Q7 := Lib.hid (show Q w1 w5 from (Q4.out.trans Q6.out).below.trans be5)
        have Y3 := Lib.hid (k5 _ _ _ _ Y2.out (by decide) (by have := Q4.out.size; have := B4.out.lt; omega))
        have z0 : w5.cell? ⟨wr.heap.size, 0, none⟩ = some (.string x.key) := by rw [Lib.cell_of_heap Y3.out]; rfl
        clear b5 be5 k5 Y2 Q6
        go_wp2_with fail
        refine (KT1.out _).mono ?_
        rintro e w6 ⟨rfl, q6⟩
        have Y4 := Lib.hid (show w6.heap[wr.heap.size]? = some (.cells #[.string x.key, .string x.val, .bool x.del] 63 (0, 0)) from (q6.below.block _ (heap_lt Y3.out)).trans Y3.out)
        have Q8 := Lib.hid q6
        clear q6 Y3 z0
        go_wp2_with fail
        refine (write_any w1.heap.size w1.heap.size (acc ++ T0.data.toList) T1 _ (B5.out.q Q8.out) (by rw [List.length_append, Rn.size_data]; have := HT0.out; have := HZ.out; omega) (by have := Q7.out.size; have := Q8.out.size; omega)).mono ?_
        rintro e w7 ⟨rfl, b7, be7, k7⟩
        have B7 := Lib.hid b7
        have Q9 := Lib.hid (show Q w1 w7 from (Q7.out.trans Q8.out).below.trans be7)
        have Y5 := Lib.hid (k7 _ _ _ _ Y4.out (by decide) (by have := Q4.out.size; have := B4.out.lt; omega))
        have z1 : w7.cell? ⟨wr.heap.size, 1, none⟩ = some (.string x.val) := by rw [Lib.cell_of_heap Y5.out]; rfl
        clear b7 be7 k7 Y4 Q8 B5 Q7
        go_wp2_with fail
        refine (KT2.out _).mono ?_
        rintro e w8 ⟨rfl, q8⟩
        have Q10 := Lib.hid q8
        clear q8 Y5 z1
        go_wp2_with fail
        refine (write_any w1.heap.size w1.heap.size (acc ++ T0.data.toList ++ T1.data.toList) T2 _ (B7.out.q Q10.out) (by rw [List.length_append, List.length_append, Rn.size_data, Rn.size_data]; have := HT0.out; have := HZ.out; omega) (by have := Q9.out.size; have := Q10.out.size; omega)).mono ?_
        rintro e w9 ⟨rfl, b9, be9, _⟩
        have B9 := Lib.hid b9
        have Q11 := Lib.hid (show Below w1.heap.size w1 w9 from (Q9.out.trans Q10.out).below.trans be9)
        clear b9 be9 Q10 B7 Q9
        go_wp2
        go_roundw
        case rel => exact ⟨j + 1, by omega, by go_num, by rw [HS.out, ← List.append_assoc, HAcc.out, HO.out]; simpa using B9.out, Q11.out⟩
        case measure => simp [intOf]; omega
      · have hjn : j = n := by omega
        have HB := Lib.hid (show hd ++ Bm.flat (l.take j) = hd ++ Bm.flat l by rw [hjn, List.take_of_length_le (by have := HL.out; omega)])
        rw [HB.out] at B4
        clear hjn
        go_wp2_with fail
        refine (string_any w1.heap.size w1.heap.size (hd ++ Bm.flat l) _ B4.out Q4.out.size).mono ?_
        rintro e w5 ⟨rfl, be5⟩
        have Q5 := Lib.hid (show Q w1 w5 from Q4.out.below.trans be5)
        clear be5
        go_wp2_with fail
        go_ret2
        exact ⟨by rw [HR.out]; rfl, Q1.out.trans Q5.out⟩
end Go.Proofs.Ytlbjobbmjccekaa
