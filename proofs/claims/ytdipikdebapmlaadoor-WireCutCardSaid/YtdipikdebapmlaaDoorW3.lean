/- WiMay, Less, TableRef, TableRef2, WiMayP, WiMayO, Held, HeldL: merged. -/
import Derived.Test.YtdipikdebapmlaaDoorW2
import Derived.Deep.DeepCutAuto
import Derived.Test.YtdipikdebapmlaaDoorW1
import Derived.Laws.StructEq
import Derived.Deep.RegionHeld3
/- The contract of the document's MayReq (chapter 16). -/
namespace Go.Proofs.YtdipikdebapmlaaDoor
set_option maxRecDepth 100000
open Go.RowKit
set_option linter.unusedVariables false
set_option linter.unusedSimpArgs false
namespace Wi

@[go_sem high] theorem run_eql_op0 (w : World) (k m : Int) (a b c d : ByteArray) :
    (binOp .eql 23 (.agg #[.int .i64 k, .string a, .string b, .string c, .string d, .int .i64 m]) (.agg #[.int .i64 0, .string ⟨#[]⟩, .string ⟨#[]⟩, .string ⟨#[]⟩, .string ⟨#[]⟩, .int .i64 0])).run Tryd.prog w = .ok (.bool (decide ((⟨k, a, b, c, d, m⟩ : Op) = op0))) w := by
  rw [run_eql_struct, show (10000 : Nat) = 9999 + 1 from rfl, run_equalIn_agg _ _ _ _ _ (by kernel_rfl) (by kernel_rfl)]
  simp only [Program.fieldsOf, Tryd.underlying23]
  have f0 : Tryd.prog.underlying 3 = some (.int .i64) := by kernel_rfl
  have f1 : Tryd.prog.underlying 9 = some .string := by kernel_rfl
  have e : decide ((⟨k, a, b, c, d, m⟩ : Op) = op0) = (decide (k = 0) && (a.toList == (⟨#[]⟩ : ByteArray).toList) && (b.toList == (⟨#[]⟩ : ByteArray).toList) && (c.toList == (⟨#[]⟩ : ByteArray).toList) && (d.toList == (⟨#[]⟩ : ByteArray).toList) && decide (m = 0)) := by
    rw [same_str, same_str, same_str, same_str, Bool.eq_iff_iff]
    unfold op0
    simp only [Op.mk.injEq, Bool.and_eq_true, decide_eq_true_eq]
    constructor
    · rintro ⟨h1, h2, h3, h4, h5, h6⟩; exact ⟨⟨⟨⟨⟨h1, h2⟩, h3⟩, h4⟩, h5⟩, h6⟩
    · rintro ⟨⟨⟨⟨⟨h1, h2⟩, h3⟩, h4⟩, h5⟩, h6⟩; exact ⟨h1, h2, h3, h4, h5, h6⟩
  rw [e]
  simp [Op.eqFields, go_sem, run_equalIn_int (h := f0), run_equalIn_string (h := f1)]
  by_cases h0 : k = 0 <;> by_cases h5 : m = 0 <;> cases h1 : (a.toList == (⟨#[]⟩ : ByteArray).toList) <;> cases h2 : (b.toList == (⟨#[]⟩ : ByteArray).toList) <;> cases h3 : (c.toList == (⟨#[]⟩ : ByteArray).toList) <;> cases h4 : (d.toList == (⟨#[]⟩ : ByteArray).toList) <;> simp_all
set_option maxHeartbeats 4000000 in
theorem wmay_any (q : Rq) (w : World) : Calls Tryd.prog 14 #[rqV q] w fun e w' => e = .returned (.bool (may q)) ∧ Q w w' := by
  have K := Lib.hid (fun n W => wsmall_any n W)
  obtain ⟨k, e, s, n, t, ⟨ok, ky, vl, lo, hi, m⟩⟩ := q
  have hmay : may ⟨k, e, s, n, t, ⟨ok, ky, vl, lo, hi, m⟩⟩ = (if k < 1 ∨ 6 < k ∨ ¬(small e = true ∧ small s = true) ∨ ¬(small n = true ∧ small m = true) ∨ 16 < t.size then false
    else if k ≠ 4 ∧ k ≠ 6 ∧ 0 < t.size then false
    else if k ≠ 5 then decide ((⟨ok, ky, vl, lo, hi, m⟩ : Op) = op0)
    else mayOp ⟨ok, ky, vl, lo, hi, m⟩) := rfl
  rw [hmay]
  have hmo : mayOp ⟨ok, ky, vl, lo, hi, m⟩ = (decide (1 ≤ ok) && decide (ok ≤ 6) && decide (ky.size ≤ 32) && decide (lo.size ≤ 32) && decide (hi.size ≤ 32) && decide (vl.size ≤ 64)) := rfl
  have X := Lib.hid (And.intro (Bx.new w [.int .i64 k, .int .i64 e, .int .i64 s, .int .i64 n, .string t, .int .i64 ok, .string ky, .string vl, .string lo, .string hi, .int .i64 m] 25) ((Q.refl w).alloc (.cells #[.int .i64 k, .int .i64 e, .int .i64 s, .int .i64 n, .string t, .int .i64 ok, .string ky, .string vl, .string lo, .string hi, .int .i64 m] 25)))
  have HMO := Lib.hid hmo
  clear hmay hmo
  show Calls _ _ #[.agg #[.int .i64 k, .int .i64 e, .int .i64 s, .int .i64 n, .string t, .int .i64 ok, .string ky, .string vl, .string lo, .string hi, .int .i64 m]] _ _
  generalize hr : (if k < 1 ∨ 6 < k ∨ ¬(small e = true ∧ small s = true) ∨ ¬(small n = true ∧ small m = true) ∨ 16 < t.size then false
    else if k ≠ 4 ∧ k ≠ 6 ∧ 0 < t.size then false
    else if k ≠ 5 then decide ((⟨ok, ky, vl, lo, hi, m⟩ : Op) = op0)
    else mayOp ⟨ok, ky, vl, lo, hi, m⟩) = res
  have HR := Lib.hid hr.symm
  clear hr
  go_enter Tryd.func14, Tryd.ntmps14
  go_upto_region 1 with (fail)
  change Hid (Bx (w.alloc (.cells #[.int .i64 k, .int .i64 e, .int .i64 s, .int .i64 n, .string t, .int .i64 ok, .string ky, .string vl, .string lo, .string hi, .int .i64 m] 25)) _ _ ∧ Q w (w.alloc (.cells #[.int .i64 k, .int .i64 e, .int .i64 s, .int .i64 n, .string t, .int .i64 ok, .string ky, .string vl, .string lo, .string hi, .int .i64 m] 25))) at X
  generalize w.alloc (.cells #[.int .i64 k, .int .i64 e, .int .i64 s, .int .i64 n, .string t, .int .i64 ok, .string ky, .string vl, .string lo, .string hi, .int .i64 m] 25) = W0 at X ⊢
  have x0 := (X.out.1 0 _ rfl).1
  have x1 := (X.out.1 1 _ rfl).1
  have x2 := (X.out.1 2 _ rfl).1
  have x3 := (X.out.1 3 _ rfl).1
  have x4 := (X.out.1 4 _ rfl).1
  have x5 := (X.out.1 5 _ rfl).1
  have x6 := (X.out.1 6 _ rfl).1
  have x7 := (X.out.1 7 _ rfl).1
  have x8 := (X.out.1 8 _ rfl).1
  have x9 := (X.out.1 9 _ rfl).1
  have x10 := (X.out.1 10 _ rfl).1
  go_cut [3] (fun s3 wx => s3 = .bool (small e && small s) ∧ Q W0 wx)
  case first =>
    cases h1 : small e with
    | false =>
      have K1 := Lib.hid (fun W => h1 ▸ K.out e W)
      go_wp2_with fail
      refine (K1.out _).mono ?_
      rintro e1 w1 ⟨rfl, q1⟩
      go_wp2_with fail
      go_meet
      exact ⟨by rw [h1]; rfl, q1⟩
    | true =>
      have K1 := Lib.hid (fun W => h1 ▸ K.out e W)
      cases h2 : small s with
      | false =>
        have K2 := Lib.hid (fun W => h2 ▸ K.out s W)
        go_wp2_with fail
        refine (K1.out _).mono ?_
        rintro e1 w1 ⟨rfl, q1⟩
        have X1 := Lib.hid (X.out.1.q q1)
        have y := (X1.out 2 _ rfl).1
        go_wp2_with fail
        refine (K2.out _).mono ?_
        rintro e2 w2 ⟨rfl, q2⟩
        go_wp2_with fail
        go_meet
        exact ⟨by rw [h1, h2]; rfl, q1.trans q2⟩
      | true =>
        have K2 := Lib.hid (fun W => h2 ▸ K.out s W)
        go_wp2_with fail
        refine (K1.out _).mono ?_
        rintro e1 w1 ⟨rfl, q1⟩
        have X1 := Lib.hid (X.out.1.q q1)
        have y := (X1.out 2 _ rfl).1
        go_wp2_with fail
        refine (K2.out _).mono ?_
        rintro e2 w2 ⟨rfl, q2⟩
        go_wp2_with fail
        go_meet
        exact ⟨by rw [h1, h2]; rfl, q1.trans q2⟩
  case rest =>
  obtain ⟨rfl, qc⟩ := hcut
  have X := Lib.hid (And.intro (X.out.1.q qc) (X.out.2.trans qc))
  clear qc x0 x1 x2 x3 x4 x5 x6 x7 x8 x9 x10
  generalize wc = W0 at X ⊢
  have x0 := (X.out.1 0 _ rfl).1
  have x1 := (X.out.1 1 _ rfl).1
  have x2 := (X.out.1 2 _ rfl).1
  have x3 := (X.out.1 3 _ rfl).1
  have x4 := (X.out.1 4 _ rfl).1
  have x5 := (X.out.1 5 _ rfl).1
  have x6 := (X.out.1 6 _ rfl).1
  have x7 := (X.out.1 7 _ rfl).1
  have x8 := (X.out.1 8 _ rfl).1
  have x9 := (X.out.1 9 _ rfl).1
  have x10 := (X.out.1 10 _ rfl).1
  go_upto_region 2 with (fail)
  go_cut [4] (fun s4 wx => s4 = .bool (small n && small m) ∧ Q W0 wx)
  case first =>
    cases h1 : small n with
    | false =>
      have K1 := Lib.hid (fun W => h1 ▸ K.out n W)
      go_wp2_with fail
      refine (K1.out _).mono ?_
      rintro e1 w1 ⟨rfl, q1⟩
      go_wp2_with fail
      go_meet
      exact ⟨by rw [h1]; rfl, q1⟩
    | true =>
      have K1 := Lib.hid (fun W => h1 ▸ K.out n W)
      cases h2 : small m with
      | false =>
        have K2 := Lib.hid (fun W => h2 ▸ K.out m W)
        go_wp2_with fail
        refine (K1.out _).mono ?_
        rintro e1 w1 ⟨rfl, q1⟩
        have X1 := Lib.hid (X.out.1.q q1)
        have y := (X1.out 10 _ rfl).1
        go_wp2_with fail
        refine (K2.out _).mono ?_
        rintro e2 w2 ⟨rfl, q2⟩
        go_wp2_with fail
        go_meet
        exact ⟨by rw [h1, h2]; rfl, q1.trans q2⟩
      | true =>
        have K2 := Lib.hid (fun W => h2 ▸ K.out m W)
        go_wp2_with fail
        refine (K1.out _).mono ?_
        rintro e1 w1 ⟨rfl, q1⟩
        have X1 := Lib.hid (X.out.1.q q1)
        have y := (X1.out 10 _ rfl).1
        go_wp2_with fail
        refine (K2.out _).mono ?_
        rintro e2 w2 ⟨rfl, q2⟩
        go_wp2_with fail
        go_meet
        exact ⟨by rw [h1, h2]; rfl, q1.trans q2⟩
  case rest =>
  obtain ⟨rfl, qc⟩ := hcut
  have X := Lib.hid (And.intro (X.out.1.q qc) (X.out.2.trans qc))
  clear qc x0 x1 x2 x3 x4 x5 x6 x7 x8 x9 x10
  generalize wc = W0 at X ⊢
  have x0 := (X.out.1 0 _ rfl).1
  have x1 := (X.out.1 1 _ rfl).1
  have x2 := (X.out.1 2 _ rfl).1
  have x3 := (X.out.1 3 _ rfl).1
  have x4 := (X.out.1 4 _ rfl).1
  have x5 := (X.out.1 5 _ rfl).1
  have x6 := (X.out.1 6 _ rfl).1
  have x7 := (X.out.1 7 _ rfl).1
  have x8 := (X.out.1 8 _ rfl).1
  have x9 := (X.out.1 9 _ rfl).1
  have x10 := (X.out.1 10 _ rfl).1
  generalize hg1 : (small e && small s) = b1 at *
  generalize hg2 : (small n && small m) = b2 at *
  have G1 : b1 = true ↔ (small e = true ∧ small s = true) := by rw [← hg1]; simp
  have G2 : b2 = true ↔ (small n = true ∧ small m = true) := by rw [← hg2]; simp
  have GG := Lib.hid (And.intro G1 G2)
  clear hg1 hg2 G1 G2 K
  by_cases c1 : k < 1
  · have HM : Hid (res = false) := Lib.hid (by rw [HR.out, if_pos (.inl c1)])
    go_wp2
    go_ret
    exact ⟨by rw [HM.out]; rfl, X.out.2⟩
  by_cases c2 : 6 < k
  · have HM : Hid (res = false) := Lib.hid (by rw [HR.out, if_pos (.inr (.inl c2))])
    go_wp2
    go_ret
    exact ⟨by rw [HM.out]; rfl, X.out.2⟩
  cases b1 with
  | false =>
    have HM : Hid (res = false) := Lib.hid (by rw [HR.out, if_pos (.inr (.inr (.inl (fun h => by simpa using GG.out.1.2 h))))])
    go_wp2
    go_ret
    exact ⟨by rw [HM.out]; rfl, X.out.2⟩
  | true =>
  cases b2 with
  | false =>
    have HM : Hid (res = false) := Lib.hid (by rw [HR.out, if_pos (.inr (.inr (.inr (.inl (fun h => by simpa using GG.out.2.2 h)))))])
    go_wp2
    go_ret
    exact ⟨by rw [HM.out]; rfl, X.out.2⟩
  | true =>
  by_cases c5 : 16 < t.size
  · have HM : Hid (res = false) := Lib.hid (by rw [HR.out, if_pos (.inr (.inr (.inr (.inr c5))))])
    have c5i : (16 : Int) < (t.size : Int) := by omega
    go_wp2
    go_ret
    exact ⟨by rw [HM.out]; rfl, X.out.2⟩
  have c5i : ¬ (16 : Int) < (t.size : Int) := by omega
  have HR2 : Hid (res = (if k ≠ 4 ∧ k ≠ 6 ∧ 0 < t.size then false else if k ≠ 5 then decide ((⟨ok, ky, vl, lo, hi, m⟩ : Op) = op0) else mayOp ⟨ok, ky, vl, lo, hi, m⟩)) := Lib.hid (by
    rw [HR.out, if_neg (by rintro (h | h | h | h | h); exact c1 h; exact c2 h; exact h (GG.out.1.1 rfl); exact h (GG.out.2.1 rfl); exact c5 h)])
  have d1 : ¬ k < 1 := c1
  have d2 : ¬ 6 < k := c2
  clear HR
  by_cases c6 : k ≠ 4 ∧ k ≠ 6 ∧ 0 < t.size
  · have HM : Hid (res = false) := Lib.hid (by rw [HR2.out, if_pos c6])
    obtain ⟨c7, c8, c9⟩ := c6
    have c9i : (0 : Int) < (t.size : Int) := by omega
    have c7b : (k != 4) = true := by simpa using c7
    have c8b : (k != 6) = true := by simpa using c8
    go_wp2
    go_ret
    exact ⟨by rw [HM.out]; rfl, X.out.2⟩
  have HR3 : Hid (res = (if k ≠ 5 then decide ((⟨ok, ky, vl, lo, hi, m⟩ : Op) = op0) else mayOp ⟨ok, ky, vl, lo, hi, m⟩)) := Lib.hid (by rw [HR2.out, if_neg c6])
  clear HR2
  go_upto_region 5 with (fail)
  go_cut [57] (fun s57 wx => s57 = .bool false ∧ W0 = wx)
  case first =>
    by_cases c7 : k = 4
    · subst c7
      go_wp2_with fail
      go_meet
      exact ⟨rfl, rfl⟩
    by_cases c8 : k = 6
    · subst c8
      go_wp2_with fail
      go_meet
      exact ⟨rfl, rfl⟩
    have c9 : ¬ 0 < t.size := fun h => c6 ⟨c7, c8, h⟩
    have c9i : ¬ (0 : Int) < (t.size : Int) := by omega
    have c7b : (k != 4) = true := by simpa using c7
    have c8b : (k != 6) = true := by simpa using c8
    go_wp2_with fail
    go_meet
    exact ⟨rfl, rfl⟩
  case rest =>
  obtain ⟨rfl, rfl⟩ := hcut
  by_cases c10 : k = 5
  case neg =>
    have HM : Hid (res = decide ((⟨ok, ky, vl, lo, hi, m⟩ : Op) = op0)) := Lib.hid (by rw [HR3.out, if_pos c10])
    have c10b : (k != 5) = true := by simpa using c10
    go_wp2
    go_ret
    exact ⟨by rw [HM.out]; rfl, X.out.2⟩
  have HM0 : Hid (res = (decide (1 ≤ ok) && decide (ok ≤ 6) && decide (ky.size ≤ 32) && decide (lo.size ≤ 32) && decide (hi.size ≤ 32) && decide (vl.size ≤ 64))) := Lib.hid (by rw [HR3.out, if_neg (by simpa using c10), HMO.out])
  clear HR3 HMO c6 d1 d2 c1 c2 c5 c5i
  subst c10
  by_cases a1 : 1 ≤ ok
  case neg =>
    have HM : Hid (res = false) := Lib.hid (by rw [HM0.out]; simp [a1])
    go_wp2
    go_ret
    exact ⟨by rw [HM.out]; rfl, X.out.2⟩
  by_cases a2 : ok ≤ 6
  case neg =>
    have HM : Hid (res = false) := Lib.hid (by rw [HM0.out]; simp [a2])
    go_wp2
    go_ret
    exact ⟨by rw [HM.out]; rfl, X.out.2⟩
  by_cases a3 : ky.size ≤ 32
  case neg =>
    have HM : Hid (res = false) := Lib.hid (by rw [HM0.out]; simp [a3])
    have a3i : ¬ (ky.size : Int) ≤ 32 := by omega
    go_wp2
    go_ret
    exact ⟨by rw [HM.out]; rfl, X.out.2⟩
  have a3i : (ky.size : Int) ≤ 32 := by omega
  by_cases a4 : lo.size ≤ 32
  case neg =>
    have HM : Hid (res = false) := Lib.hid (by rw [HM0.out]; simp [a4])
    have a4i : ¬ (lo.size : Int) ≤ 32 := by omega
    go_wp2
    go_ret
    exact ⟨by rw [HM.out]; rfl, X.out.2⟩
  have a4i : (lo.size : Int) ≤ 32 := by omega
  by_cases a5 : hi.size ≤ 32
  case neg =>
    have HM : Hid (res = false) := Lib.hid (by rw [HM0.out]; simp [a5])
    have a5i : ¬ (hi.size : Int) ≤ 32 := by omega
    go_wp2
    go_ret
    exact ⟨by rw [HM.out]; rfl, X.out.2⟩
  have a5i : (hi.size : Int) ≤ 32 := by omega
  by_cases a6 : vl.size ≤ 64
  · have HM : Hid (res = true) := Lib.hid (by rw [HM0.out]; simp [a1, a2, a3, a4, a5, a6])
    have a6i : (vl.size : Int) ≤ 64 := by omega
    go_wp2
    go_ret
    exact ⟨by rw [HM.out]; rfl, X.out.2⟩
  · have HM : Hid (res = false) := Lib.hid (by rw [HM0.out]; simp [a6])
    have a6i : ¬ (vl.size : Int) ≤ 64 := by omega
    go_wp2
    go_ret
    exact ⟨by rw [HM.out]; rfl, X.out.2⟩
end Wi
end Go.Proofs.YtdipikdebapmlaaDoor

/- Contract: the document's order of texts. -/
namespace Go.Proofs.YtdipikdebapmlaaDoor
set_option maxRecDepth 100000
open Go.RowKit Prm
set_option linter.unusedVariables false
set_option linter.unusedSimpArgs false

theorem less_ne {a b : UInt8} (x y : List UInt8) (h : a ≠ b) : Op.bytesLess (a :: x) (b :: y) = decide (a.toNat < b.toNat) := by
  simp only [Op.bytesLess]
  rw [show (a == b) = false by simpa using h, Bool.false_and, Bool.or_false]
  rfl
theorem less_same (a : UInt8) (x y : List UInt8) : Op.bytesLess (a :: x) (a :: y) = Op.bytesLess x y := by
  simp [Op.bytesLess]
theorem ldrop_at (s : ByteArray) (k : Nat) (h : k < s.size) : s.data.toList.drop k = s[k] :: s.data.toList.drop (k + 1) := by
  rw [List.drop_eq_getElem_cons (by simpa using h)]; rfl
theorem drop_no (s : ByteArray) (k : Nat) (h : s.size ≤ k) : s.data.toList.drop k = [] := List.drop_of_length_le (by simpa using h)

set_option maxHeartbeats 2000000 in
theorem less_any (s t : ByteArray) (w : World) (hs : s.size ≤ maxLen) (ht : t.size ≤ maxLen) :
    Calls Tryd.prog 75 #[.string s, .string t] w fun e w' => e = .returned (.bool (lt s t)) ∧ ∃ n, w' = w.drewN n := by
  unfold maxLen at hs ht
  go_enter Tryd.func75, Tryd.ntmps75
  go_wp2
  go_loopw [5] (fun i wr => ∃ k : Nat, k ≤ s.size ∧ k ≤ t.size ∧ i = .int .i64 k ∧ (∃ n, wr = w.drewN n) ∧ lt s t = Op.bytesLess (s.data.toList.drop k) (t.data.toList.drop k)) (fun i _ => s.size - (intOf i).toNat)
  case atStart => exact ⟨0, Nat.zero_le _, Nat.zero_le _, rfl, ⟨0, rfl⟩, rfl⟩
  case round =>
    obtain ⟨k, hks, hkt, rfl, ⟨q, rfl⟩, hl⟩ := hrel
    have HL := Lib.hid hl
    clear hl
    by_cases h1 : k < s.size
    · by_cases h2 : k < t.size
      · have i1 : (k : Int) < (s.size : Int) := by omega
        have i2 : (k : Int) < (t.size : Int) := by omega
        by_cases hh : s[k] = t[k]
        · have hn : s[k].toNat = t[k].toNat := by rw [hh]
          have b1 : (s[k].toNat == t[k].toNat) = true := by simpa using hn
          have b2 : (s[k].toNat != t[k].toNat) = false := by simpa using hn
          have HS := Lib.hid (show lt s t = Op.bytesLess (s.data.toList.drop (k + 1)) (t.data.toList.drop (k + 1)) by rw [HL.out, ldrop_at s k h1, ldrop_at t k h2, hh, less_same])
          clear hh hn
          go_wp2
          go_quiet (fail)
          all_goals
            go_wp2
            go_roundw
            case rel => exact ⟨k + 1, by omega, by omega, by go_num, ⟨_, rfl⟩, HS.out⟩
            case measure => simp [intOf]; omega
        · have hn : s[k].toNat ≠ t[k].toNat := fun e => hh (UInt8.toNat_inj.1 e)
          have b1 : (s[k].toNat == t[k].toNat) = false := by simpa using hn
          have b2 : (s[k].toNat != t[k].toNat) = true := by simpa using hn
          have HS := Lib.hid (show lt s t = decide (s[k].toNat < t[k].toNat) by rw [HL.out, ldrop_at s k h1, ldrop_at t k h2, less_ne _ _ hh])
          clear hh hn
          go_wp2
          go_quiet (fail)
          all_goals
            go_wp2
            go_quiet (fail)
            all_goals
              go_wp2
              go_ret
              exact ⟨ret_bool (by rw [HS.out]; first | done | rfl | (simp; done) | (simp; omega)), by first | exact ⟨_, rfl⟩ | exact ⟨_, by rw [World.drewN_drewN]⟩ | exact ⟨_, by rw [World.drewN_drewN, World.drewN_drewN]⟩⟩
      · have HS := Lib.hid (show lt s t = false by rw [HL.out, drop_no t k (by omega)]; cases s.data.toList.drop k <;> rfl)
        have i1 : (k : Int) < (s.size : Int) := by omega
        have e3 : k = t.size := by omega
        subst e3
        go_wp2
        go_ret
        exact ⟨ret_bool (by rw [HS.out]; first | done | rfl | (simp; done) | (simp; omega)), by first | exact ⟨_, rfl⟩ | exact ⟨_, by rw [World.drewN_drewN]⟩ | exact ⟨_, by rw [World.drewN_drewN, World.drewN_drewN]⟩⟩
    · have e3 : k = s.size := by omega
      subst e3
      have HS := Lib.hid (show lt s t = decide (s.size < t.size) by
        rw [HL.out, drop_no s _ (Nat.le_refl _)]
        by_cases h2 : s.size < t.size
        · rw [ldrop_at t s.size h2, decide_eq_true h2]; rfl
        · rw [drop_no t _ (by omega), decide_eq_false h2]; rfl)
      go_wp2
      go_ret
      exact ⟨ret_bool (by rw [HS.out]; first | done | rfl | (simp; done) | (simp; omega)), by first | exact ⟨_, rfl⟩ | exact ⟨_, by rw [World.drewN_drewN]⟩ | exact ⟨_, by rw [World.drewN_drewN, World.drewN_drewN]⟩⟩
end Go.Proofs.YtdipikdebapmlaaDoor

/- Contracts: the document's answer for pairs: Same, Between, Right, Find, Drop, Range. -/
namespace Go.Proofs.YtdipikdebapmlaaDoor
set_option maxRecDepth 100000
open Go.RowKit Prm
set_option linter.unusedVariables false
set_option linter.unusedSimpArgs false

theorem neq_pair (W : World) (f g : Pr) : (binOp .neq 70 f.v g.v).run Tryd.prog W = .ok (.bool (!decide (f = g))) W := by
  have u := Tryd.underlying9
  have hS : Tryd.prog.underlying 70 = some (.struct (Tryd.prog.fieldsOf 70)) := by kernel_rfl
  have hp : Tryd.prog.stoodInHeld 70 = false := by kernel_rfl
  have a3 := Tryd.isAgg9
  have z3 := Tryd.sizeOf9
  obtain ⟨a, b⟩ := f
  obtain ⟨a', b'⟩ := g
  rw [run_neq_struct, show (10000 : Nat) = 9999 + 1 from rfl, run_equalIn_agg W 9999 _ _ _ hS hp]
  simp only [Program.fieldsOf, Tryd.underlying70]
  go_simp
  simp only [str_inj]
  by_cases h1 : a = a' <;> by_cases h2 : b = b' <;> simp [h1, h2]

set_option maxHeartbeats 1000000 in
theorem refSame_any (A B : Option Addr) (n c m d : Nat) (l l2 : List Pr) (w : World) (h1 : Lst pairK w A n l) (h2 : Lst pairK w B m l2) (hn : n ≤ maxLen) (hm : m ≤ maxLen) :
    Calls Tryd.prog 38 #[.slice A n c, .slice B m d] w fun e w' => e = .returned (.bool (decide (l = l2))) ∧ Q w w' := by
  unfold maxLen at hn hm
  have H1 := Lib.hid h1
  have H2 := Lib.hid h2
  have L1 := Lib.hid h1.len
  have L2 := Lib.hid h2.len
  clear h1 h2
  by_cases hnm : n = m
  · subst hnm
    go_enter Tryd.func38, Tryd.ntmps38
    go_wp2
    go_loopw [5] (fun i wr => ∃ k : Nat, k ≤ n ∧ i = .int .i64 k ∧ Q w wr ∧ l.take k = l2.take k) (fun i _ => n - (intOf i).toNat)
    case atStart => exact ⟨0, Nat.zero_le _, rfl, Q.refl _, by simp⟩
    case round =>
      obtain ⟨k, hk, rfl, hq, ht⟩ := hrel
      have HT := Lib.hid ht
      clear ht
      by_cases hlt : k < n
      · have k1 : k < l.length := by have := L1.out; omega
        have k2 : k < l2.length := by have := L2.out; omega
        obtain ⟨ad, rfl, hb, c0, c1⟩ := load_pair (H1.out.q hq) hlt k1
        obtain ⟨ae, rfl, he, d0, d1⟩ := load_pair (H2.out.q hq) hlt k2
        have hne := fun W => neq_pair W l[k] l2[k]
        have hkn : (k : Int) < (n : Int) := by omega
        by_cases heq : l[k] = l2[k]
        · have hd : decide (l[k] = l2[k]) = true := by simpa using heq
          have HE := Lib.hid heq
          clear heq
          go_wp2
          go_quiet (fail)
          go_wp2
          go_roundw
          case rel => exact ⟨k + 1, by omega, by go_num, hq.drewN _, by rw [List.take_succ_eq_append_getElem k1, List.take_succ_eq_append_getElem k2, HT.out, HE.out]⟩
          case measure => simp [intOf]; omega
        · have hd : decide (l[k] = l2[k]) = false := by simpa using heq
          have HE := Lib.hid heq
          clear heq
          go_wp2
          go_quiet (fail)
          go_wp2
          go_ret
          exact ⟨ret_bool (by symm; simp only [decide_eq_false_iff_not]; rintro rfl; exact HE.out rfl), hq.drewN _⟩
      · go_wp2
        go_ret
        exact ⟨ret_bool (by symm; simp only [decide_eq_true_eq]; have h1 := HT.out; rwa [List.take_of_length_le (by have := L1.out; omega), List.take_of_length_le (by have := L2.out; omega)] at h1), hq⟩
  · have n1 : ((n : Int) != (m : Int)) = true := by simp; omega
    have n2 : (n != m) = true := by simp; omega
    have n3 : (n == m) = false := by simp; omega
    have n4 : ((n : Int) == (m : Int)) = false := by simp; omega
    have n5 : ¬ (n : Int) = m := by omega
    have HN := Lib.hid hnm
    go_enter Tryd.func38, Tryd.ntmps38
    go_wp2
    go_ret
    exact ⟨ret_bool (by symm; simp only [decide_eq_false_iff_not]; rintro rfl; exact HN.out (L1.out.symm.trans L2.out)), Q.refl _⟩

end Go.Proofs.YtdipikdebapmlaaDoor

/- Contracts: the document's answer for pairs: Right, Range, Put, Apply. -/
namespace Go.Proofs.YtdipikdebapmlaaDoor
set_option maxRecDepth 100000
open Go.RowKit Prm
set_option linter.unusedVariables false
set_option linter.unusedSimpArgs false

/-- the sizes of a list's keys. -/
def KeysIn (l : List Pr) : Prop := ∀ p ∈ l, p.key.size ≤ maxLen
theorem KeysIn.at_ {l : List Pr} (h : KeysIn l) {k : Nat} (hk : k < l.length) : l[k].key.size ≤ maxLen := h _ (List.getElem_mem hk)

set_option maxHeartbeats 2000000 in
theorem refRight_any (A : Option Addr) (n c : Nat) (l : List Pr) (w : World) (hd : Lst pairK w A n l) (hmx : n ≤ maxLen) (hs : KeysIn l) :
    Calls Tryd.prog 56 #[.slice A n c] w fun e w' => e = .returned (.bool (right l)) ∧ Q w w' := by
  have HD := Lib.hid hd
  have HL := Lib.hid hd.len
  have HS := Lib.hid hs
  unfold maxLen at hmx
  clear hd hs
  go_enter Tryd.func56, Tryd.ntmps56
  go_wp2
  go_loopw [3] (fun i wr => ∃ k : Nat, k ≤ n ∧ i = .int .i64 ((k : Int) + 1) ∧ Q w wr ∧ ∀ j, ∀ h : j + 1 < l.length, j < k → lt (l[j]'(by omega)).key l[j + 1].key = true) (fun i _ => n + 1 - (intOf i).toNat)
  case atStart => exact ⟨0, Nat.zero_le _, by go_num, Q.refl _, fun j _ h => by omega⟩
  case round =>
    obtain ⟨k, hk, rfl, q, hall⟩ := hrel
    have HA := Lib.hid hall
    have HQ := Lib.hid q
    clear hall q
    by_cases hlt : k + 1 < n
    · have hkl : k + 1 < l.length := by have := HL.out; omega
      have hkl0 : k < l.length := by omega
      obtain ⟨ad, rfl, hab, x0, x1⟩ := load_pair (HD.out.q HQ.out) (Nat.lt_of_succ_lt hlt) hkl0
      obtain ⟨ad', e, hab', y0, y1⟩ := load_pair (HD.out.q HQ.out) hlt hkl
      injection e with e
      subst e
      have e1 : IntKind.i64.wrap ((k : Int) + 1 - 1) = k := by rw [IntKind.wrap_i64]; omega
      have e2 : ((k : Int) + 1).toNat = k + 1 := by omega
      have e3 : (k : Int) + 1 < (n : Int) := by omega
      have e4 : (k : Int) < (n : Int) := by omega
      have e5 : (0 : Int) ≤ (k : Int) + 1 := by omega
      have K1 := Lib.hid (fun W => less_any l[k].key l[k + 1].key W (HS.out.at_ hkl0) (HS.out.at_ hkl))
      by_cases hh : lt l[k].key l[k + 1].key = true
      · have HN := Lib.hid (fun (j : Nat) (h : j + 1 < l.length) (hj : j < k + 1) => show lt (l[j]'(by omega)).key l[j + 1].key = true from by
          by_cases e : j < k
          · exact HA.out j h e
          · have e : j = k := by omega
            subst e
            exact hh)
        rw [hh] at K1
        clear hh x1 y1
        generalize l[k].key = a at x0 K1
        generalize l[k + 1].key = b at y0 K1
        go_wp2
        go_quiet ((go_at_call 75; exact Calls.quiet_of (K1.out _)))
        all_goals
          go_wp2
          go_roundw
          case rel => exact ⟨k + 1, by omega, by go_num, HQ.out.drewN _, HN.out⟩
          case measure => simp [intOf]; omega
      · have hh' : lt l[k].key l[k + 1].key = false := by simpa using hh
        have HE := Lib.hid (right_not hkl hh')
        rw [hh'] at K1
        clear hh hh' x1 y1
        generalize l[k].key = a at x0 K1
        generalize l[k + 1].key = b at y0 K1
        go_wp2
        go_quiet ((go_at_call 75; exact Calls.quiet_of (K1.out _)))
        all_goals
          go_wp2
          go_ret
          exact ⟨by rw [HE.out]; rfl, HQ.out.drewN _⟩
    · have HE := Lib.hid (show right l = true from right_all fun i hi => HA.out i hi (by have := HL.out; omega))
      have e3 : ¬ ((k : Int) + 1 < (n : Int)) := by omega
      go_wp2
      go_ret
      exact ⟨by rw [HE.out]; rfl, HQ.out⟩

end Go.Proofs.YtdipikdebapmlaaDoor

/- The contracts of the document's mayReply, flag (chapter 16). -/
namespace Go.Proofs.YtdipikdebapmlaaDoor
set_option maxRecDepth 100000
open Go.RowKit Prm
set_option linter.unusedVariables false
set_option linter.unusedSimpArgs false
namespace Wi

abbrev rpL (p : Rp) (A : Option Addr) (N c : Nat) : List Value := [.int .i64 p.epoch, .int .i64 p.sess, .int .i64 p.seq, .int .i64 p.err, .string p.val, .bool p.found, .slice A N c, .bool p.over]
abbrev rpV (p : Rp) (A : Option Addr) (N c : Nat) : Value := .agg (rpL p A N c).toArray
theorem num0 : Dm.num 0 = [48, 59] := by unfold Dm.num Dm.dg; rfl
theorem num1 : Dm.num 1 = [49, 59] := by unfold Dm.num Dm.dg; rfl
theorem wflag_any (b : Bool) (w : World) : Calls Tryd.prog 36 #[.bool b] w fun e w' => e = .returned (.string (ba (Dm.num (fl b)))) ∧ Q w w' := by
  have h1 : ba (Dm.num (fl true)) = ⟨#[49, 59]⟩ := by show (⟨(Dm.num 1).toArray⟩ : ByteArray) = _; rw [num1]
  have h0 : ba (Dm.num (fl false)) = ⟨#[48, 59]⟩ := by show (⟨(Dm.num 0).toArray⟩ : ByteArray) = _; rw [num0]
  cases b with
  | true =>
    rw [h1]
    go_enter Tryd.func36, Tryd.ntmps36
    go_wp2
    go_ret
    exact ⟨rfl, Q.refl _⟩
  | false =>
    rw [h0]
    go_enter Tryd.func36, Tryd.ntmps36
    go_wp2
    go_ret
    exact ⟨rfl, Q.refl _⟩
theorem all_no {l : List Pr} {k : Nat} (hk : k < l.length) (h : rowOk l[k] = false) : l.all rowOk = false := by
  rw [Bool.eq_false_iff]
  intro H
  have := List.all_eq_true.1 H l[k] (List.getElem_mem hk)
  rw [h] at this
  cases this
theorem all_yes {l : List Pr} (h : ∀ j, ∀ hj : j < l.length, rowOk l[j] = true) : l.all rowOk = true :=
  List.all_eq_true.2 fun x hx => by obtain ⟨j, hj, rfl⟩ := List.getElem_of_mem hx; exact h j hj

set_option maxHeartbeats 4000000 in
theorem wmayP_any (p : Rp) (A : Option Addr) (N c : Nat) (w : World) (hA : Lst pairK w A N p.rows) (hmx : N ≤ maxLen) (hks : KeysIn p.rows) :
    Calls Tryd.prog 35 #[rpV p A N c] w fun e w' => e = .returned (.bool (mayP p)) ∧ Q w w' := by
  obtain ⟨e, s, n, er, v, fd, ov, l⟩ := p
  simp only at hA hks
  have HA := Lib.hid hA
  have HL := Lib.hid hA.len
  have HMX := Lib.hid hmx
  have HKS := Lib.hid hks
  unfold maxLen at hmx
  have hmay : mayP ⟨e, s, n, er, v, fd, ov, l⟩ = (if ¬(small e = true ∧ small s = true) ∨ ¬(small n = true ∧ right l = true) ∨ er < 0 ∨ 16 < er ∨ 64 < v.size ∨ 16 < l.length then false else l.all rowOk) := rfl
  rw [hmay]
  have X := Lib.hid (And.intro (Bx.new w [.int .i64 e, .int .i64 s, .int .i64 n, .int .i64 er, .string v, .bool fd, .slice A N c, .bool ov] 40) ((Q.refl w).alloc (.cells #[.int .i64 e, .int .i64 s, .int .i64 n, .int .i64 er, .string v, .bool fd, .slice A N c, .bool ov] 40)))
  clear hmay hA hks
  show Calls _ _ #[.agg #[.int .i64 e, .int .i64 s, .int .i64 n, .int .i64 er, .string v, .bool fd, .slice A N c, .bool ov]] _ _
  generalize hr : (if ¬(small e = true ∧ small s = true) ∨ ¬(small n = true ∧ right l = true) ∨ er < 0 ∨ 16 < er ∨ 64 < v.size ∨ 16 < l.length then false else l.all rowOk) = res
  have HR := Lib.hid hr.symm
  clear hr
  go_enter Tryd.func35, Tryd.ntmps35
  go_upto_region 1 with (fail)
  change Hid (Bx (w.alloc (.cells #[.int .i64 e, .int .i64 s, .int .i64 n, .int .i64 er, .string v, .bool fd, .slice A N c, .bool ov] 40)) _ _ ∧ Q w (w.alloc (.cells #[.int .i64 e, .int .i64 s, .int .i64 n, .int .i64 er, .string v, .bool fd, .slice A N c, .bool ov] 40))) at X
  generalize w.alloc (.cells #[.int .i64 e, .int .i64 s, .int .i64 n, .int .i64 er, .string v, .bool fd, .slice A N c, .bool ov] 40) = W0 at X ⊢
  have x0 := (X.out.1 0 _ rfl).1
  have x1 := (X.out.1 1 _ rfl).1
  have x2 := (X.out.1 2 _ rfl).1
  have x3 := (X.out.1 3 _ rfl).1
  have x4 := (X.out.1 4 _ rfl).1
  have x5 := (X.out.1 5 _ rfl).1
  have x6 := (X.out.1 6 _ rfl).1
  have x7 := (X.out.1 7 _ rfl).1
  go_cut [3] (fun s3 wx => s3 = .bool (small e && small s) ∧ Q W0 wx)
  case first =>
    cases h1 : small e with
    | false =>
      have K1 : Hid (∀ W, Q w W → Calls Tryd.prog 32 #[.int .i64 e] W fun e' w' => e' = .returned (.bool false) ∧ Q W w') := Lib.hid (fun W q => by have h := wsmall_any e W; rw [h1] at h; exact h)
      go_wp2_with fail
      refine (K1.out _ X.out.2).mono ?_
      rintro e1 w1 ⟨rfl, q1⟩
      go_wp2_with fail
      go_meet
      exact ⟨by rw [h1]; rfl, q1⟩
    | true =>
      have K1 : Hid (∀ W, Q w W → Calls Tryd.prog 32 #[.int .i64 e] W fun e' w' => e' = .returned (.bool true) ∧ Q W w') := Lib.hid (fun W q => by have h := wsmall_any e W; rw [h1] at h; exact h)
      cases h2 : small s with
      | false =>
        have K2 : Hid (∀ W, Q w W → Calls Tryd.prog 32 #[.int .i64 s] W fun e' w' => e' = .returned (.bool false) ∧ Q W w') := Lib.hid (fun W q => by have h := wsmall_any s W; rw [h2] at h; exact h)
        go_wp2_with fail
        refine (K1.out _ X.out.2).mono ?_
        rintro e1 w1 ⟨rfl, q1⟩
        have X1 := Lib.hid (X.out.1.q q1)
        have y := (X1.out 1 _ rfl).1
        go_wp2_with fail
        refine (K2.out _ (X.out.2.trans q1)).mono ?_
        rintro e2 w2 ⟨rfl, q2⟩
        go_wp2_with fail
        go_meet
        exact ⟨by rw [h1, h2]; rfl, q1.trans q2⟩
      | true =>
        have K2 : Hid (∀ W, Q w W → Calls Tryd.prog 32 #[.int .i64 s] W fun e' w' => e' = .returned (.bool true) ∧ Q W w') := Lib.hid (fun W q => by have h := wsmall_any s W; rw [h2] at h; exact h)
        go_wp2_with fail
        refine (K1.out _ X.out.2).mono ?_
        rintro e1 w1 ⟨rfl, q1⟩
        have X1 := Lib.hid (X.out.1.q q1)
        have y := (X1.out 1 _ rfl).1
        go_wp2_with fail
        refine (K2.out _ (X.out.2.trans q1)).mono ?_
        rintro e2 w2 ⟨rfl, q2⟩
        go_wp2_with fail
        go_meet
        exact ⟨by rw [h1, h2]; rfl, q1.trans q2⟩
  case rest =>
  obtain ⟨rfl, qc⟩ := hcut
  have X := Lib.hid (And.intro (X.out.1.q qc) (X.out.2.trans qc))
  clear qc x0 x1 x2 x3 x4 x5 x6 x7
  generalize wc = W0 at X ⊢
  have x0 := (X.out.1 0 _ rfl).1
  have x1 := (X.out.1 1 _ rfl).1
  have x2 := (X.out.1 2 _ rfl).1
  have x3 := (X.out.1 3 _ rfl).1
  have x4 := (X.out.1 4 _ rfl).1
  have x5 := (X.out.1 5 _ rfl).1
  have x6 := (X.out.1 6 _ rfl).1
  have x7 := (X.out.1 7 _ rfl).1
  go_upto_region 2 with (fail)
  go_cut [4] (fun s4 wx => s4 = .bool (small n && right l) ∧ Q W0 wx)
  case first =>
    cases h1 : small n with
    | false =>
      have K1 : Hid (∀ W, Q w W → Calls Tryd.prog 32 #[.int .i64 n] W fun e' w' => e' = .returned (.bool false) ∧ Q W w') := Lib.hid (fun W q => by have h := wsmall_any n W; rw [h1] at h; exact h)
      go_wp2_with fail
      refine (K1.out _ X.out.2).mono ?_
      rintro e1 w1 ⟨rfl, q1⟩
      go_wp2_with fail
      go_meet
      exact ⟨by rw [h1]; rfl, q1⟩
    | true =>
      have K1 : Hid (∀ W, Q w W → Calls Tryd.prog 32 #[.int .i64 n] W fun e' w' => e' = .returned (.bool true) ∧ Q W w') := Lib.hid (fun W q => by have h := wsmall_any n W; rw [h1] at h; exact h)
      cases h2 : right l with
      | false =>
        have K2 : Hid (∀ W, Q w W → Calls Tryd.prog 56 #[.slice A N c] W fun e' w' => e' = .returned (.bool false) ∧ Q W w') := Lib.hid (fun W q => by have h := refRight_any A N c l W (HA.out.q q) HMX.out HKS.out; rw [h2] at h; exact h)
        go_wp2_with fail
        refine (K1.out _ X.out.2).mono ?_
        rintro e1 w1 ⟨rfl, q1⟩
        have X1 := Lib.hid (X.out.1.q q1)
        have y := (X1.out 6 _ rfl).1
        go_wp2_with fail
        refine (K2.out _ (X.out.2.trans q1)).mono ?_
        rintro e2 w2 ⟨rfl, q2⟩
        go_wp2_with fail
        go_meet
        exact ⟨by rw [h1, h2]; rfl, q1.trans q2⟩
      | true =>
        have K2 : Hid (∀ W, Q w W → Calls Tryd.prog 56 #[.slice A N c] W fun e' w' => e' = .returned (.bool true) ∧ Q W w') := Lib.hid (fun W q => by have h := refRight_any A N c l W (HA.out.q q) HMX.out HKS.out; rw [h2] at h; exact h)
        go_wp2_with fail
        refine (K1.out _ X.out.2).mono ?_
        rintro e1 w1 ⟨rfl, q1⟩
        have X1 := Lib.hid (X.out.1.q q1)
        have y := (X1.out 6 _ rfl).1
        go_wp2_with fail
        refine (K2.out _ (X.out.2.trans q1)).mono ?_
        rintro e2 w2 ⟨rfl, q2⟩
        go_wp2_with fail
        go_meet
        exact ⟨by rw [h1, h2]; rfl, q1.trans q2⟩
  case rest =>
  obtain ⟨rfl, qc⟩ := hcut
  have X := Lib.hid (And.intro (X.out.1.q qc) (X.out.2.trans qc))
  clear qc x0 x1 x2 x3 x4 x5 x6 x7
  generalize wc = W0 at X ⊢
  have x0 := (X.out.1 0 _ rfl).1
  have x1 := (X.out.1 1 _ rfl).1
  have x2 := (X.out.1 2 _ rfl).1
  have x3 := (X.out.1 3 _ rfl).1
  have x4 := (X.out.1 4 _ rfl).1
  have x5 := (X.out.1 5 _ rfl).1
  have x6 := (X.out.1 6 _ rfl).1
  have x7 := (X.out.1 7 _ rfl).1
  generalize hg1 : (small e && small s) = b1 at *
  generalize hg2 : (small n && right l) = b2 at *
  have G1 : b1 = true ↔ (small e = true ∧ small s = true) := by rw [← hg1]; simp
  have G2 : b2 = true ↔ (small n = true ∧ right l = true) := by rw [← hg2]; simp
  have GG := Lib.hid (And.intro G1 G2)
  clear hg1 hg2 G1 G2
  cases b1 with
  | false =>
    have HM : Hid (res = false) := Lib.hid (by rw [HR.out, if_pos (.inl (fun h => by simpa using GG.out.1.2 h))])
    go_wp2
    go_ret
    exact ⟨by rw [HM.out]; rfl, X.out.2⟩
  | true =>
  cases b2 with
  | false =>
    have HM : Hid (res = false) := Lib.hid (by rw [HR.out, if_pos (.inr (.inl (fun h => by simpa using GG.out.2.2 h)))])
    go_wp2
    go_ret
    exact ⟨by rw [HM.out]; rfl, X.out.2⟩
  | true =>
  by_cases c3 : er < 0
  · have HM : Hid (res = false) := Lib.hid (by rw [HR.out, if_pos (.inr (.inr (.inl c3)))])
    go_wp2
    go_ret
    exact ⟨by rw [HM.out]; rfl, X.out.2⟩
  by_cases c4 : 16 < er
  · have HM : Hid (res = false) := Lib.hid (by rw [HR.out, if_pos (.inr (.inr (.inr (.inl c4))))])
    go_wp2
    go_ret
    exact ⟨by rw [HM.out]; rfl, X.out.2⟩
  by_cases c5 : 64 < v.size
  · have HM : Hid (res = false) := Lib.hid (by rw [HR.out, if_pos (.inr (.inr (.inr (.inr (.inl c5)))))])
    have c5i : (64 : Int) < (v.size : Int) := by omega
    go_wp2
    go_ret
    exact ⟨by rw [HM.out]; rfl, X.out.2⟩
  have c5i : ¬ (64 : Int) < (v.size : Int) := by omega
  by_cases c6 : 16 < N
  · have HM : Hid (res = false) := Lib.hid (by rw [HR.out, if_pos (.inr (.inr (.inr (.inr (.inr (by rw [HL.out]; exact c6))))))])
    have c6i : (16 : Int) < (N : Int) := by omega
    go_wp2
    go_ret
    exact ⟨by rw [HM.out]; rfl, X.out.2⟩
  have c6i : ¬ (16 : Int) < (N : Int) := by omega
  have HR2 : Hid (res = l.all rowOk) := Lib.hid (by
    rw [HR.out, if_neg (by rintro (h | h | h | h | h | h); exact h (GG.out.1.1 rfl); exact h (GG.out.2.1 rfl); exact c3 h; exact c4 h; exact c5 h; exact c6 (by rw [← HL.out]; exact h))])
  clear HR GG
  go_upto_region 6 with (fail)
  clear x0 x1 x2 x3 x4 x5 x6 x7
  go_loopw [5] (fun iv wr => ∃ k : Nat, k ≤ N ∧ iv = .int .i64 (k : Nat) ∧ (∀ j, ∀ hj : j < l.length, j < k → rowOk l[j] = true) ∧ Bx wr w.heap.size [.int .i64 e, .int .i64 s, .int .i64 n, .int .i64 er, .string v, .bool fd, .slice A N c, .bool ov] ∧ Q w wr) (fun i _ => N - (intOf i).toNat)
  case atStart => exact ⟨0, Nat.zero_le _, rfl, fun j _ h => by omega, X.out.1, X.out.2⟩
  case round =>
    obtain ⟨k, hk, rfl, hok, hb, hq⟩ := hrel
    have HOK := Lib.hid hok
    have X := Lib.hid (And.intro hb hq)
    clear hok hb hq
    have x6 := (X.out.1 6 _ rfl).1
    by_cases hlt : k < N
    case neg =>
      have HM : Hid (res = true) := Lib.hid (by rw [HR2.out]; exact all_yes fun j hj => HOK.out j hj (by have := HL.out; omega))
      have hkn : ¬ (k : Int) < (N : Int) := by omega
      go_wp2
      go_ret
      exact ⟨by rw [HM.out]; rfl, X.out.2⟩
    have hkn : (k : Int) < (N : Int) := by omega
    have hkl : k < l.length := by rw [HL.out]; exact hlt
    obtain ⟨ad, rfl, hab, y0, y1⟩ := load_pair (HA.out.q X.out.2) hlt hkl
    have HNO := Lib.hid (fun h => all_no (k := k) hkl h)
    have HST := Lib.hid (show rowOk l[k] = true → ∀ j, ∀ hj : j < l.length, j < k + 1 → rowOk l[j] = true from fun h j hj hj2 => by
      by_cases he : j = k
      · subst he; exact h
      · exact HOK.out j hj (by omega))
    have hrw : rowOk l[k] = (decide (l[k].key.size ≤ 32) && decide (l[k].val.size ≤ 64)) := rfl
    rw [hrw] at HNO HST
    generalize l[k] = x at y0 y1 HNO HST
    clear hrw
    by_cases d1 : 32 < x.key.size
    · have HM : Hid (res = false) := Lib.hid (by rw [HR2.out]; exact HNO.out (by rw [decide_eq_false (by omega), Bool.false_and]))
      have d1i : (32 : Int) < (x.key.size : Int) := by omega
      go_wp2
      go_ret
      exact ⟨by rw [HM.out]; rfl, X.out.2⟩
    have d1i : ¬ (32 : Int) < (x.key.size : Int) := by omega
    by_cases d2 : 64 < x.val.size
    · have HM : Hid (res = false) := Lib.hid (by rw [HR2.out]; exact HNO.out (by rw [decide_eq_false (show ¬ x.val.size ≤ 64 by omega), Bool.and_false]))
      have d2i : (64 : Int) < (x.val.size : Int) := by omega
      go_wp2
      go_ret
      exact ⟨by rw [HM.out]; rfl, X.out.2⟩
    have d2i : ¬ (64 : Int) < (x.val.size : Int) := by omega
    have HS2 := Lib.hid (HST.out (by rw [decide_eq_true (by omega), decide_eq_true (by omega)]; rfl))
    clear HNO HST
    go_wp2
    go_roundw
    case rel => exact ⟨k + 1, by omega, by go_num, HS2.out, X.out.1, X.out.2⟩
    case measure => simp [intOf]; omega

end Wi
end Go.Proofs.YtdipikdebapmlaaDoor

/- Contracts: the package's mayToken, mayOp, MayReq, mayReply. -/
namespace Go.Proofs.YtdipikdebapmlaaDoor
set_option maxRecDepth 100000
open Go.RowKit Prm
set_option linter.unusedVariables false
set_option linter.unusedSimpArgs false
namespace Wi

def tokOk (k : Int) (t : ByteArray) : Bool := if k = 4 ∨ k = 6 then decide (t.size ≤ 16) else decide (t = ⟨#[]⟩)
def opOk (k : Int) (o : Op) : Bool := if k = 5 then decide (1 ≤ o.kind) && decide (o.kind ≤ 6) && !([o.key, o.lo, o.hi].any longK) && decide (o.val.size ≤ 64) && !([o.most].any big) else decide (o = op0)
theorem small_big (n : Int) : (!([n].any big)) = small n := by simp [big]
theorem longK3 (a b c : ByteArray) : (!([a, b, c].any longK)) = (decide (a.size ≤ 32) && decide (b.size ≤ 32) && decide (c.size ≤ 32)) := by
  rw [Bool.eq_iff_iff]
  simp [longK, and_assoc]
theorem opOk_iff {k : Int} {o : Op} : opOk k o = true ↔ (k ≠ 5 → o = op0) ∧ (k = 5 → mayOp o = true ∧ small o.most = true) := by
  unfold opOk
  by_cases h : k = 5
  · rw [if_pos h, mayOp_iff, longK3, small_big]
    simp only [Bool.and_eq_true, decide_eq_true_eq]
    constructor
    · rintro ⟨⟨⟨⟨a, b⟩, ⟨c, d⟩, e⟩, f⟩, g⟩
      exact ⟨fun h2 => absurd h h2, fun _ => ⟨⟨a, b, c, d, e, f⟩, g⟩⟩
    · rintro ⟨_, h2⟩
      obtain ⟨⟨a, b, c, d, e, f⟩, g⟩ := h2 h
      exact ⟨⟨⟨⟨a, b⟩, ⟨c, d⟩, e⟩, f⟩, g⟩
  · rw [if_neg h]
    simp only [decide_eq_true_eq]
    exact ⟨fun h2 => ⟨fun _ => h2, fun h3 => absurd h3 h⟩, fun h2 => h2.1 h⟩
theorem tokOk_iff {k : Int} {t : ByteArray} : tokOk k t = true ↔ t.size ≤ 16 ∧ (k ≠ 4 → k ≠ 6 → t.size = 0) := by
  unfold tokOk
  by_cases h : k = 4 ∨ k = 6
  · rw [if_pos h, decide_eq_true_eq]
    exact ⟨fun h2 => ⟨h2, fun h4 h6 => absurd h (by omega)⟩, fun h2 => h2.1⟩
  · rw [if_neg h, decide_eq_true_eq]
    constructor
    · rintro rfl; exact ⟨by decide, fun _ _ => rfl⟩
    · intro h2
      have := h2.2 (by omega) (by omega)
      apply ByteArray.ext
      apply Array.eq_empty_of_size_eq_zero
      exact this
/-- which requests may be, as the package tells it. -/
theorem mayO_eq (k e s n : Int) (t : ByteArray) (o : Op) : (decide (1 ≤ k) && decide (k ≤ 6) && !([e, s, n].any big) && tokOk k t && opOk k o) = may ⟨k, e, s, n, t, o⟩ := by
  rw [Bool.eq_iff_iff]
  have hb : (!([e, s, n].any big)) = (small e && small s && small n) := by rw [Bool.eq_iff_iff]; simp [big, and_assoc]
  rw [hb]
  simp only [Bool.and_eq_true, decide_eq_true_eq, tokOk_iff, opOk_iff]
  constructor
  · rintro ⟨⟨⟨⟨h1, h2⟩, ⟨h3, h4⟩, h5⟩, h6, h7⟩, h8, h9⟩
    have hm : small o.most = true := by
      by_cases hk : k = 5
      · exact (h9 hk).2
      · rw [h8 hk]; rfl
    unfold may
    simp only
    rw [if_neg (by simp only [not_or, Decidable.not_not]; exact ⟨by omega, by omega, ⟨h3, h4⟩, ⟨h5, hm⟩, by omega⟩), if_neg (by rintro ⟨a, b, c⟩; have := h7 a b; omega)]
    by_cases hk : k = 5
    · rw [if_neg (by simpa using hk)]; exact (h9 hk).1
    · rw [if_pos hk]; exact decide_eq_true (h8 hk)
  · intro h
    have M := may_of h
    have a1 := M.k1
    have a2 := M.k2
    have a3 := M.e
    have a4 := M.s
    have a5 := M.n
    have a6 := M.m
    have a7 := M.t
    simp only at a1 a2 a3 a4 a5 a6 a7
    refine ⟨⟨⟨⟨a1, a2⟩, ⟨a3, a4⟩, a5⟩, a7, fun h4 h6 => ?_⟩, fun hk => M.o hk, fun hk => ⟨M.o5 hk, a6⟩⟩
    unfold may at h
    simp only at h
    split at h
    · cases h
    split at h
    · cases h
    · rename_i h8
      simp only [not_and] at h8
      have := h8 h4 h6
      omega

set_option maxHeartbeats 1000000 in
theorem mayToken_any (k e s n : Int) (t : ByteArray) (ok : Int) (ky vl lo hi : ByteArray) (m : Int) (w : World) : Calls Tryd.prog 30 #[.agg #[.int .i64 k, .int .i64 e, .int .i64 s, .int .i64 n, .string t, .int .i64 ok, .string ky, .string vl, .string lo, .string hi, .int .i64 m]] w fun e' w' => e' = .returned (.bool (tokOk k t)) ∧ Q w w' := by
  have X1 : Hid (Bx (w.alloc (.cells #[.int .i64 k, .int .i64 e, .int .i64 s, .int .i64 n, .string t, .int .i64 ok, .string ky, .string vl, .string lo, .string hi, .int .i64 m] 25)) w.heap.size [.int .i64 k, .int .i64 e, .int .i64 s, .int .i64 n, .string t, .int .i64 ok, .string ky, .string vl, .string lo, .string hi, .int .i64 m]) := Lib.hid (Bx.new w [.int .i64 k, .int .i64 e, .int .i64 s, .int .i64 n, .string t, .int .i64 ok, .string ky, .string vl, .string lo, .string hi, .int .i64 m] 25)
  have QF := Lib.hid ((Q.refl w).alloc (.cells #[.int .i64 k, .int .i64 e, .int .i64 s, .int .i64 n, .string t, .int .i64 ok, .string ky, .string vl, .string lo, .string hi, .int .i64 m] 25))
  have hcmp : (t.toList == (⟨#[]⟩ : ByteArray).toList) = decide (t = ⟨#[]⟩) := same_str _ _
  have hnil : (⟨#[]⟩ : ByteArray).toList = [] := by rw [ByteArray.toList_eq]
  have hcmp2 : (t.toList == []) = decide (t = ⟨#[]⟩) := by rw [← hcmp, hnil]
  have HT : Hid (tokOk k t = if k = 4 ∨ k = 6 then decide (t.size ≤ 16) else decide (t = ⟨#[]⟩)) := Lib.hid rfl
  clear hnil
  generalize tokOk k t = res at HT ⊢
  generalize decide (t = ⟨#[]⟩) = b2 at HT hcmp hcmp2
  by_cases h4 : k = 4
  · subst h4
    rw [if_pos (.inl rfl)] at HT
    by_cases hz : t.size ≤ 16
    · have hzi : (t.size : Int) ≤ 16 := by omega
      rw [decide_eq_true hz] at HT
      go_enter Tryd.func30, Tryd.ntmps30
      go_upto_region 1 with (fail)
      generalize w.alloc (.cells #[.int .i64 4, .int .i64 e, .int .i64 s, .int .i64 n, .string t, .int .i64 ok, .string ky, .string vl, .string lo, .string hi, .int .i64 m] 25) = W0 at X1 QF ⊢
      generalize w.heap.size = b1 at X1 ⊢
      have x0 := (X1.out 0 _ rfl).1
      have x4 := (X1.out 4 _ rfl).1
      go_wp2
      go_ret
      exact ⟨ret_bool (by rw [HT.out] <;> (first | (first | rfl | simp; done) | (simp; intros; omega))), QF.out⟩
    · have hzi : ¬ (t.size : Int) ≤ 16 := by omega
      rw [decide_eq_false hz] at HT
      go_enter Tryd.func30, Tryd.ntmps30
      go_upto_region 1 with (fail)
      generalize w.alloc (.cells #[.int .i64 4, .int .i64 e, .int .i64 s, .int .i64 n, .string t, .int .i64 ok, .string ky, .string vl, .string lo, .string hi, .int .i64 m] 25) = W0 at X1 QF ⊢
      generalize w.heap.size = b1 at X1 ⊢
      have x0 := (X1.out 0 _ rfl).1
      have x4 := (X1.out 4 _ rfl).1
      go_wp2
      go_ret
      exact ⟨ret_bool (by rw [HT.out] <;> (first | (first | rfl | (simp; omega); done) | (simp; intros; omega))), QF.out⟩
  · by_cases h6 : k = 6
    · subst h6
      rw [if_pos (.inr rfl)] at HT
      by_cases hz : t.size ≤ 16
      · have hzi : (t.size : Int) ≤ 16 := by omega
        rw [decide_eq_true hz] at HT
        go_enter Tryd.func30, Tryd.ntmps30
        go_upto_region 1 with (fail)
        generalize w.alloc (.cells #[.int .i64 6, .int .i64 e, .int .i64 s, .int .i64 n, .string t, .int .i64 ok, .string ky, .string vl, .string lo, .string hi, .int .i64 m] 25) = W0 at X1 QF ⊢
        generalize w.heap.size = b1 at X1 ⊢
        have x0 := (X1.out 0 _ rfl).1
        have x4 := (X1.out 4 _ rfl).1
        go_wp2
        go_ret
        exact ⟨ret_bool (by rw [HT.out] <;> (first | (first | rfl | simp; done) | (simp; intros; omega))), QF.out⟩
      · have hzi : ¬ (t.size : Int) ≤ 16 := by omega
        rw [decide_eq_false hz] at HT
        go_enter Tryd.func30, Tryd.ntmps30
        go_upto_region 1 with (fail)
        generalize w.alloc (.cells #[.int .i64 6, .int .i64 e, .int .i64 s, .int .i64 n, .string t, .int .i64 ok, .string ky, .string vl, .string lo, .string hi, .int .i64 m] 25) = W0 at X1 QF ⊢
        generalize w.heap.size = b1 at X1 ⊢
        have x0 := (X1.out 0 _ rfl).1
        have x4 := (X1.out 4 _ rfl).1
        go_wp2
        go_ret
        exact ⟨ret_bool (by rw [HT.out] <;> (first | (first | rfl | (simp; omega); done) | (simp; intros; omega))), QF.out⟩
    · have k4 : (k == 4) = false := by simpa using h4
      have k6 : (k == 6) = false := by simpa using h6
      rw [if_neg (by omega)] at HT
      go_enter Tryd.func30, Tryd.ntmps30
      go_upto_region 1 with (fail)
      generalize w.alloc (.cells #[.int .i64 k, .int .i64 e, .int .i64 s, .int .i64 n, .string t, .int .i64 ok, .string ky, .string vl, .string lo, .string hi, .int .i64 m] 25) = W0 at X1 QF ⊢
      generalize w.heap.size = b1 at X1 ⊢
      have x0 := (X1.out 0 _ rfl).1
      have x4 := (X1.out 4 _ rfl).1
      go_wp2
      go_ret
      exact ⟨ret_bool (by rw [HT.out] <;> (first | (first | rfl | simp; done) | (simp; intros; omega))), QF.out⟩

set_option maxHeartbeats 4000000 in
theorem mayOpO_any (k e s n : Int) (t : ByteArray) (ok : Int) (ky vl lo hi : ByteArray) (m : Int) (w : World) : Calls Tryd.prog 31 #[.agg #[.int .i64 k, .int .i64 e, .int .i64 s, .int .i64 n, .string t, .int .i64 ok, .string ky, .string vl, .string lo, .string hi, .int .i64 m]] w fun e' w' => e' = .returned (.bool (opOk k ⟨ok, ky, vl, lo, hi, m⟩)) ∧ Q w w' := by
  have X1 : Hid (Bx (w.alloc (.cells #[.int .i64 k, .int .i64 e, .int .i64 s, .int .i64 n, .string t, .int .i64 ok, .string ky, .string vl, .string lo, .string hi, .int .i64 m] 25)) w.heap.size [.int .i64 k, .int .i64 e, .int .i64 s, .int .i64 n, .string t, .int .i64 ok, .string ky, .string vl, .string lo, .string hi, .int .i64 m]) := Lib.hid (Bx.new w [.int .i64 k, .int .i64 e, .int .i64 s, .int .i64 n, .string t, .int .i64 ok, .string ky, .string vl, .string lo, .string hi, .int .i64 m] 25)
  have QF := Lib.hid ((Q.refl w).alloc (.cells #[.int .i64 k, .int .i64 e, .int .i64 s, .int .i64 n, .string t, .int .i64 ok, .string ky, .string vl, .string lo, .string hi, .int .i64 m] 25))
  have HT : Hid (opOk k ⟨ok, ky, vl, lo, hi, m⟩ = if k = 5 then decide (1 ≤ ok) && decide (ok ≤ 6) && !([ky, lo, hi].any longK) && decide (vl.size ≤ 64) && !([m].any big) else decide ((⟨ok, ky, vl, lo, hi, m⟩ : Op) = op0)) := Lib.hid rfl
  generalize opOk k ⟨ok, ky, vl, lo, hi, m⟩ = res at HT ⊢
  have KK := Lib.hid (fun W => keys_any (some ⟨W.heap.size, 0, none⟩) 3 3 [ky, lo, hi] (W.alloc (.cells #[.string ky, .string lo, .string hi] 9)) (lst_lits W [ky, lo, hi]) (by unfold maxLen; omega))
  have KN := Lib.hid (fun W => nums_any (some ⟨W.heap.size, 0, none⟩) 1 1 [m] (W.alloc (.cells #[.int .i64 m] 3)) (lst_litn W [m]) (by unfold maxLen; omega))
  generalize [ky, lo, hi].any longK = ak at KK HT
  generalize [m].any big = am at KN HT
  by_cases h5 : k = 5
  · subst h5
    rw [if_pos rfl] at HT
    by_cases c1 : 1 ≤ ok
    · have c1i : (1 : Int) ≤ ok := by omega
      by_cases c2 : ok ≤ 6
      · have c2i : ok ≤ (6 : Int) := by omega
        cases ak with
        | true =>
          go_enter Tryd.func31, Tryd.ntmps31
          go_upto_region 1 with (fail)
          generalize w.alloc (.cells #[.int .i64 5, .int .i64 e, .int .i64 s, .int .i64 n, .string t, .int .i64 ok, .string ky, .string vl, .string lo, .string hi, .int .i64 m] 25) = W0 at X1 QF ⊢
          generalize w.heap.size = b1 at X1 ⊢
          have x5 := (X1.out 5 _ rfl).1
          have x6 := (X1.out 6 _ rfl).1
          have x7 := (X1.out 7 _ rfl).1
          have x8 := (X1.out 8 _ rfl).1
          have x9 := (X1.out 9 _ rfl).1
          have x10 := (X1.out 10 _ rfl).1
          have x0 := (X1.out 0 _ rfl).1
          have qa := (Q.refl W0).alloc (.cells #[.int .i64 ok, .string ky, .string vl, .string lo, .string hi, .int .i64 m] 23)
          replace X1 := Lib.hid ((X1.out).q qa)
          replace QF := Lib.hid ((QF.out).trans qa)
          have X3 : Hid (Bx (W0.alloc (.cells #[.int .i64 ok, .string ky, .string vl, .string lo, .string hi, .int .i64 m] 23)) W0.heap.size [.int .i64 ok, .string ky, .string vl, .string lo, .string hi, .int .i64 m]) := Lib.hid (Bx.new W0 [.int .i64 ok, .string ky, .string vl, .string lo, .string hi, .int .i64 m] 23)
          clear qa
          go_upto_region 2 with (fail)
          generalize W0.alloc (.cells #[.int .i64 ok, .string ky, .string vl, .string lo, .string hi, .int .i64 m] 23) = W3 at X1 X3 QF ⊢
          generalize W0.heap.size = b3 at X3 ⊢
          clear x5
          clear x6
          clear x7
          clear x8
          clear x9
          clear x10
          clear x0
          have x0 := (X1.out 0 _ rfl).1
          have y0 := (X3.out 0 _ rfl).1
          have y1 := (X3.out 1 _ rfl).1
          have y2 := (X3.out 2 _ rfl).1
          have y3 := (X3.out 3 _ rfl).1
          have y4 := (X3.out 4 _ rfl).1
          have y5 := (X3.out 5 _ rfl).1
          go_wp2_with fail
          refine (KK.out _).mono ?_
          rintro e1 w1 ⟨rfl, q1⟩
          have q2 := ((Q.refl W3).alloc (.cells #[.string ky, .string lo, .string hi] 9)).trans q1
          have X3 := Lib.hid (X3.out.q q2)
          replace QF := Lib.hid (QF.out.trans q2)
          clear q1 q2 x0 X1 y0 y1 y2 y3 y4 y5
          have y0 := (X3.out 0 _ rfl).1
          have y1 := (X3.out 1 _ rfl).1
          have y2 := (X3.out 2 _ rfl).1
          have y3 := (X3.out 3 _ rfl).1
          have y4 := (X3.out 4 _ rfl).1
          have y5 := (X3.out 5 _ rfl).1
          go_wp2
          go_ret
          exact ⟨ret_bool (by rw [HT.out] <;> (first | (simp [c1, c2]; done) | (simp; intros; omega))), QF.out⟩
        | false =>
          by_cases c4 : vl.size ≤ 64
          · have c4i : (vl.size : Int) ≤ 64 := by omega
            cases am with
            | true =>
              go_enter Tryd.func31, Tryd.ntmps31
              go_upto_region 1 with (fail)
              generalize w.alloc (.cells #[.int .i64 5, .int .i64 e, .int .i64 s, .int .i64 n, .string t, .int .i64 ok, .string ky, .string vl, .string lo, .string hi, .int .i64 m] 25) = W0 at X1 QF ⊢
              generalize w.heap.size = b1 at X1 ⊢
              have x5 := (X1.out 5 _ rfl).1
              have x6 := (X1.out 6 _ rfl).1
              have x7 := (X1.out 7 _ rfl).1
              have x8 := (X1.out 8 _ rfl).1
              have x9 := (X1.out 9 _ rfl).1
              have x10 := (X1.out 10 _ rfl).1
              have x0 := (X1.out 0 _ rfl).1
              have qa := (Q.refl W0).alloc (.cells #[.int .i64 ok, .string ky, .string vl, .string lo, .string hi, .int .i64 m] 23)
              replace X1 := Lib.hid ((X1.out).q qa)
              replace QF := Lib.hid ((QF.out).trans qa)
              have X3 : Hid (Bx (W0.alloc (.cells #[.int .i64 ok, .string ky, .string vl, .string lo, .string hi, .int .i64 m] 23)) W0.heap.size [.int .i64 ok, .string ky, .string vl, .string lo, .string hi, .int .i64 m]) := Lib.hid (Bx.new W0 [.int .i64 ok, .string ky, .string vl, .string lo, .string hi, .int .i64 m] 23)
              clear qa
              go_upto_region 2 with (fail)
              generalize W0.alloc (.cells #[.int .i64 ok, .string ky, .string vl, .string lo, .string hi, .int .i64 m] 23) = W3 at X1 X3 QF ⊢
              generalize W0.heap.size = b3 at X3 ⊢
              clear x5
              clear x6
              clear x7
              clear x8
              clear x9
              clear x10
              clear x0
              have x0 := (X1.out 0 _ rfl).1
              have y0 := (X3.out 0 _ rfl).1
              have y1 := (X3.out 1 _ rfl).1
              have y2 := (X3.out 2 _ rfl).1
              have y3 := (X3.out 3 _ rfl).1
              have y4 := (X3.out 4 _ rfl).1
              have y5 := (X3.out 5 _ rfl).1
              go_wp2_with fail
              refine (KK.out _).mono ?_
              rintro e1 w1 ⟨rfl, q1⟩
              have q2 := ((Q.refl W3).alloc (.cells #[.string ky, .string lo, .string hi] 9)).trans q1
              have X3 := Lib.hid (X3.out.q q2)
              replace QF := Lib.hid (QF.out.trans q2)
              clear q1 q2 x0 X1 y0 y1 y2 y3 y4 y5
              have y0 := (X3.out 0 _ rfl).1
              have y1 := (X3.out 1 _ rfl).1
              have y2 := (X3.out 2 _ rfl).1
              have y3 := (X3.out 3 _ rfl).1
              have y4 := (X3.out 4 _ rfl).1
              have y5 := (X3.out 5 _ rfl).1
              go_wp2_with fail
              refine (KN.out _).mono ?_
              rintro e2 w2 ⟨rfl, q1⟩
              have q2 := ((Q.refl w1).alloc (.cells #[.int .i64 m] 3)).trans q1
              replace QF := Lib.hid (QF.out.trans q2)
              clear q1 q2
              go_wp2
              go_ret
              exact ⟨ret_bool (by rw [HT.out] <;> (first | (simp [c1, c2, c4]; done) | (simp; intros; omega))), QF.out⟩
            | false =>
              go_enter Tryd.func31, Tryd.ntmps31
              go_upto_region 1 with (fail)
              generalize w.alloc (.cells #[.int .i64 5, .int .i64 e, .int .i64 s, .int .i64 n, .string t, .int .i64 ok, .string ky, .string vl, .string lo, .string hi, .int .i64 m] 25) = W0 at X1 QF ⊢
              generalize w.heap.size = b1 at X1 ⊢
              have x5 := (X1.out 5 _ rfl).1
              have x6 := (X1.out 6 _ rfl).1
              have x7 := (X1.out 7 _ rfl).1
              have x8 := (X1.out 8 _ rfl).1
              have x9 := (X1.out 9 _ rfl).1
              have x10 := (X1.out 10 _ rfl).1
              have x0 := (X1.out 0 _ rfl).1
              have qa := (Q.refl W0).alloc (.cells #[.int .i64 ok, .string ky, .string vl, .string lo, .string hi, .int .i64 m] 23)
              replace X1 := Lib.hid ((X1.out).q qa)
              replace QF := Lib.hid ((QF.out).trans qa)
              have X3 : Hid (Bx (W0.alloc (.cells #[.int .i64 ok, .string ky, .string vl, .string lo, .string hi, .int .i64 m] 23)) W0.heap.size [.int .i64 ok, .string ky, .string vl, .string lo, .string hi, .int .i64 m]) := Lib.hid (Bx.new W0 [.int .i64 ok, .string ky, .string vl, .string lo, .string hi, .int .i64 m] 23)
              clear qa
              go_upto_region 2 with (fail)
              generalize W0.alloc (.cells #[.int .i64 ok, .string ky, .string vl, .string lo, .string hi, .int .i64 m] 23) = W3 at X1 X3 QF ⊢
              generalize W0.heap.size = b3 at X3 ⊢
              clear x5
              clear x6
              clear x7
              clear x8
              clear x9
              clear x10
              clear x0
              have x0 := (X1.out 0 _ rfl).1
              have y0 := (X3.out 0 _ rfl).1
              have y1 := (X3.out 1 _ rfl).1
              have y2 := (X3.out 2 _ rfl).1
              have y3 := (X3.out 3 _ rfl).1
              have y4 := (X3.out 4 _ rfl).1
              have y5 := (X3.out 5 _ rfl).1
              go_wp2_with fail
              refine (KK.out _).mono ?_
              rintro e1 w1 ⟨rfl, q1⟩
              have q2 := ((Q.refl W3).alloc (.cells #[.string ky, .string lo, .string hi] 9)).trans q1
              have X3 := Lib.hid (X3.out.q q2)
              replace QF := Lib.hid (QF.out.trans q2)
              clear q1 q2 x0 X1 y0 y1 y2 y3 y4 y5
              have y0 := (X3.out 0 _ rfl).1
              have y1 := (X3.out 1 _ rfl).1
              have y2 := (X3.out 2 _ rfl).1
              have y3 := (X3.out 3 _ rfl).1
              have y4 := (X3.out 4 _ rfl).1
              have y5 := (X3.out 5 _ rfl).1
              go_wp2_with fail
              refine (KN.out _).mono ?_
              rintro e2 w2 ⟨rfl, q1⟩
              have q2 := ((Q.refl w1).alloc (.cells #[.int .i64 m] 3)).trans q1
              replace QF := Lib.hid (QF.out.trans q2)
              clear q1 q2
              go_wp2
              go_ret
              exact ⟨ret_bool (by rw [HT.out] <;> (first | (first | rfl | simp [c1, c2, c4]; done) | (simp; intros; omega))), QF.out⟩
          · have c4i : ¬ (vl.size : Int) ≤ 64 := by omega
            go_enter Tryd.func31, Tryd.ntmps31
            go_upto_region 1 with (fail)
            generalize w.alloc (.cells #[.int .i64 5, .int .i64 e, .int .i64 s, .int .i64 n, .string t, .int .i64 ok, .string ky, .string vl, .string lo, .string hi, .int .i64 m] 25) = W0 at X1 QF ⊢
            generalize w.heap.size = b1 at X1 ⊢
            have x5 := (X1.out 5 _ rfl).1
            have x6 := (X1.out 6 _ rfl).1
            have x7 := (X1.out 7 _ rfl).1
            have x8 := (X1.out 8 _ rfl).1
            have x9 := (X1.out 9 _ rfl).1
            have x10 := (X1.out 10 _ rfl).1
            have x0 := (X1.out 0 _ rfl).1
            have qa := (Q.refl W0).alloc (.cells #[.int .i64 ok, .string ky, .string vl, .string lo, .string hi, .int .i64 m] 23)
            replace X1 := Lib.hid ((X1.out).q qa)
            replace QF := Lib.hid ((QF.out).trans qa)
            have X3 : Hid (Bx (W0.alloc (.cells #[.int .i64 ok, .string ky, .string vl, .string lo, .string hi, .int .i64 m] 23)) W0.heap.size [.int .i64 ok, .string ky, .string vl, .string lo, .string hi, .int .i64 m]) := Lib.hid (Bx.new W0 [.int .i64 ok, .string ky, .string vl, .string lo, .string hi, .int .i64 m] 23)
            clear qa
            go_upto_region 2 with (fail)
            generalize W0.alloc (.cells #[.int .i64 ok, .string ky, .string vl, .string lo, .string hi, .int .i64 m] 23) = W3 at X1 X3 QF ⊢
            generalize W0.heap.size = b3 at X3 ⊢
            clear x5
            clear x6
            clear x7
            clear x8
            clear x9
            clear x10
            clear x0
            have x0 := (X1.out 0 _ rfl).1
            have y0 := (X3.out 0 _ rfl).1
            have y1 := (X3.out 1 _ rfl).1
            have y2 := (X3.out 2 _ rfl).1
            have y3 := (X3.out 3 _ rfl).1
            have y4 := (X3.out 4 _ rfl).1
            have y5 := (X3.out 5 _ rfl).1
            go_wp2_with fail
            refine (KK.out _).mono ?_
            rintro e1 w1 ⟨rfl, q1⟩
            have q2 := ((Q.refl W3).alloc (.cells #[.string ky, .string lo, .string hi] 9)).trans q1
            have X3 := Lib.hid (X3.out.q q2)
            replace QF := Lib.hid (QF.out.trans q2)
            clear q1 q2 x0 X1 y0 y1 y2 y3 y4 y5
            have y0 := (X3.out 0 _ rfl).1
            have y1 := (X3.out 1 _ rfl).1
            have y2 := (X3.out 2 _ rfl).1
            have y3 := (X3.out 3 _ rfl).1
            have y4 := (X3.out 4 _ rfl).1
            have y5 := (X3.out 5 _ rfl).1
            go_wp2
            go_ret
            exact ⟨ret_bool (by rw [HT.out] <;> (first | (simp [c1, c2, c4]; done) | (simp; intros; omega))), QF.out⟩
      · have c2i : ¬ ok ≤ (6 : Int) := by omega
        go_enter Tryd.func31, Tryd.ntmps31
        go_upto_region 1 with (fail)
        generalize w.alloc (.cells #[.int .i64 5, .int .i64 e, .int .i64 s, .int .i64 n, .string t, .int .i64 ok, .string ky, .string vl, .string lo, .string hi, .int .i64 m] 25) = W0 at X1 QF ⊢
        generalize w.heap.size = b1 at X1 ⊢
        have x5 := (X1.out 5 _ rfl).1
        have x6 := (X1.out 6 _ rfl).1
        have x7 := (X1.out 7 _ rfl).1
        have x8 := (X1.out 8 _ rfl).1
        have x9 := (X1.out 9 _ rfl).1
        have x10 := (X1.out 10 _ rfl).1
        have x0 := (X1.out 0 _ rfl).1
        have qa := (Q.refl W0).alloc (.cells #[.int .i64 ok, .string ky, .string vl, .string lo, .string hi, .int .i64 m] 23)
        replace X1 := Lib.hid ((X1.out).q qa)
        replace QF := Lib.hid ((QF.out).trans qa)
        have X3 : Hid (Bx (W0.alloc (.cells #[.int .i64 ok, .string ky, .string vl, .string lo, .string hi, .int .i64 m] 23)) W0.heap.size [.int .i64 ok, .string ky, .string vl, .string lo, .string hi, .int .i64 m]) := Lib.hid (Bx.new W0 [.int .i64 ok, .string ky, .string vl, .string lo, .string hi, .int .i64 m] 23)
        clear qa
        go_upto_region 2 with (fail)
        generalize W0.alloc (.cells #[.int .i64 ok, .string ky, .string vl, .string lo, .string hi, .int .i64 m] 23) = W3 at X1 X3 QF ⊢
        generalize W0.heap.size = b3 at X3 ⊢
        clear x5
        clear x6
        clear x7
        clear x8
        clear x9
        clear x10
        clear x0
        have x0 := (X1.out 0 _ rfl).1
        have y0 := (X3.out 0 _ rfl).1
        have y1 := (X3.out 1 _ rfl).1
        have y2 := (X3.out 2 _ rfl).1
        have y3 := (X3.out 3 _ rfl).1
        have y4 := (X3.out 4 _ rfl).1
        have y5 := (X3.out 5 _ rfl).1
        go_wp2
        go_ret
        exact ⟨ret_bool (by rw [HT.out] <;> (first | (simp [c1, c2]; done) | (simp; intros; omega))), QF.out⟩
    · have c1i : ¬ (1 : Int) ≤ ok := by omega
      go_enter Tryd.func31, Tryd.ntmps31
      go_upto_region 1 with (fail)
      generalize w.alloc (.cells #[.int .i64 5, .int .i64 e, .int .i64 s, .int .i64 n, .string t, .int .i64 ok, .string ky, .string vl, .string lo, .string hi, .int .i64 m] 25) = W0 at X1 QF ⊢
      generalize w.heap.size = b1 at X1 ⊢
      have x5 := (X1.out 5 _ rfl).1
      have x6 := (X1.out 6 _ rfl).1
      have x7 := (X1.out 7 _ rfl).1
      have x8 := (X1.out 8 _ rfl).1
      have x9 := (X1.out 9 _ rfl).1
      have x10 := (X1.out 10 _ rfl).1
      have x0 := (X1.out 0 _ rfl).1
      have qa := (Q.refl W0).alloc (.cells #[.int .i64 ok, .string ky, .string vl, .string lo, .string hi, .int .i64 m] 23)
      replace X1 := Lib.hid ((X1.out).q qa)
      replace QF := Lib.hid ((QF.out).trans qa)
      have X3 : Hid (Bx (W0.alloc (.cells #[.int .i64 ok, .string ky, .string vl, .string lo, .string hi, .int .i64 m] 23)) W0.heap.size [.int .i64 ok, .string ky, .string vl, .string lo, .string hi, .int .i64 m]) := Lib.hid (Bx.new W0 [.int .i64 ok, .string ky, .string vl, .string lo, .string hi, .int .i64 m] 23)
      clear qa
      go_upto_region 2 with (fail)
      generalize W0.alloc (.cells #[.int .i64 ok, .string ky, .string vl, .string lo, .string hi, .int .i64 m] 23) = W3 at X1 X3 QF ⊢
      generalize W0.heap.size = b3 at X3 ⊢
      clear x5
      clear x6
      clear x7
      clear x8
      clear x9
      clear x10
      clear x0
      have x0 := (X1.out 0 _ rfl).1
      have y0 := (X3.out 0 _ rfl).1
      have y1 := (X3.out 1 _ rfl).1
      have y2 := (X3.out 2 _ rfl).1
      have y3 := (X3.out 3 _ rfl).1
      have y4 := (X3.out 4 _ rfl).1
      have y5 := (X3.out 5 _ rfl).1
      go_wp2
      go_ret
      exact ⟨ret_bool (by rw [HT.out] <;> (first | (simp [c1]; done) | (simp; intros; omega))), QF.out⟩
  · rw [if_neg h5] at HT
    have hk5 : (k == 5) = false := by simpa using h5
    go_enter Tryd.func31, Tryd.ntmps31
    go_upto_region 1 with (fail)
    generalize w.alloc (.cells #[.int .i64 k, .int .i64 e, .int .i64 s, .int .i64 n, .string t, .int .i64 ok, .string ky, .string vl, .string lo, .string hi, .int .i64 m] 25) = W0 at X1 QF ⊢
    generalize w.heap.size = b1 at X1 ⊢
    have x5 := (X1.out 5 _ rfl).1
    have x6 := (X1.out 6 _ rfl).1
    have x7 := (X1.out 7 _ rfl).1
    have x8 := (X1.out 8 _ rfl).1
    have x9 := (X1.out 9 _ rfl).1
    have x10 := (X1.out 10 _ rfl).1
    have x0 := (X1.out 0 _ rfl).1
    have qa := (Q.refl W0).alloc (.cells #[.int .i64 ok, .string ky, .string vl, .string lo, .string hi, .int .i64 m] 23)
    replace X1 := Lib.hid ((X1.out).q qa)
    replace QF := Lib.hid ((QF.out).trans qa)
    have X3 : Hid (Bx (W0.alloc (.cells #[.int .i64 ok, .string ky, .string vl, .string lo, .string hi, .int .i64 m] 23)) W0.heap.size [.int .i64 ok, .string ky, .string vl, .string lo, .string hi, .int .i64 m]) := Lib.hid (Bx.new W0 [.int .i64 ok, .string ky, .string vl, .string lo, .string hi, .int .i64 m] 23)
    clear qa
    go_upto_region 2 with (fail)
    generalize W0.alloc (.cells #[.int .i64 ok, .string ky, .string vl, .string lo, .string hi, .int .i64 m] 23) = W3 at X1 X3 QF ⊢
    generalize W0.heap.size = b3 at X3 ⊢
    clear x5
    clear x6
    clear x7
    clear x8
    clear x9
    clear x10
    clear x0
    have x0 := (X1.out 0 _ rfl).1
    have y0 := (X3.out 0 _ rfl).1
    have y1 := (X3.out 1 _ rfl).1
    have y2 := (X3.out 2 _ rfl).1
    have y3 := (X3.out 3 _ rfl).1
    have y4 := (X3.out 4 _ rfl).1
    have y5 := (X3.out 5 _ rfl).1
    go_wp2
    go_ret
    exact ⟨ret_bool (by rw [HT.out] <;> (first | (rfl; done) | (simp; intros; omega))), QF.out⟩

set_option maxHeartbeats 4000000 in
theorem pmay_any (q : Rq) (w : World) : Calls Tryd.prog 13 #[rqV q] w fun e' w' => e' = .returned (.bool (may q)) ∧ Q w w' := by
  obtain ⟨k, e, s, n, t, ⟨ok, ky, vl, lo, hi, m⟩⟩ := q
  show Calls _ _ #[.agg #[.int .i64 k, .int .i64 e, .int .i64 s, .int .i64 n, .string t, .int .i64 ok, .string ky, .string vl, .string lo, .string hi, .int .i64 m]] _ _
  have X1 : Hid (Bx (w.alloc (.cells #[.int .i64 k, .int .i64 e, .int .i64 s, .int .i64 n, .string t, .int .i64 ok, .string ky, .string vl, .string lo, .string hi, .int .i64 m] 25)) w.heap.size [.int .i64 k, .int .i64 e, .int .i64 s, .int .i64 n, .string t, .int .i64 ok, .string ky, .string vl, .string lo, .string hi, .int .i64 m]) := Lib.hid (Bx.new w [.int .i64 k, .int .i64 e, .int .i64 s, .int .i64 n, .string t, .int .i64 ok, .string ky, .string vl, .string lo, .string hi, .int .i64 m] 25)
  have QF := Lib.hid ((Q.refl w).alloc (.cells #[.int .i64 k, .int .i64 e, .int .i64 s, .int .i64 n, .string t, .int .i64 ok, .string ky, .string vl, .string lo, .string hi, .int .i64 m] 25))
  have HT : Hid ((decide (1 ≤ k) && decide (k ≤ 6) && !([e, s, n].any big) && tokOk k t && opOk k ⟨ok, ky, vl, lo, hi, m⟩) = may ⟨k, e, s, n, t, ⟨ok, ky, vl, lo, hi, m⟩⟩) := Lib.hid (mayO_eq _ _ _ _ _ _)
  have KN := Lib.hid (fun W => nums_any (some ⟨W.heap.size, 0, none⟩) 3 3 [e, s, n] (W.alloc (.cells #[.int .i64 e, .int .i64 s, .int .i64 n] 3)) (lst_litn W [e, s, n]) (by unfold maxLen; omega))
  have KT := Lib.hid (fun W => mayToken_any k e s n t ok ky vl lo hi m W)
  have KO := Lib.hid (fun W => mayOpO_any k e s n t ok ky vl lo hi m W)
  generalize may ⟨k, e, s, n, t, ⟨ok, ky, vl, lo, hi, m⟩⟩ = res at HT ⊢
  generalize [e, s, n].any big = an at KN HT
  generalize tokOk k t = tt at KT HT
  generalize opOk k ⟨ok, ky, vl, lo, hi, m⟩ = oo at KO HT
  by_cases c1 : 1 ≤ k
  · have c1i : (1 : Int) ≤ k := by omega
    by_cases c2 : k ≤ 6
    · have c2i : k ≤ (6 : Int) := by omega
      cases an with
      | true =>
        go_enter Tryd.func13, Tryd.ntmps13
        go_upto_region 1 with (fail)
        generalize w.alloc (.cells #[.int .i64 k, .int .i64 e, .int .i64 s, .int .i64 n, .string t, .int .i64 ok, .string ky, .string vl, .string lo, .string hi, .int .i64 m] 25) = W0 at X1 QF ⊢
        generalize w.heap.size = b1 at X1 ⊢
        have x0 := (X1.out 0 _ rfl).1
        have x1 := (X1.out 1 _ rfl).1
        have x2 := (X1.out 2 _ rfl).1
        have x3 := (X1.out 3 _ rfl).1
        go_wp2_with fail
        refine (KN.out _).mono ?_
        rintro e1 w1 ⟨rfl, q1⟩
        have q2 := ((Q.refl W0).alloc (.cells #[.int .i64 e, .int .i64 s, .int .i64 n] 3)).trans q1
        replace X1 := Lib.hid (X1.out.q q2)
        replace QF := Lib.hid (QF.out.trans q2)
        clear q1 q2 x0 x1 x2 x3
        have x0 := (X1.out 0 _ rfl).1
        have x1 := (X1.out 1 _ rfl).1
        have x2 := (X1.out 2 _ rfl).1
        have x3 := (X1.out 3 _ rfl).1
        have x4 := (X1.out 4 _ rfl).1
        have x5 := (X1.out 5 _ rfl).1
        have x6 := (X1.out 6 _ rfl).1
        have x7 := (X1.out 7 _ rfl).1
        have x8 := (X1.out 8 _ rfl).1
        have x9 := (X1.out 9 _ rfl).1
        have x10 := (X1.out 10 _ rfl).1
        go_wp2
        go_ret
        exact ⟨ret_bool (by rw [← HT.out] <;> (first | (simp [c1, c2]; done) | (simp; intros; omega))), QF.out⟩
      | false =>
        cases tt with
        | false =>
          go_enter Tryd.func13, Tryd.ntmps13
          go_upto_region 1 with (fail)
          generalize w.alloc (.cells #[.int .i64 k, .int .i64 e, .int .i64 s, .int .i64 n, .string t, .int .i64 ok, .string ky, .string vl, .string lo, .string hi, .int .i64 m] 25) = W0 at X1 QF ⊢
          generalize w.heap.size = b1 at X1 ⊢
          have x0 := (X1.out 0 _ rfl).1
          have x1 := (X1.out 1 _ rfl).1
          have x2 := (X1.out 2 _ rfl).1
          have x3 := (X1.out 3 _ rfl).1
          go_wp2_with fail
          refine (KN.out _).mono ?_
          rintro e1 w1 ⟨rfl, q1⟩
          have q2 := ((Q.refl W0).alloc (.cells #[.int .i64 e, .int .i64 s, .int .i64 n] 3)).trans q1
          replace X1 := Lib.hid (X1.out.q q2)
          replace QF := Lib.hid (QF.out.trans q2)
          clear q1 q2 x0 x1 x2 x3
          have x0 := (X1.out 0 _ rfl).1
          have x1 := (X1.out 1 _ rfl).1
          have x2 := (X1.out 2 _ rfl).1
          have x3 := (X1.out 3 _ rfl).1
          have x4 := (X1.out 4 _ rfl).1
          have x5 := (X1.out 5 _ rfl).1
          have x6 := (X1.out 6 _ rfl).1
          have x7 := (X1.out 7 _ rfl).1
          have x8 := (X1.out 8 _ rfl).1
          have x9 := (X1.out 9 _ rfl).1
          have x10 := (X1.out 10 _ rfl).1
          go_wp2_with fail
          refine (KT.out _).mono ?_
          rintro e2 w2 ⟨rfl, q2⟩
          replace X1 := Lib.hid (X1.out.q q2)
          replace QF := Lib.hid (QF.out.trans q2)
          clear q2 x0 x1 x2 x3 x4 x5 x6 x7 x8 x9 x10
          have x0 := (X1.out 0 _ rfl).1
          have x1 := (X1.out 1 _ rfl).1
          have x2 := (X1.out 2 _ rfl).1
          have x3 := (X1.out 3 _ rfl).1
          have x4 := (X1.out 4 _ rfl).1
          have x5 := (X1.out 5 _ rfl).1
          have x6 := (X1.out 6 _ rfl).1
          have x7 := (X1.out 7 _ rfl).1
          have x8 := (X1.out 8 _ rfl).1
          have x9 := (X1.out 9 _ rfl).1
          have x10 := (X1.out 10 _ rfl).1
          go_wp2
          go_ret
          exact ⟨ret_bool (by rw [← HT.out] <;> (first | (simp [c1, c2]; done) | (simp; intros; omega))), QF.out⟩
        | true =>
          cases oo with
          | false =>
            go_enter Tryd.func13, Tryd.ntmps13
            go_upto_region 1 with (fail)
            generalize w.alloc (.cells #[.int .i64 k, .int .i64 e, .int .i64 s, .int .i64 n, .string t, .int .i64 ok, .string ky, .string vl, .string lo, .string hi, .int .i64 m] 25) = W0 at X1 QF ⊢
            generalize w.heap.size = b1 at X1 ⊢
            have x0 := (X1.out 0 _ rfl).1
            have x1 := (X1.out 1 _ rfl).1
            have x2 := (X1.out 2 _ rfl).1
            have x3 := (X1.out 3 _ rfl).1
            go_wp2_with fail
            refine (KN.out _).mono ?_
            rintro e1 w1 ⟨rfl, q1⟩
            have q2 := ((Q.refl W0).alloc (.cells #[.int .i64 e, .int .i64 s, .int .i64 n] 3)).trans q1
            replace X1 := Lib.hid (X1.out.q q2)
            replace QF := Lib.hid (QF.out.trans q2)
            clear q1 q2 x0 x1 x2 x3
            have x0 := (X1.out 0 _ rfl).1
            have x1 := (X1.out 1 _ rfl).1
            have x2 := (X1.out 2 _ rfl).1
            have x3 := (X1.out 3 _ rfl).1
            have x4 := (X1.out 4 _ rfl).1
            have x5 := (X1.out 5 _ rfl).1
            have x6 := (X1.out 6 _ rfl).1
            have x7 := (X1.out 7 _ rfl).1
            have x8 := (X1.out 8 _ rfl).1
            have x9 := (X1.out 9 _ rfl).1
            have x10 := (X1.out 10 _ rfl).1
            go_wp2_with fail
            refine (KT.out _).mono ?_
            rintro e2 w2 ⟨rfl, q2⟩
            replace X1 := Lib.hid (X1.out.q q2)
            replace QF := Lib.hid (QF.out.trans q2)
            clear q2 x0 x1 x2 x3 x4 x5 x6 x7 x8 x9 x10
            have x0 := (X1.out 0 _ rfl).1
            have x1 := (X1.out 1 _ rfl).1
            have x2 := (X1.out 2 _ rfl).1
            have x3 := (X1.out 3 _ rfl).1
            have x4 := (X1.out 4 _ rfl).1
            have x5 := (X1.out 5 _ rfl).1
            have x6 := (X1.out 6 _ rfl).1
            have x7 := (X1.out 7 _ rfl).1
            have x8 := (X1.out 8 _ rfl).1
            have x9 := (X1.out 9 _ rfl).1
            have x10 := (X1.out 10 _ rfl).1
            go_wp2_with fail
            refine (KO.out _).mono ?_
            rintro e3 w3 ⟨rfl, q2⟩
            replace QF := Lib.hid (QF.out.trans q2)
            clear q2
            go_wp2
            go_ret
            exact ⟨ret_bool (by rw [← HT.out] <;> (first | (simp [c1, c2]; done) | (simp; intros; omega))), QF.out⟩
          | true =>
            go_enter Tryd.func13, Tryd.ntmps13
            go_upto_region 1 with (fail)
            generalize w.alloc (.cells #[.int .i64 k, .int .i64 e, .int .i64 s, .int .i64 n, .string t, .int .i64 ok, .string ky, .string vl, .string lo, .string hi, .int .i64 m] 25) = W0 at X1 QF ⊢
            generalize w.heap.size = b1 at X1 ⊢
            have x0 := (X1.out 0 _ rfl).1
            have x1 := (X1.out 1 _ rfl).1
            have x2 := (X1.out 2 _ rfl).1
            have x3 := (X1.out 3 _ rfl).1
            go_wp2_with fail
            refine (KN.out _).mono ?_
            rintro e1 w1 ⟨rfl, q1⟩
            have q2 := ((Q.refl W0).alloc (.cells #[.int .i64 e, .int .i64 s, .int .i64 n] 3)).trans q1
            replace X1 := Lib.hid (X1.out.q q2)
            replace QF := Lib.hid (QF.out.trans q2)
            clear q1 q2 x0 x1 x2 x3
            have x0 := (X1.out 0 _ rfl).1
            have x1 := (X1.out 1 _ rfl).1
            have x2 := (X1.out 2 _ rfl).1
            have x3 := (X1.out 3 _ rfl).1
            have x4 := (X1.out 4 _ rfl).1
            have x5 := (X1.out 5 _ rfl).1
            have x6 := (X1.out 6 _ rfl).1
            have x7 := (X1.out 7 _ rfl).1
            have x8 := (X1.out 8 _ rfl).1
            have x9 := (X1.out 9 _ rfl).1
            have x10 := (X1.out 10 _ rfl).1
            go_wp2_with fail
            refine (KT.out _).mono ?_
            rintro e2 w2 ⟨rfl, q2⟩
            replace X1 := Lib.hid (X1.out.q q2)
            replace QF := Lib.hid (QF.out.trans q2)
            clear q2 x0 x1 x2 x3 x4 x5 x6 x7 x8 x9 x10
            have x0 := (X1.out 0 _ rfl).1
            have x1 := (X1.out 1 _ rfl).1
            have x2 := (X1.out 2 _ rfl).1
            have x3 := (X1.out 3 _ rfl).1
            have x4 := (X1.out 4 _ rfl).1
            have x5 := (X1.out 5 _ rfl).1
            have x6 := (X1.out 6 _ rfl).1
            have x7 := (X1.out 7 _ rfl).1
            have x8 := (X1.out 8 _ rfl).1
            have x9 := (X1.out 9 _ rfl).1
            have x10 := (X1.out 10 _ rfl).1
            go_wp2_with fail
            refine (KO.out _).mono ?_
            rintro e3 w3 ⟨rfl, q2⟩
            replace QF := Lib.hid (QF.out.trans q2)
            clear q2
            go_wp2
            go_ret
            exact ⟨ret_bool (by rw [← HT.out] <;> (first | (simp [c1, c2]; done) | (simp; intros; omega))), QF.out⟩
    · have c2i : ¬ k ≤ (6 : Int) := by omega
      go_enter Tryd.func13, Tryd.ntmps13
      go_upto_region 1 with (fail)
      generalize w.alloc (.cells #[.int .i64 k, .int .i64 e, .int .i64 s, .int .i64 n, .string t, .int .i64 ok, .string ky, .string vl, .string lo, .string hi, .int .i64 m] 25) = W0 at X1 QF ⊢
      generalize w.heap.size = b1 at X1 ⊢
      have x0 := (X1.out 0 _ rfl).1
      have x1 := (X1.out 1 _ rfl).1
      have x2 := (X1.out 2 _ rfl).1
      have x3 := (X1.out 3 _ rfl).1
      go_wp2
      go_ret
      exact ⟨ret_bool (by rw [← HT.out] <;> (first | (simp [c1, c2]; done) | (simp; intros; omega))), QF.out⟩
  · have c1i : ¬ (1 : Int) ≤ k := by omega
    go_enter Tryd.func13, Tryd.ntmps13
    go_upto_region 1 with (fail)
    generalize w.alloc (.cells #[.int .i64 k, .int .i64 e, .int .i64 s, .int .i64 n, .string t, .int .i64 ok, .string ky, .string vl, .string lo, .string hi, .int .i64 m] 25) = W0 at X1 QF ⊢
    generalize w.heap.size = b1 at X1 ⊢
    have x0 := (X1.out 0 _ rfl).1
    have x1 := (X1.out 1 _ rfl).1
    have x2 := (X1.out 2 _ rfl).1
    have x3 := (X1.out 3 _ rfl).1
    go_wp2
    go_ret
    exact ⟨ret_bool (by rw [← HT.out] <;> (first | (simp [c1]; done) | (simp; intros; omega))), QF.out⟩

theorem mayPO_eq (p : Rp) : (!([p.epoch, p.sess, p.seq].any big) && decide (0 ≤ p.err) && decide (p.err ≤ 16) && decide (p.val.size ≤ 64) && (decide (p.rows.length ≤ 16) && right p.rows && !p.rows.any longP)) = mayP p := by
  have hb : (!([p.epoch, p.sess, p.seq].any big)) = (small p.epoch && small p.sess && small p.seq) := by rw [Bool.eq_iff_iff]; simp [big, and_assoc]
  have hl : (!p.rows.any longP) = p.rows.all rowOk := by
    rw [Bool.eq_iff_iff]
    simp only [Bool.not_eq_true', List.any_eq_false, List.all_eq_true]
    constructor
    · intro h x hx
      have := h x hx
      unfold longP longK at this
      unfold rowOk
      simp at this ⊢
      exact this
    · intro h x hx
      have := h x hx
      unfold rowOk at this
      unfold longP longK
      simp at this ⊢
      exact this
  rw [hb, hl]
  unfold mayP
  cases small p.epoch <;> cases small p.sess <;> cases small p.seq <;> cases right p.rows <;> simp
  by_cases h1 : p.err < 0
  · simp [h1]; intro h; omega
  by_cases h2 : 16 < p.err
  · simp [h2]; intro _ h; omega
  by_cases h3 : 64 < p.val.size
  · simp [h1, h2, h3]; intro _ _ h; omega
  by_cases h4 : 16 < p.rows.length
  · simp [h1, h2, h3, h4]; intros; omega
  · simp [h1, h2, h3, h4]
    rw [Bool.eq_iff_iff]; simp
    exact ⟨fun h => h.2.2, fun h => ⟨⟨⟨by omega, by omega⟩, by omega⟩, by omega, h⟩⟩
set_option maxHeartbeats 4000000 in
theorem pmayP_any (p : Rp) (A : Option Addr) (N c : Nat) (w : World) (hA : Lst pairK w A N p.rows) (hmx : N ≤ maxLen) :
    Calls Tryd.prog 33 #[rpV p A N c] w fun e w' => e = .returned (.bool (mayP p)) ∧ Q w w' := by
  show Calls _ _ #[.agg #[.int .i64 p.epoch, .int .i64 p.sess, .int .i64 p.seq, .int .i64 p.err, .string p.val, .bool p.found, .slice A N c, .bool p.over]] _ _
  have X1 : Hid (Bx (w.alloc (.cells #[.int .i64 p.epoch, .int .i64 p.sess, .int .i64 p.seq, .int .i64 p.err, .string p.val, .bool p.found, .slice A N c, .bool p.over] 40)) w.heap.size [.int .i64 p.epoch, .int .i64 p.sess, .int .i64 p.seq, .int .i64 p.err, .string p.val, .bool p.found, .slice A N c, .bool p.over]) := Lib.hid (Bx.new w [.int .i64 p.epoch, .int .i64 p.sess, .int .i64 p.seq, .int .i64 p.err, .string p.val, .bool p.found, .slice A N c, .bool p.over] 40)
  have QF := Lib.hid ((Q.refl w).alloc (.cells #[.int .i64 p.epoch, .int .i64 p.sess, .int .i64 p.seq, .int .i64 p.err, .string p.val, .bool p.found, .slice A N c, .bool p.over] 40))
  have HT : Hid ((!([p.epoch, p.sess, p.seq].any big) && decide (0 ≤ p.err) && decide (p.err ≤ 16) && decide (p.val.size ≤ 64) && (decide (p.rows.length ≤ 16) && right p.rows && !p.rows.any longP)) = mayP p) := Lib.hid (mayPO_eq p)
  have KN := Lib.hid (fun W => nums_any (some ⟨W.heap.size, 0, none⟩) 3 3 [p.epoch, p.sess, p.seq] (W.alloc (.cells #[.int .i64 p.epoch, .int .i64 p.sess, .int .i64 p.seq] 3)) (lst_litn W [p.epoch, p.sess, p.seq]) (by unfold maxLen; omega))
  have KR := Lib.hid (fun W (q : Q w W) => rows_any A N c p.rows W (hA.q q) hmx)
  generalize mayP p = res at HT ⊢
  generalize [p.epoch, p.sess, p.seq].any big = an at KN HT
  generalize (decide (p.rows.length ≤ 16) && right p.rows && !p.rows.any longP) = rr at KR HT
  clear hA hmx
  cases an with
  | true =>
    go_enter Tryd.func33, Tryd.ntmps33
    go_upto_region 1 with (fail)
    generalize w.alloc (.cells #[.int .i64 p.epoch, .int .i64 p.sess, .int .i64 p.seq, .int .i64 p.err, .string p.val, .bool p.found, .slice A N c, .bool p.over] 40) = W0 at X1 QF ⊢
    generalize w.heap.size = b1 at X1 ⊢
    have x0 := (X1.out 0 _ rfl).1
    have x1 := (X1.out 1 _ rfl).1
    have x2 := (X1.out 2 _ rfl).1
    go_wp2_with fail
    refine (KN.out _).mono ?_
    rintro e1 w1 ⟨rfl, q1⟩
    have q2 := ((Q.refl W0).alloc (.cells #[.int .i64 p.epoch, .int .i64 p.sess, .int .i64 p.seq] 3)).trans q1
    replace X1 := Lib.hid (X1.out.q q2)
    replace QF := Lib.hid (QF.out.trans q2)
    clear q1 q2 x0 x1 x2
    have x3 := (X1.out 3 _ rfl).1
    have x4 := (X1.out 4 _ rfl).1
    have x6 := (X1.out 6 _ rfl).1
    go_wp2
    go_ret
    exact ⟨ret_bool (by rw [← HT.out] <;> (first | (simp; done) | (simp; intros; omega))), QF.out⟩
  | false =>
    by_cases c1 : 0 ≤ p.err
    · by_cases c2 : p.err ≤ 16
      · by_cases c3 : p.val.size ≤ 64
        · have c3i : (p.val.size : Int) ≤ 64 := by omega
          cases rr with
          | true =>
            go_enter Tryd.func33, Tryd.ntmps33
            go_upto_region 1 with (fail)
            generalize w.alloc (.cells #[.int .i64 p.epoch, .int .i64 p.sess, .int .i64 p.seq, .int .i64 p.err, .string p.val, .bool p.found, .slice A N c, .bool p.over] 40) = W0 at X1 QF ⊢
            generalize w.heap.size = b1 at X1 ⊢
            have x0 := (X1.out 0 _ rfl).1
            have x1 := (X1.out 1 _ rfl).1
            have x2 := (X1.out 2 _ rfl).1
            go_wp2_with fail
            refine (KN.out _).mono ?_
            rintro e1 w1 ⟨rfl, q1⟩
            have q2 := ((Q.refl W0).alloc (.cells #[.int .i64 p.epoch, .int .i64 p.sess, .int .i64 p.seq] 3)).trans q1
            replace X1 := Lib.hid (X1.out.q q2)
            replace QF := Lib.hid (QF.out.trans q2)
            clear q1 q2 x0 x1 x2
            have x3 := (X1.out 3 _ rfl).1
            have x4 := (X1.out 4 _ rfl).1
            have x6 := (X1.out 6 _ rfl).1
            go_wp2_with fail
            refine (KR.out _ QF.out).mono ?_
            rintro e2 w2 ⟨rfl, q2⟩
            replace QF := Lib.hid (QF.out.trans q2)
            clear q2
            go_wp2
            go_ret
            exact ⟨ret_bool (by rw [← HT.out] <;> (first | (simp [c1, c2, c3]; done) | (simp; intros; omega))), QF.out⟩
          | false =>
            go_enter Tryd.func33, Tryd.ntmps33
            go_upto_region 1 with (fail)
            generalize w.alloc (.cells #[.int .i64 p.epoch, .int .i64 p.sess, .int .i64 p.seq, .int .i64 p.err, .string p.val, .bool p.found, .slice A N c, .bool p.over] 40) = W0 at X1 QF ⊢
            generalize w.heap.size = b1 at X1 ⊢
            have x0 := (X1.out 0 _ rfl).1
            have x1 := (X1.out 1 _ rfl).1
            have x2 := (X1.out 2 _ rfl).1
            go_wp2_with fail
            refine (KN.out _).mono ?_
            rintro e1 w1 ⟨rfl, q1⟩
            have q2 := ((Q.refl W0).alloc (.cells #[.int .i64 p.epoch, .int .i64 p.sess, .int .i64 p.seq] 3)).trans q1
            replace X1 := Lib.hid (X1.out.q q2)
            replace QF := Lib.hid (QF.out.trans q2)
            clear q1 q2 x0 x1 x2
            have x3 := (X1.out 3 _ rfl).1
            have x4 := (X1.out 4 _ rfl).1
            have x6 := (X1.out 6 _ rfl).1
            go_wp2_with fail
            refine (KR.out _ QF.out).mono ?_
            rintro e2 w2 ⟨rfl, q2⟩
            replace QF := Lib.hid (QF.out.trans q2)
            clear q2
            go_wp2
            go_ret
            exact ⟨ret_bool (by rw [← HT.out] <;> (first | (simp [c1, c2, c3]; done) | (simp; intros; omega))), QF.out⟩
        · have c3i : ¬ (p.val.size : Int) ≤ 64 := by omega
          go_enter Tryd.func33, Tryd.ntmps33
          go_upto_region 1 with (fail)
          generalize w.alloc (.cells #[.int .i64 p.epoch, .int .i64 p.sess, .int .i64 p.seq, .int .i64 p.err, .string p.val, .bool p.found, .slice A N c, .bool p.over] 40) = W0 at X1 QF ⊢
          generalize w.heap.size = b1 at X1 ⊢
          have x0 := (X1.out 0 _ rfl).1
          have x1 := (X1.out 1 _ rfl).1
          have x2 := (X1.out 2 _ rfl).1
          go_wp2_with fail
          refine (KN.out _).mono ?_
          rintro e1 w1 ⟨rfl, q1⟩
          have q2 := ((Q.refl W0).alloc (.cells #[.int .i64 p.epoch, .int .i64 p.sess, .int .i64 p.seq] 3)).trans q1
          replace X1 := Lib.hid (X1.out.q q2)
          replace QF := Lib.hid (QF.out.trans q2)
          clear q1 q2 x0 x1 x2
          have x3 := (X1.out 3 _ rfl).1
          have x4 := (X1.out 4 _ rfl).1
          have x6 := (X1.out 6 _ rfl).1
          go_wp2
          go_ret
          exact ⟨ret_bool (by rw [← HT.out] <;> (first | (simp [c1, c2, c3]; done) | (simp; intros; omega))), QF.out⟩
      · have c2i : ¬ p.err ≤ (16 : Int) := by omega
        go_enter Tryd.func33, Tryd.ntmps33
        go_upto_region 1 with (fail)
        generalize w.alloc (.cells #[.int .i64 p.epoch, .int .i64 p.sess, .int .i64 p.seq, .int .i64 p.err, .string p.val, .bool p.found, .slice A N c, .bool p.over] 40) = W0 at X1 QF ⊢
        generalize w.heap.size = b1 at X1 ⊢
        have x0 := (X1.out 0 _ rfl).1
        have x1 := (X1.out 1 _ rfl).1
        have x2 := (X1.out 2 _ rfl).1
        go_wp2_with fail
        refine (KN.out _).mono ?_
        rintro e1 w1 ⟨rfl, q1⟩
        have q2 := ((Q.refl W0).alloc (.cells #[.int .i64 p.epoch, .int .i64 p.sess, .int .i64 p.seq] 3)).trans q1
        replace X1 := Lib.hid (X1.out.q q2)
        replace QF := Lib.hid (QF.out.trans q2)
        clear q1 q2 x0 x1 x2
        have x3 := (X1.out 3 _ rfl).1
        have x4 := (X1.out 4 _ rfl).1
        have x6 := (X1.out 6 _ rfl).1
        go_wp2
        go_ret
        exact ⟨ret_bool (by rw [← HT.out] <;> (first | (simp [c1, c2]; done) | (simp; intros; omega))), QF.out⟩
    · have c1i : ¬ (0 : Int) ≤ p.err := by omega
      go_enter Tryd.func33, Tryd.ntmps33
      go_upto_region 1 with (fail)
      generalize w.alloc (.cells #[.int .i64 p.epoch, .int .i64 p.sess, .int .i64 p.seq, .int .i64 p.err, .string p.val, .bool p.found, .slice A N c, .bool p.over] 40) = W0 at X1 QF ⊢
      generalize w.heap.size = b1 at X1 ⊢
      have x0 := (X1.out 0 _ rfl).1
      have x1 := (X1.out 1 _ rfl).1
      have x2 := (X1.out 2 _ rfl).1
      go_wp2_with fail
      refine (KN.out _).mono ?_
      rintro e1 w1 ⟨rfl, q1⟩
      have q2 := ((Q.refl W0).alloc (.cells #[.int .i64 p.epoch, .int .i64 p.sess, .int .i64 p.seq] 3)).trans q1
      replace X1 := Lib.hid (X1.out.q q2)
      replace QF := Lib.hid (QF.out.trans q2)
      clear q1 q2 x0 x1 x2
      have x3 := (X1.out 3 _ rfl).1
      have x4 := (X1.out 4 _ rfl).1
      have x6 := (X1.out 6 _ rfl).1
      go_wp2
      go_ret
      exact ⟨ret_bool (by rw [← HT.out] <;> (first | (simp [c1]; done) | (simp; intros; omega))), QF.out⟩
end Wi
end Go.Proofs.YtdipikdebapmlaaDoor

/- A region that draws its order: the condition on the world may be made stronger on the way. -/
namespace Go
set_option maxRecDepth 100000
section
variable {P : Program} {ops : Array Oper} {Q : Exit → Act → World → Prop} {md : Region.Mode} {S S' : World → Prop}
end
end Go

/- A region that draws its order and stores, as its operation k, into a cell that it loads: what is known of the world is asked only till k comes up; a load may be taken first if k waits for it. -/
namespace Go.Proofs.YtdipikdebapmlaaDoor
set_option maxRecDepth 100000
section
variable {P : Program} {ops : Array Oper} {Q : Exit → Act → World → Prop} {md : Region.Mode} {k : Nat}

/-- The pair of what is owed behind a step: S, as long as k has not come up; and what follows. -/
def Till (k : Nat) (S : World → Prop) (T : Array Bool → Act → World → Prop) (l : Array Bool) : Act → World → Prop := fun a w => (l.getD k true = false → S w) ∧ T l a w
/-- In whatever order the rest comes up: Q at the end; S till k. -/
def wpAnyL (P : Program) (md : Region.Mode) (ops : Array Oper) (Q : Exit → Act → World → Prop) (k : Nat) (S : World → Prop) (fuel : Nat) : Array Bool → Act → World → Prop :=
  Nat.rec (fun l a w => Region.ready md ops l = [] ∧ Q .normal a w)
    (fun _ T l a w => (Region.ready md ops l = [] → Q .normal a w) ∧ ∀ j, j ∈ Region.ready md ops l → wpOp P ops Q j (Till k S T (l.setIfInBounds j true)) a w) fuel

variable {S S' : World → Prop}
theorem wpAnyL_zero {l : Array Bool} {a : Act} {w : World} : wpAnyL P md ops Q k S 0 l a w ↔ Region.ready md ops l = [] ∧ Q .normal a w := Iff.rfl
theorem wpAnyL_succ {n : Nat} {l : Array Bool} {a : Act} {w : World} : wpAnyL P md ops Q k S (n + 1) l a w ↔
    (Region.ready md ops l = [] → Q .normal a w) ∧ ∀ j, j ∈ Region.ready md ops l → wpOp P ops Q j (Till k S (wpAnyL P md ops Q k S n) (l.setIfInBounds j true)) a w := Iff.rfl

/-- S dropped altogether. -/
theorem wpAnyL_plain (n : Nat) : ∀ (l : Array Bool) (a : Act) (w : World), wpAnyL P md ops Q k S n l a w → wpAny P md ops Q n l a w := by
  induction n with
  | zero => exact fun l a w h => h
  | succ n ih => exact fun l a w h => ⟨(wpAnyL_succ.1 h).1, fun j hj => wpOp_mono (fun a' w' h' => ih _ a' w' h'.2) ((wpAnyL_succ.1 h).2 j hj)⟩
theorem getD_set_up {l : Array Bool} {j : Nat} (h : l.getD k true = true) : (l.setIfInBounds j true).getD k true = true := by
  rcases Nat.decEq j k with e | rfl
  · rw [getD_set_ne true e]; exact h
  · simp [Array.getElem?_setIfInBounds]; split <;> simp
/-- Behind k nothing is asked. -/
theorem wpAnyL_free (n : Nat) : ∀ (l : Array Bool) (a : Act) (w : World), l.getD k true = true → wpAnyH P md ops Q (fun _ => True) n l a w → wpAnyL P md ops Q k S n l a w := by
  induction n with
  | zero => exact fun l a w _ h => h
  | succ n ih =>
    intro l a w hl h
    refine wpAnyL_succ.2 ⟨h.1, fun j hj => wpOp_mono (fun a' w' h' => ⟨fun e => ?_, ih _ a' w' (getD_set_up hl) h'.2⟩) (h.2 j hj)⟩
    rw [getD_set_up hl] at e
    cases e

/-- k waits for i. -/
def waitsFor (md : Region.Mode) (ops : Array Oper) (k i : Nat) : Bool := match ops[k]? with | some o => o.after.any (fun e => Region.binds md e && e.on == i) | none => false
/-- Of two that may come up now none waits for the other one. -/
theorem ready_free {l : Array Bool} {i j : Nat} {o : Oper} (hi : i ∈ Region.ready md ops l) (hj : j ∈ Region.ready md ops l) (ho : ops[j]? = some o) : ∀ e ∈ o.after, Region.binds md e = true → e.on ≠ i := by
  obtain ⟨hi0, _⟩ := mem_ready.1 hi
  obtain ⟨_, o', ho', hall⟩ := mem_ready.1 hj
  obtain rfl : o = o' := by rw [ho] at ho'; injection ho'
  intro e he hb heq
  have hl := hall e he hb
  rw [heq] at hl
  cases hg : l[i]? with
  | none => simp [hg] at hl
  | some b => simp [hg] at hi0 hl; rw [hi0] at hl; cases hl
theorem not_waits {l : Array Bool} {i : Nat} (hi : i ∈ Region.ready md ops l) (hk : waitsFor md ops k i = true) : ¬ k ∈ Region.ready md ops l := fun hj => by
  unfold waitsFor at hk
  split at hk
  · rename_i o ho
    obtain ⟨e, he, h2⟩ := Array.any_eq_true'.1 hk
    rw [Bool.and_eq_true, beq_iff_eq] at h2
    exact ready_free hi hj ho e he h2.1 h2.2
  · cases hk

/-- Number i first: nobody who could come ahead of it makes a difference, and k waits for it. -/
theorem wpAnyL_take {i : Nat} {oi : Oper} {v : Value} {fuel : Nat} {listed : Array Bool} {a : Act} {w : World} (hi : ops[i]? = some oi)
    (hs : Region.noSelect ops = true) (hf : Region.free md ops listed i = true) (hr : (Region.ready md ops listed).contains i = true)
    (hk : (listed.getD k true == false && waitsFor md ops k i && i != k) = true)
    (hQ : ∀ c a w, Q (.panic c) (a.put oi.dst v) w → Q (.panic c) a w) (hy : YieldsIf P ops S oi v a) (hS : S w)
    (h : wpAnyL P md ops Q k S fuel (listed.setIfInBounds i true) (a.put oi.dst v) w) : wpAnyL P md ops Q k S (fuel + 1) listed a w := by
  simp only [Bool.and_eq_true, beq_iff_eq, bne_iff_ne, ne_eq] at hk
  obtain ⟨⟨hku, hkw⟩, hik⟩ := hk
  have hap := Region.free_spec hi hf
  have hr' : i ∈ Region.ready md ops listed := by simpa using hr
  have hno := Region.noSelect_spec hs
  clear hf hr
  -- the same for every state: by the number of those that are left
  induction fuel generalizing listed a w with
  | zero =>
    refine wpAnyL_succ.2 ⟨fun e => absurd hr' (by rw [e]; exact List.not_mem_nil), fun j hj => ?_⟩
    rcases Nat.decEq j i with e | rfl
    · exact absurd (ready_mono hj e) (by rw [(wpAnyL_zero.1 h).1]; exact List.not_mem_nil)
    · exact hy.wpOp hi hS ⟨fun _ => hS, h⟩
  | succ n ih =>
    refine wpAnyL_succ.2 ⟨fun e => absurd hr' (by rw [e]; exact List.not_mem_nil), fun j hj => ?_⟩
    rcases Nat.decEq j i with e | rfl
    case isTrue => exact hy.wpOp hi hS ⟨fun _ => hS, h⟩
    have hjk : j ≠ k := by rintro rfl; exact not_waits hr' hkw hj
    obtain ⟨hun, oj, hoj, _⟩ := mem_ready.1 hj
    have other := wpOp_putIf hoj (hap j oj hoj e hun (ready_free hr' hj hoj)) (fun cs b => hno i oi cs b hi) (fun cs b => hno j oj cs b hoj) hQ hy ((wpAnyL_succ.1 h).2 j (ready_mono hj e))
    have hku' : (listed.setIfInBounds j true).getD k true = false := (getD_set_ne true hjk).trans hku
    refine wpOp_mono (fun a' w' ⟨hy', hS', hT⟩ => ?_) other
    have hSw : S w' := hS' (by rw [getD_set_ne true hjk, getD_set_ne true hik]; exact hku)
    rw [Array.setIfInBounds_comm _ _ (Ne.symm e)] at hT
    refine ⟨fun _ => hSw, ih hy' hSw hT hku' (fun m om hm hmi hmu hme => hap m om hm hmi ?_ hme) (ready_mono hr' (Ne.symm e))⟩
    rcases Nat.decEq j m with e2 | rfl
    · rwa [getD_set_ne true e2] at hmu
    · exact hun

def AllReadyL (P : Program) (md : Region.Mode) (ops : Array Oper) (Q : Exit → Act → World → Prop) (k : Nat) (S : World → Prop) (fuel : Nat) (listed : Array Bool) (a : Act) (w : World) (rs : List Nat) : Prop :=
  ∀ j, j ∈ rs → wpOp P ops Q j (Till k S (wpAnyL P md ops Q k S fuel) (listed.setIfInBounds j true)) a w
theorem AllReadyL.nil {fuel : Nat} {listed : Array Bool} {a : Act} {w : World} : AllReadyL P md ops Q k S fuel listed a w [] := fun _ h => absurd h List.not_mem_nil
/-- a step ahead of k: S is shown anew, and handed on. -/
theorem AllReadyL.cons {fuel : Nat} {listed : Array Bool} {a : Act} {w : World} {i : Nat} {o : Oper} {rs : List Nat} (ho : ops[i]? = some o)
    (h : ∀ K : Act → World → Prop, Shut (∀ a w, S w → (S w → wpAnyL P md ops Q k S fuel (listed.setIfInBounds i true) a w) → K a w) → if Region.wanted o (yielded ops a.tmps) = true then Oper.wp P o a w K Q else K (a.put o.dst undef) w)
    (hs : AllReadyL P md ops Q k S fuel listed a w rs) : AllReadyL P md ops Q k S fuel listed a w (i :: rs) :=
  List.forall_mem_cons.2 ⟨wpOp_step ho fun K hK => h K fun a w h1 h2 => hK a w ⟨fun _ => h1, h2 h1⟩, hs⟩
/-- the step k itself: nothing is to be shown anew. -/
theorem AllReadyL.consK {fuel : Nat} {listed : Array Bool} {a : Act} {w : World} {o : Oper} {rs : List Nat} (ho : ops[k]? = some o) (hl : (listed.setIfInBounds k true).getD k true = true)
    (h : ∀ K : Act → World → Prop, Shut (∀ a w, wpAnyH P md ops Q (fun _ => True) fuel (listed.setIfInBounds k true) a w → K a w) → if Region.wanted o (yielded ops a.tmps) = true then Oper.wp P o a w K Q else K (a.put o.dst undef) w)
    (hs : AllReadyL P md ops Q k S fuel listed a w rs) : AllReadyL P md ops Q k S fuel listed a w (k :: rs) :=
  List.forall_mem_cons.2 ⟨wpOp_step ho fun K hK => h K fun a w h2 => hK a w ⟨(fun e => by rw [hl] at e; cases e), wpAnyL_free fuel _ a w hl h2⟩, hs⟩
theorem wpAnyL_ready {rs : List Nat} {fuel : Nat} {listed : Array Bool} {a : Act} {w : World} (hr : Region.ready md ops listed = rs) (hne : rs ≠ [])
    (h : AllReadyL P md ops Q k S fuel listed a w rs) : wpAnyL P md ops Q k S (fuel + 1) listed a w :=
  wpAnyL_succ.2 ⟨fun e => absurd (hr.symm.trans e) hne, fun j hj => h j (by rwa [hr] at hj)⟩
/-- the beginning. -/
theorem wp_region_heldL (k : Nat) (S : World → Prop) {id : Nat} {a : Act} {w : World} (hm : P.follows .mixedOrders = true) (hS : S w.drew)
    (h : S w.drew → wpAnyL P .any ops Q k S ops.size (Array.replicate ops.size false) a w.drew) : (Code.region id ops true).wp P Q a w :=
  wp_region_any hm (wpAnyL_plain _ _ _ _ (h hS))
end
end Go.Proofs.YtdipikdebapmlaaDoor
