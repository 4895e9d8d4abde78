/- For every batch and every bytes: which batches may be, their bytes, and the batch of bytes, are as the document says. No condition. -/
import Derived.Test.YtlbjobbmjccekaaA5
import Derived.Test.YtlbjobbmjccekaaA7
import Derived.Test.YtlbjobbmjccekaaA3
namespace Go.Proofs.Ytlbjobbmjccekaa.batchBytes
set_option maxRecDepth 100000
open Go.ChangeShapes Go.WideShapes Go.ChangeAt Go.RowKit Prm
set_option linter.unusedVariables false
set_option linter.unusedSimpArgs false

set_option maxHeartbeats 8000000 in
theorem walk (k : Int) (tok : ByteArray) (C : Option Addr) (p q : Nat) (ws : List Wr) (s : ByteArray) (w : World) (hC : In_ writeK w C p q ws) (hs : s.size ≤ 140737488351232) :
    Calls Try.prog 3 #[batV k tok C p q, .string s] w fun e w' => e = .returned (.bool true) ∧ Q w w' := by
  have hp := hC.max
  have KB := Lib.hid (fun W y => bbytes_any k tok C p q ws W (hC.lst.q y) hp)
  have KR := Lib.hid (fun W y => refBytesB_any k tok C p q ws W (hC.lst.q y) hp)
  have KM := Lib.hid (fun W y => may_any k tok C p q ws W (hC.lst.q y) hp)
  have KN := Lib.hid (fun W y => refMay_any k tok C p q ws W (hC.lst.q y) hp)
  have KT := Lib.hid (fun W => btake_any s W (by unfold maxLen; omega))
  have KU := Lib.hid (fun W => refTakeB_any s W (by unfold maxLen; omega))
  generalize (⟨(Bm.bytesM ⟨k, tok, ws⟩).1.toArray⟩ : ByteArray) = S at KB KR
  generalize (Bm.bytesM ⟨k, tok, ws⟩).2 = er at KB KR
  generalize Bm.may ⟨k, tok, ws⟩ = my at KM KN
  have hlen : (Bm.take s.data.toList).1.ws.length ≤ maxLen := by
    have := Bm.take_len s.data.toList
    unfold maxLen; omega
  generalize Bm.take s.data.toList = T at KT KU hlen
  obtain ⟨⟨tk, tt, tw⟩, te⟩ := T
  simp only at hlen
  have HTl := Lib.hid hlen
  clear hC hs hlen hp
  go_enter Try.func3, Try.ntmps3
  go_wp2_with fail
  refine (bshown_any _).mono ?_
  rintro e w1 ⟨rfl, q1⟩
  have X1 := Lib.hid ((Bx.new w [.int .i64 k, .string tok, .slice C p q] 24).q q1)
  have Q1 := Lib.hid (((Q.refl w).alloc _).trans q1)
  clear q1
  obtain ⟨c0, c1, c2⟩ := X1.out.get3.1
  go_wp2_with fail
  refine (KB.out _ Q1.out).mono ?_
  rintro e w2 ⟨rfl, q2⟩
  have X2 := Lib.hid (X1.out.q q2)
  have Q2 := Lib.hid (Q1.out.trans q2)
  clear q2 c0 c1 c2 X1 Q1
  obtain ⟨c0, c1, c2⟩ := X2.out.get3.1
  go_wp2_with fail
  refine (KR.out _ Q2.out).mono ?_
  rintro e w3 ⟨rfl, q3⟩
  have X3 := Lib.hid (X2.out.q q3)
  have Q3 := Lib.hid (Q2.out.trans q3)
  clear q3 c0 c1 c2 X2 Q2
  go_wp2_with fail
  refine (KT.out _).mono ?_
  rintro e w4 ⟨A4, c4, rfl, o4, q4⟩
  have X4 := Lib.hid ((X3.out.q q4).alloc (.cells #[.int .i64 tk, .string tt, .slice A4 tw.length c4] 24))
  have Q4 := Lib.hid ((Q3.out.trans q4).alloc (.cells #[.int .i64 tk, .string tt, .slice A4 tw.length c4] 24))
  have O4 := Lib.hid (o4.lst.q ((Q.refl _).alloc (.cells #[.int .i64 tk, .string tt, .slice A4 tw.length c4] 24)))
  have B4 := Lib.hid (Bx.new w4 [.int .i64 tk, .string tt, .slice A4 tw.length c4] 24)
  have L4 := Lib.hid (show w4.heap.size < (w4.alloc (.cells #[.int .i64 tk, .string tt, .slice A4 tw.length c4] 24)).heap.size by simp)
  clear q4 o4 X3 Q3
  simp only at O4
  go_wp2_with fail
  refine (KU.out _).mono ?_
  rintro e w5 ⟨A5, c5, rfl, o5, q5⟩
  have X5 := Lib.hid ((X4.out.q q5).alloc (.cells #[.int .i64 tk, .string tt, .slice A5 tw.length c5] 24))
  have Q5 := Lib.hid ((Q4.out.trans q5).alloc (.cells #[.int .i64 tk, .string tt, .slice A5 tw.length c5] 24))
  have O5 := Lib.hid (o5.lst.q ((Q.refl _).alloc (.cells #[.int .i64 tk, .string tt, .slice A5 tw.length c5] 24)))
  have P4 := Lib.hid ((O4.out.q q5).q ((Q.refl _).alloc (.cells #[.int .i64 tk, .string tt, .slice A5 tw.length c5] 24)))
  have C4 := Lib.hid ((B4.out.q q5).alloc (.cells #[.int .i64 tk, .string tt, .slice A5 tw.length c5] 24))
  have C5 := Lib.hid (Bx.new w5 [.int .i64 tk, .string tt, .slice A5 tw.length c5] 24)
  clear q5 o5 X4 Q4 O4 B4 L4
  simp only at O5
  obtain ⟨d0, d1, d2⟩ := C4.out.get3.1
  obtain ⟨f0, f1, f2⟩ := C5.out.get3.1
  go_wp2_with fail
  refine (sameBatch_any tk tk tt tt A4 A5 tw.length c4 tw.length c5 tw tw _ P4.out O5.out HTl.out HTl.out).mono ?_
  rw [decide_eq_true rfl]
  rintro e w6 ⟨rfl, q6⟩
  have X6 := Lib.hid (X5.out.q q6)
  have Q6 := Lib.hid (Q5.out.trans q6)
  clear q6 X5 Q5 d0 d1 d2 f0 f1 f2 C4 C5 P4 O5
  obtain ⟨c0, c1, c2⟩ := X6.out.get3.1
  have hbb : (my == my) = true := by cases my <;> rfl
  go_wp2
  go_region_held3 (fun w' => w'.cell? ⟨w.heap.size, 0, none⟩ = some (.int .i64 k) ∧ w'.cell? ⟨w.heap.size, 1, none⟩ = some (.string tok) ∧ w'.cell? ⟨w.heap.size, 2, none⟩ = some (.slice C p q))
    (first
      | go_keep
      | (go_split_ands
         (repeat' apply And.intro) <;> exact box_ ‹Q _ _› (by assumption)))
    (first
      | (go_at_call 17
         refine (KM.out _ Q6.out.drew).mono ?_
         rintro e w7 ⟨rfl, y7⟩)
      | (go_at_call 18
         refine (KN.out _ (Q6.out.drew.trans y7)).mono ?_
         rintro e w8 ⟨rfl, y8⟩))
  have Y := Lib.hid ((Q6.out.drew.trans y7).trans y8)
  clear y7 y8
  go_wp2
  go_ret
  exact ⟨by first | rfl | simp, Y.out⟩
theorem opened (W : World) (args : Array Value) (hn : args.size = 2) (h : ∀ (j : Nat) t v, Try.f3.params[j]? = some t → args[j]? = some v → RdV W t v) :
    Calls Try.prog 3 args W fun e W' => e = .returned (.bool true) ∧ Q W W' := by
  obtain ⟨v0, v1, rfl⟩ := args2 hn
  rw [Try.params3] at h
  obtain ⟨cs, rfl, hr⟩ := (h 0 24 v0 rfl rfl).struct Try.underlying24
  obtain ⟨s, rfl, s1⟩ := (h 1 9 v1 rfl rfl).string Try.underlying9
  obtain ⟨k, tok, C, p, q, ws, rfl, h1, h2, h3, h4, _⟩ := open_batch hr
  exact walk k tok C p q ws s W h2 s1

set_option maxRecDepth 100000 in
theorem lifted (os : Os) (started : os.Started) (H : Type) (enc : TypeId × Value → H) :
    ReturnsInHanded {} Try.checked os 3 .any (Rows.batchBytesSpec.pre6 enc Try.prog Try.f3 Rows.batchBytesRow.domain false) (Rows.batchBytesSpec.post enc Try.prog Try.f3 false true false false) :=
  framed 2 Try.func3 (by rw [Try.params3]; rfl) rfl (by kernel_rfl) (by kernel_rfl) (by kernel_rfl)
    (fun H ds h => by match ds, h with | [d0, d1], _ => exact ⟨rfl, rfl, rfl⟩)
    opened os started H enc
    (ChangeSpec.witness6 (enc := enc) (C := Try.checked) false ⟨#[], #[.agg #[.int .i64 0, .string ⟨#[]⟩, .slice none 0 0], .string ⟨#[]⟩], []⟩ 8 (by kernel_rfl) (by kernel_rfl) (by kernel_rfl) (by kernel_rfl))

theorem over : Rows.batchBytesRow.holds Try.pinned (OpenSpec.ofChange Rows.batchBytesSpec) :=
  OpenClaim.holds_of_wide 3 Try.f3 rfl rfl rfl rfl rfl rfl rfl ⟨rfl, rfl, rfl, rfl, rfl⟩ rfl rfl rfl rfl rfl (by kernel_rfl) Try.func3 (by kernel_rfl)
    (of_decide_eq_true (by kernel_rfl)) (by unfold Func.isWrapper; first | (rw [if_pos (by decide +kernel)]; kernel_rfl) | (rw [if_neg (by decide +kernel)]; exact ⟨rfl, rfl⟩))
    (fun os started H enc _ => lifted os started H enc)

theorem proved : Rows.BatchBytesSaid := over
end Go.Proofs.Ytlbjobbmjccekaa.batchBytes
