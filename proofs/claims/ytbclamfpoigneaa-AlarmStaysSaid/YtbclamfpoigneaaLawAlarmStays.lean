/- For every row of alarms, every alarm, now, id: of a heap a put, a pop, what is due and a drop make a heap. No condition. -/
import Derived.Test.YtbclamfpoigneaaAlShown
import Derived.Test.YtbclamfpoigneaaFrame
import Derived.Test.YtbclamfpoigneaaHeldL
import Derived.Deep.DeepCutAuto
namespace Go.Proofs.Ytbclamfpoigneaa.alarmStays
set_option maxRecDepth 100000
open Go.ChangeShapes Go.WideShapes Go.ChangeAt Go.RowKit Am
set_option linter.unusedVariables false
set_option linter.unusedSimpArgs false

set_option maxHeartbeats 4000000 in
theorem walk (A : Option Addr) (n c : Nat) (l : List Al) (a : Al) (now : Nat) (id : Int) (w : World) (hd : In_ alK w A n c l) (hb : n * 16 ≤ 140737488351232) (hp : ∀ a ∈ l, AlIn a) (pa : AlIn a) (hid : -9223372036854775808 ≤ id ∧ id ≤ 9223372036854775807) :
    Calls Try.prog 4 #[.agg #[.slice A n c, .int .u64 (a.at_ : Int), .int .i64 a.id, .int .u64 (now : Int), .int .i64 id]] w fun e w' => e = .returned (.bool true) ∧ Q w w' := by
  have K0 := Lib.hid (fun W => alshown_any W)
  have K1 := Lib.hid (fun W hA => rheap_any A n c l W hA (by omega))
  have HD := Lib.hid hd
  have HL := Lib.hid hd.len
  have hn2 : n ≤ 8796093021952 := by omega
  clear hp pa hid
  have HI := heapB_iff l
  generalize heapB l = hb0 at K1 HI
  have HHI := Lib.hid HI
  clear HI hd
  by_cases hup : 300 < n ∨ hb0 = false
  · by_cases hbig : 300 < n
    · have hbi : (300 : Int) < (n : Int) := by omega
      have X := Lib.hid (And.intro (((Q.refl w).alloc (.cells #[.slice A n c, .int .u64 (a.at_ : Int), .int .i64 a.id, .int .u64 (now : Int), .int .i64 id] 41)).alloc (.cells #[.int .u64 (a.at_ : Int), .int .i64 a.id] 25)) (Bx.new (w.alloc (.cells #[.slice A n c, .int .u64 (a.at_ : Int), .int .i64 a.id, .int .u64 (now : Int), .int .i64 id] 41)) [.int .u64 (a.at_ : Int), .int .i64 a.id] 25))
      rw [show (w.alloc (.cells #[.slice A n c, .int .u64 (a.at_ : Int), .int .i64 a.id, .int .u64 (now : Int), .int .i64 id] 41)).heap.size = w.heap.size + 1 by simp] at X
      go_enter Try.func4, Try.ntmps4
      go_upto_region 5 with (fail)
      change Hid (_ ∧ Bx ((w.alloc (.cells #[.slice A n c, .int .u64 (a.at_ : Int), .int .i64 a.id, .int .u64 (now : Int), .int .i64 id] 41)).alloc (.cells #[.int .u64 (a.at_ : Int), .int .i64 a.id] 25)) _ _) at X
      generalize ((w.alloc (.cells #[.slice A n c, .int .u64 (a.at_ : Int), .int .i64 a.id, .int .u64 (now : Int), .int .i64 id] 41)).alloc (.cells #[.int .u64 (a.at_ : Int), .int .i64 a.id] 25)) = w5 at X ⊢
      go_wp2_with fail
      refine (K0.out _).mono ?_
      rintro e w6 ⟨rfl, q6⟩
      go_wp2_with fail
      refine (K1.out _ (HD.out.lst.q (X.out.1.trans q6))).mono ?_
      rintro e w7 ⟨rfl, q7⟩
      go_wp2
      go_ret
      exact ⟨rfl, (X.out.1.trans q6).trans q7⟩
    · have hbf : hb0 = false := hup.resolve_left hbig
      have hbi : ¬ (300 : Int) < (n : Int) := by omega
      subst hbf
      have X := Lib.hid (And.intro (((Q.refl w).alloc (.cells #[.slice A n c, .int .u64 (a.at_ : Int), .int .i64 a.id, .int .u64 (now : Int), .int .i64 id] 41)).alloc (.cells #[.int .u64 (a.at_ : Int), .int .i64 a.id] 25)) (Bx.new (w.alloc (.cells #[.slice A n c, .int .u64 (a.at_ : Int), .int .i64 a.id, .int .u64 (now : Int), .int .i64 id] 41)) [.int .u64 (a.at_ : Int), .int .i64 a.id] 25))
      rw [show (w.alloc (.cells #[.slice A n c, .int .u64 (a.at_ : Int), .int .i64 a.id, .int .u64 (now : Int), .int .i64 id] 41)).heap.size = w.heap.size + 1 by simp] at X
      go_enter Try.func4, Try.ntmps4
      go_upto_region 5 with (fail)
      change Hid (_ ∧ Bx ((w.alloc (.cells #[.slice A n c, .int .u64 (a.at_ : Int), .int .i64 a.id, .int .u64 (now : Int), .int .i64 id] 41)).alloc (.cells #[.int .u64 (a.at_ : Int), .int .i64 a.id] 25)) _ _) at X
      generalize ((w.alloc (.cells #[.slice A n c, .int .u64 (a.at_ : Int), .int .i64 a.id, .int .u64 (now : Int), .int .i64 id] 41)).alloc (.cells #[.int .u64 (a.at_ : Int), .int .i64 a.id] 25)) = w5 at X ⊢
      go_wp2_with fail
      refine (K0.out _).mono ?_
      rintro e w6 ⟨rfl, q6⟩
      go_wp2_with fail
      refine (K1.out _ (HD.out.lst.q (X.out.1.trans q6))).mono ?_
      rintro e w7 ⟨rfl, q7⟩
      go_wp2
      go_ret
      exact ⟨rfl, (X.out.1.trans q6).trans q7⟩
  have hbig : ¬ 300 < n := fun e => hup (.inl e)
  have hbi : ¬ (300 : Int) < (n : Int) := by omega
  have hbt : hb0 = true := by
    cases hb0 with
    | true => rfl
    | false => exact absurd (.inr rfl) hup
  subst hbt
  have HH := Lib.hid (HHI.out.1 rfl)
  have hnb : n ≤ 300 := by omega
  have K2 := Lib.hid (fun W hA => apop_any A n c l W hA (by omega))
  have K3 := Lib.hid (fun W hA => adue_any A n c l now W hA (by omega))
  have K4 := Lib.hid (fun W hA => aput_any A n c l a W hA (by omega))
  have K5 := Lib.hid (fun W hA => adrop_any A n c l id W hA (by omega))
  have h2 := popR_heap HH.out
  have h3 := due_heap n l now HH.out
  have h4 := put_heap HH.out a
  have h5 := dropF_heap id l [] heap_nil
  have e2 := popR_len l
  have e3 := due_len n l now
  have e4 := put_len l a
  have e5 := dropF_len id l []
  rw [HL.out] at e2 e3 e4 e5
  rw [List.length_nil] at e5
  have KH := Lib.hid (fun (B : Option Addr) (m d : Nat) (x : List Al) (W : World) (hx : Lst alK W B m x) (hm : m ≤ 1000) (hh : Heap x) => by
    have := rheap_any B m d x W hx (by omega)
    rw [(heapB_iff x).2 hh] at this
    exact this)
  unfold RetPw at K2
  unfold RetDw at K3
  unfold RetI at K4 K5
  unfold alV at K2 K4
  generalize popR l = p at *
  generalize Am.due n l now = du at *
  obtain ⟨dk, dl⟩ := du
  simp only at K3 h3 e3
  generalize put l a = pu at *
  generalize dropF id l [] = dr at *
  generalize decide (0 < l.length) = isb at K2
  generalize g l 0 = f at K2
  have HE := Lib.hid (And.intro h2 (And.intro h3 (And.intro h4 h5)))
  have HN := Lib.hid (And.intro (show p.length ≤ 1000 by omega) (And.intro (show dk.length ≤ 1000 by omega) (And.intro (show pu.length ≤ 1000 by omega) (show dr.length ≤ 1000 by omega))))
  generalize p.length = pn at *
  generalize dk.length = dn at *
  generalize dl.length = ln at *
  generalize pu.length = un at *
  generalize dr.length = rn at *
  clear hup hbig h2 h3 h4 h5 e2 e3 e4 e5
  have X := Lib.hid (And.intro (((Q.refl w).alloc (.cells #[.slice A n c, .int .u64 (a.at_ : Int), .int .i64 a.id, .int .u64 (now : Int), .int .i64 id] 41)).alloc (.cells #[.int .u64 (a.at_ : Int), .int .i64 a.id] 25)) (Bx.new (w.alloc (.cells #[.slice A n c, .int .u64 (a.at_ : Int), .int .i64 a.id, .int .u64 (now : Int), .int .i64 id] 41)) [.int .u64 (a.at_ : Int), .int .i64 a.id] 25))
  rw [show (w.alloc (.cells #[.slice A n c, .int .u64 (a.at_ : Int), .int .i64 a.id, .int .u64 (now : Int), .int .i64 id] 41)).heap.size = w.heap.size + 1 by simp] at X
  go_enter Try.func4, Try.ntmps4
  go_upto_region 5 with (fail)
  change Hid (_ ∧ Bx ((w.alloc (.cells #[.slice A n c, .int .u64 (a.at_ : Int), .int .i64 a.id, .int .u64 (now : Int), .int .i64 id] 41)).alloc (.cells #[.int .u64 (a.at_ : Int), .int .i64 a.id] 25)) _ _) at X
  generalize ((w.alloc (.cells #[.slice A n c, .int .u64 (a.at_ : Int), .int .i64 a.id, .int .u64 (now : Int), .int .i64 id] 41)).alloc (.cells #[.int .u64 (a.at_ : Int), .int .i64 a.id] 25)) = w5 at X ⊢
  go_wp2_with fail
  refine (K0.out _).mono ?_
  rintro e w6 ⟨rfl, q6⟩
  have X6 := Lib.hid (And.intro (X.out.1.trans q6) (X.out.2.q q6))
  clear q6 X
  go_wp2_with fail
  refine (K1.out _ (HD.out.lst.q X6.out.1)).mono ?_
  rintro e w7 ⟨rfl, q7⟩
  have X7 := Lib.hid (And.intro (X6.out.1.trans q7) (X6.out.2.q q7))
  clear q7 X6
  go_wp2_with fail
  refine (K2.out _ (HD.out.q X7.out.1)).mono ?_
  rintro e w8 ⟨B8, c8, rfl, i8, q8⟩
  have q9 := (Q.refl w8).alloc (.cells #[.int .u64 (f.at_ : Int), .int .i64 f.id] 25)
  have X8 := Lib.hid (And.intro ((X7.out.1.trans q8).trans q9) (And.intro ((X7.out.2.q q8).q q9) (i8.q q9)))
  clear q8 q9 i8 X7
  go_upto_region 10 with (fail)
  change Hid (Q w (w8.alloc (.cells #[.int .u64 (f.at_ : Int), .int .i64 f.id] 25)) ∧ _) at X8
  generalize (w8.alloc (.cells #[.int .u64 (f.at_ : Int), .int .i64 f.id] 25)) = w9 at X8 ⊢
  go_wp2_with fail
  refine (K3.out _ (HD.out.q X8.out.1)).mono ?_
  rintro e w10 ⟨B10, c10, D10, d10, rfl, i10, o10, q10⟩
  have X10 := Lib.hid (And.intro (X8.out.1.trans q10) (And.intro (X8.out.2.1.q q10) (And.intro (X8.out.2.2.q q10) i10)))
  clear q10 i10 o10 X8
  obtain ⟨⟨x0, x1⟩, _⟩ := X10.out.2.1.get2
  go_wp2_with fail
  refine (K4.out _ (HD.out.q X10.out.1)).mono ?_
  rintro e w11 ⟨B11, c11, rfl, i11, q11⟩
  have X11 := Lib.hid (And.intro (X10.out.1.trans q11) (And.intro (X10.out.2.2.1.q q11) (X10.out.2.2.2.q q11)))
  clear q11 x0 x1 X10
  go_wp2_with fail
  refine (KH.out _ _ _ _ _ i11.lst HN.out.2.2.1 HE.out.2.2.1).mono ?_
  rintro e w12 ⟨rfl, q12⟩
  have X12 := Lib.hid (And.intro (X11.out.1.trans q12) (And.intro (X11.out.2.1.q q12) (X11.out.2.2.q q12)))
  clear q12 i11 X11
  go_wp2_with fail
  refine (KH.out _ _ _ _ _ X12.out.2.1.lst HN.out.1 HE.out.1).mono ?_
  rintro e w13 ⟨rfl, q13⟩
  have X13 := Lib.hid (And.intro (X12.out.1.trans q13) (X12.out.2.2.q q13))
  clear q13 X12
  go_wp2_with fail
  refine (KH.out _ _ _ _ _ X13.out.2.lst HN.out.2.1 HE.out.2.1).mono ?_
  rintro e w14 ⟨rfl, q14⟩
  have X14 := Lib.hid (X13.out.1.trans q14)
  clear q14 X13
  go_wp2_with fail
  refine (K5.out _ (HD.out.q X14.out)).mono ?_
  rintro e w15 ⟨B15, c15, rfl, i15, q15⟩
  go_wp2_with fail
  refine (KH.out _ _ _ _ _ i15.lst HN.out.2.2.2 HE.out.2.2.2).mono ?_
  rintro e w16 ⟨rfl, q16⟩
  go_wp2
  go_ret
  exact ⟨rfl, (X14.out.trans q15).trans q16⟩

theorem opened (W : World) (args : Array Value) (hn : args.size = 1) (h : ∀ (j : Nat) t v, Try.f4.params[j]? = some t → args[j]? = some v → RdV W t v) :
    Calls Try.prog 4 args W fun e W' => e = .returned (.bool true) ∧ Q W W' := by
  obtain ⟨v, rfl⟩ := args1 hn
  rw [Try.params4] at h
  obtain ⟨cs, rfl, hr⟩ := (h 0 41 v rfl rfl).struct Try.underlying41
  obtain ⟨hl, _⟩ := hr.struct Try.underlying41
  rw [show Try.prog.cellsOf 41 = 5 by kernel_rfl] at hl
  match cs, hl with
  | [x0, x1, x2, x3, x4], _ =>
    obtain ⟨A0, n0, c0, l, e0, hd0, hb0, hp0⟩ := open_als (hr.field Try.underlying41 0 (ty := 22) 0 1 rfl (by kernel_rfl))
    obtain ⟨a, e1, p1⟩ := open_al (hr.field Try.underlying41 1 (ty := 25) 1 2 rfl (by kernel_rfl))
    obtain ⟨x2, e2, s2⟩ := (hr.field Try.underlying41 2 (ty := 23) 3 1 rfl (by kernel_rfl)).int Try.underlying23
    obtain ⟨now, y2⟩ := u64_nat s2
    subst y2
    obtain ⟨id, e3, s3⟩ := (hr.field Try.underlying41 3 (ty := 3) 4 1 rfl (by kernel_rfl)).int Try.underlying3
    simp at e0 e1 e2 e3
    obtain ⟨rfl, rfl⟩ := e1
    subst e0 e2 e3
    exact walk A0 n0 c0 l a now id W hd0 hb0 hp0 p1 (wf_i64 s3)

set_option maxRecDepth 100000 in
theorem lifted (os : Os) (started : os.Started) (H : Type) (enc : TypeId × Value → H) :
    ReturnsInHanded {} Try.checked os 4 .any (Rows.alarmStaysSpec.pre6 enc Try.prog Try.f4 Rows.alarmStaysRow.domain false) (Rows.alarmStaysSpec.post enc Try.prog Try.f4 false true false false) :=
  framed 1 Try.func4 (by rw [Try.params4]; rfl) rfl (by kernel_rfl) (by kernel_rfl) (by kernel_rfl)
    (fun H ds h => by match ds, h with | [d0], _ => exact ⟨rfl, rfl, rfl⟩)
    opened os started H enc
    (ChangeSpec.witness6 (enc := enc) (C := Try.checked) false ⟨#[], #[.agg #[.slice none 0 0, .int .u64 0, .int .i64 0, .int .u64 0, .int .i64 0]], []⟩ 8 (by kernel_rfl) (by kernel_rfl) (by kernel_rfl) (by kernel_rfl))

theorem over : Rows.alarmStaysRow.holds Try.pinned (OpenSpec.ofChange Rows.alarmStaysSpec) :=
  OpenClaim.holds_of_wide 4 Try.f4 rfl rfl rfl rfl rfl rfl rfl ⟨rfl, rfl, rfl, rfl, rfl⟩ rfl rfl rfl rfl rfl (by kernel_rfl) Try.func4 (by kernel_rfl)
    (of_decide_eq_true (by kernel_rfl)) (by unfold Func.isWrapper; first | (rw [if_pos (by decide +kernel)]; kernel_rfl) | (rw [if_neg (by decide +kernel)]; exact ⟨rfl, rfl⟩))
    (fun os started H enc _ => lifted os started H enc)

theorem proved : Rows.AlarmStaysSaid := over
end Go.Proofs.Ytbclamfpoigneaa.alarmStays
