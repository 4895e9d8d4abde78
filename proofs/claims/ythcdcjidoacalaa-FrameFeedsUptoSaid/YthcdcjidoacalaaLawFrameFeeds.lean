/- For every buffer and every bytes of at most 1048576 cells: what is wrapped, which frames bytes have, and what a piece makes of a buffer, is as the document says. -/
import Derived.Test.YthcdcjidoacalaaFrmIn
import Derived.Test.YthcdcjidoacalaaFrameU
namespace Go.Proofs.Ythcdcjidoacalaa.frameFeedsUpto
set_option maxRecDepth 100000
open Go.ChangeShapes Go.WideShapes Go.ChangeAt Go.RowKit Fm
set_option linter.unusedVariables false
set_option linter.unusedSimpArgs false

theorem wrapV (l : List UInt8) : ∃ X k, wrapR l = .tuple #[.string X, .int .i64 k] := by
  unfold wrapR
  split
  · exact ⟨_, _, rfl⟩
  · exact ⟨_, _, rfl⟩
set_option maxHeartbeats 4000000 in
theorem walk (b : Bf) (s : ByteArray) (w : World) (p0 : b.rest.length ≤ 140737488351232) (s1 : s.size ≤ 140737488351232) (u0 : b.rest.length ≤ 1048576) (u1 : s.size ≤ 1048576) :
    Calls Try.prog 3 #[bfV b, .string s] w fun e w' => e = .returned (.bool true) ∧ Q w w' := by
  have hc1 := wh_count s.data.toList
  have hc2 := wh_count (b.rest ++ s.data.toList)
  rw [List.length_append] at hc2
  rw [size_list] at hc1 hc2
  have K0 := Lib.hid (fun W => fshown_any W)
  have K1 := Lib.hid (fun W => fwrap_any s W (by omega))
  have K2 := Lib.hid (fun W => frefWrap_any s W (by omega))
  have K3 := Lib.hid (fun W => fwhole_any s W (by unfold maxLen; omega) (by omega))
  have K4 := Lib.hid (fun W => frefWhole_any s W (by unfold maxLen; omega) (by omega))
  have K5 := Lib.hid (fun W => ffeed_any b s W (by omega) (by omega))
  have K6 := Lib.hid (fun W => frefFeed_any b s W (by omega) (by omega))
  have K7 := Lib.hid (fun A B n c m d l W h1 h2 => same_self A B n c m d l W h1 h2)
  have hl : (wh s.data.toList).1.length ≤ maxLen := by unfold maxLen; omega
  have hl2 : (feed b s.data.toList).2.1.length ≤ maxLen := by
    have : (feed b s.data.toList).2.1.length * 2 ≤ b.rest.length + s.size := by
      unfold feed
      split
      · simp
      · split
        · exact hc2
        · exact hc2
    unfold maxLen; omega
  obtain ⟨X, k, hX⟩ := wrapV s.data.toList
  rw [hX] at K1 K2
  generalize (wh s.data.toList).1 = l at *
  generalize usedN s.data.toList = n at *
  generalize on s.data.toList = o at *
  generalize feed b s.data.toList = f at *
  obtain ⟨⟨yr, yb⟩, m, j⟩ := f
  obtain ⟨r, bad⟩ := b
  unfold RetF bfV at *
  simp only at K5 K6 hl2 ⊢
  generalize tx r = R at *
  generalize tx yr = Y at *
  have HL := Lib.hid (And.intro hl hl2)
  clear hc1 hc2 p0 s1 u0 u1 hX hl hl2
  have B := Bx.new w [.string R, .bool bad] 23
  have bq : Q w (w.alloc (.cells #[.string R, .bool bad] 23)) := (Q.refl w).alloc _
  have D := Lib.hid (And.intro B bq)
  clear B bq
  go_enter Try.func3, Try.ntmps3
  go_wp2_with fail
  have D1 := D
  change Hid (Bx (w.alloc (.cells #[.string R, .bool bad] 23)) _ _ ∧ _) at D1
  generalize (w.alloc (.cells #[.string R, .bool bad] 23)) = W0 at D1 ⊢
  clear D
  refine (K0.out _).mono ?_
  rintro e w1 ⟨rfl, q1⟩
  have D2 := Lib.hid (And.intro (D1.out.1.q q1) (D1.out.2.trans q1))
  clear D1 q1
  go_wp2_with fail
  refine (K1.out _).mono ?_
  rintro e w2 ⟨rfl, q2⟩
  have D3 := Lib.hid (And.intro (D2.out.1.q q2) (D2.out.2.trans q2))
  clear D2 q2
  go_wp2_with fail
  refine (K2.out _).mono ?_
  rintro e w3 ⟨rfl, q3⟩
  have D4 := Lib.hid (And.intro (D3.out.1.q q3) (D3.out.2.trans q3))
  clear D3 q3
  go_wp2_with fail
  refine (K3.out _).mono ?_
  rintro e w4 ⟨A1, c1, rfl, o1, q4⟩
  have D5 := Lib.hid (And.intro (D4.out.1.q q4) (And.intro (D4.out.2.trans q4) o1.lst))
  clear D4 q4 o1
  go_wp2_with fail
  refine (K4.out _).mono ?_
  rintro e w5 ⟨A2, c2, rfl, o2, q5⟩
  have D6 := Lib.hid (And.intro (D5.out.1.q q5) (And.intro (D5.out.2.1.trans q5) (And.intro (D5.out.2.2.q q5) o2.lst)))
  clear D5 q5 o2
  obtain ⟨⟨c0, c1x⟩, _⟩ := D6.out.1.get2
  go_wp2_with fail
  refine (K5.out _).mono ?_
  rintro e w6 ⟨A3, c3, rfl, o3, q6⟩
  have D7 := Lib.hid (And.intro (D6.out.1.q q6) (And.intro (D6.out.2.1.trans q6) (And.intro (D6.out.2.2.1.q q6) (And.intro (D6.out.2.2.2.q q6) o3.lst))))
  clear D6 q6 o3 c0 c1x
  have r7 : Q w6 (w6.alloc (.cells #[.string Y, .bool yb] 23)) := (Q.refl w6).alloc _
  have D8 := Lib.hid (And.intro (D7.out.1.q r7) (And.intro (D7.out.2.1.trans r7) (And.intro (D7.out.2.2.1.q r7) (And.intro (D7.out.2.2.2.1.q r7) (And.intro (D7.out.2.2.2.2.q r7) (Bx.new w6 [.string Y, .bool yb] 23))))))
  clear D7 r7
  obtain ⟨⟨c0, c1x⟩, _⟩ := D8.out.1.get2
  go_wp2_with fail
  change Hid (Bx (w6.alloc (.cells #[.string Y, .bool yb] 23)) _ _ ∧ _ ∧ _ ∧ _ ∧ _ ∧ Bx (w6.alloc (.cells #[.string Y, .bool yb] 23)) _ _) at D8
  generalize hz : w6.heap.size = n6 at D8 ⊢
  generalize (w6.alloc (.cells #[.string Y, .bool yb] 23)) = w7 at D8 c0 c1x ⊢
  clear hz
  refine (K6.out _).mono ?_
  rintro e w8 ⟨A4, c4, rfl, o4, q8⟩
  have D9 := Lib.hid (And.intro (D8.out.2.1.trans q8) (And.intro (D8.out.2.2.1.q q8) (And.intro (D8.out.2.2.2.1.q q8) (And.intro (D8.out.2.2.2.2.1.q q8) (And.intro (D8.out.2.2.2.2.2.q q8) o4.lst)))))
  clear D8 q8 o4 c0 c1x
  have r9 : Q w8 (w8.alloc (.cells #[.string Y, .bool yb] 23)) := (Q.refl w8).alloc _
  have E := Lib.hid (And.intro (D9.out.1.trans r9) (And.intro (D9.out.2.1.q r9) (And.intro (D9.out.2.2.1.q r9) (And.intro (D9.out.2.2.2.1.q r9) (And.intro (D9.out.2.2.2.2.1.q r9) (And.intro (D9.out.2.2.2.2.2.q r9) (Bx.new w8 [.string Y, .bool yb] 23)))))))
  clear D9 r9
  go_wp2_with fail
  change Hid (_ ∧ _ ∧ _ ∧ _ ∧ _ ∧ _ ∧ Bx (w8.alloc (.cells #[.string Y, .bool yb] 23)) _ _) at E
  generalize hz : w8.heap.size = n8 at E ⊢
  generalize (w8.alloc (.cells #[.string Y, .bool yb] 23)) = w9 at E ⊢
  clear hz
  refine (K7.out _ _ _ _ _ _ _ _ E.out.2.1 E.out.2.2.1 HL.out.1).mono ?_
  rintro e w10 ⟨rfl, q10⟩
  have E2 := Lib.hid (And.intro (E.out.1.trans q10) (And.intro (E.out.2.2.2.1.q q10) (And.intro (E.out.2.2.2.2.1.q q10) (And.intro (E.out.2.2.2.2.2.1.q q10) (E.out.2.2.2.2.2.2.q q10)))))
  clear E q10
  go_wp2_with fail
  refine (K7.out _ _ _ _ _ _ _ _ E2.out.2.1 E2.out.2.2.2.1 HL.out.2).mono ?_
  rintro e w11 ⟨rfl, q11⟩
  have E3 := Lib.hid (And.intro (E2.out.1.trans q11) (And.intro (E2.out.2.2.1.q q11) (E2.out.2.2.2.2.q q11)))
  clear E2 q11
  obtain ⟨⟨y0, y1⟩, _⟩ := E3.out.2.1.get2
  obtain ⟨⟨z0, z1⟩, _⟩ := E3.out.2.2.get2
  go_wp2
  go_ret
  exact ⟨rfl, E3.out.1⟩

theorem opened (W : World) (args : Array Value) (hn : args.size = 2) (h : ∀ (j : Nat) t v, Try.f3.params[j]? = some t → args[j]? = some v → RdV W t v ∧ (true = true → RdU W t v.cells.toList)) :
    Calls Try.prog 3 args W fun e W' => e = .returned (.bool true) ∧ Q W W' := by
  obtain ⟨v0, v1, rfl⟩ := args2 hn
  rw [Try.params3] at h
  obtain ⟨cs0, e0, r0⟩ := (h 0 23 v0 rfl rfl).1.struct Try.underlying23
  obtain ⟨b, f0, p0⟩ := open_buf r0
  subst f0
  obtain ⟨s, e1, s1⟩ := (h 1 9 v1 rfl rfl).1.string Try.underlying9
  subst e0 e1
  have u0 := small_buf (w := W) (b := b) (by exact ((h 0 23 _ rfl rfl).2 rfl))
  have u1 := RdU.string (w := W) (t := 9) (s := s) (by exact ((h 1 9 _ rfl rfl).2 rfl)) Try.underlying9
  exact walk b s W p0 s1 u0 u1

set_option maxRecDepth 100000 in
theorem lifted (os : Os) (started : os.Started) (H : Type) (enc : TypeId × Value → H) (F : Stop.Interp) :
    ReturnsInHanded {} Try.checked os 3 .any ((Rows.OpenSpec.upto Rows.frameFeedsSpec).pre6 enc Try.prog Try.f3 Rows.frameFeedsUptoRow.domain false) (((Rows.OpenSpec.upto Rows.frameFeedsSpec).at F).post enc Try.prog Try.f3 false true false false) :=
  framedU (s := Rows.frameFeedsSpec) 2 Try.func3 (by rw [Try.params3]; rfl) rfl (by kernel_rfl) (by kernel_rfl) (by kernel_rfl)
    (fun H ds h => by match ds, h with | [d0, d1], _ => exact ⟨rfl, rfl, rfl⟩)
    opened os started H enc F
    (OpenSpec.witness (enc := enc) (C := Try.checked) (s := Rows.OpenSpec.upto Rows.frameFeedsSpec) (k := Rows.uptoSmall) rfl false ⟨#[], #[.agg #[.string ⟨#[]⟩, .bool false], .string ⟨#[]⟩], []⟩ 8 (by kernel_rfl) (by kernel_rfl) (by kernel_rfl)
      (x := ([.agg [.lit (.string []), .lit (.bool false)], .lit (.string [])], [], [])) (by kernel_rfl) (by kernel_rfl) (by kernel_rfl))

theorem proved : Rows.FrameFeedsUptoSaid :=
  OpenClaim.holds_of_cond 3 Try.f3 rfl rfl rfl rfl rfl rfl rfl ⟨rfl, rfl, rfl, rfl, rfl⟩ rfl rfl rfl rfl rfl (by kernel_rfl) Try.func3 (by kernel_rfl)
    (of_decide_eq_true (by kernel_rfl)) (by unfold Func.isWrapper; first | (rw [if_pos (by decide +kernel)]; kernel_rfl) | (rw [if_neg (by decide +kernel)]; exact ⟨rfl, rfl⟩))
    (fun os started H enc _ F => lifted os started H enc F)
end Go.Proofs.Ythcdcjidoacalaa.frameFeedsUpto
