/- For every base and keys: without writes all is read as it is. No condition. -/
import Derived.Test.YtcclgepccahhbaaPairIn
import Derived.Test.YtcclgepccahhbaaViewShown
namespace Go.Proofs.Ytcclgepccahhbaa.viewNothing
set_option maxRecDepth 100000
open Go.ChangeShapes Go.WideShapes Go.ChangeAt Go.RowKit Prm Vm
set_option linter.unusedVariables false
set_option linter.unusedSimpArgs false

set_option maxHeartbeats 8000000 in
set_option maxRecDepth 100000 in
theorem walk (B : Option Addr) (m d : Nat) (base : List Pr) (key lo hi : ByteArray) (most : Int) (w : World) (hd2 : In_ pairK w B m d base) (hb2 : m * 32 ≤ 140737488351232) (hp2 : ∀ p ∈ base, PrIn p) (h1 : key.size ≤ 140737488351232) (h2 : lo.size ≤ 140737488351232) (h3 : hi.size ≤ 140737488351232) (h4 : -9223372036854775808 ≤ most ∧ most ≤ 9223372036854775807) :
    Calls Try.prog 9 #[.agg #[.slice B m d, .string key, .string lo, .string hi, .int .i64 most]] w fun e w' => e = .returned (.bool true) ∧ Q w w' := by
  have HB := Lib.hid hd2
  have k1 : lo.size ≤ maxLen := by unfold maxLen; omega
  have k2 : hi.size ≤ maxLen := by unfold maxLen; omega
  have hmn : (m + 0) * 32 ≤ 140737488355328 := by omega
  have hmm : m * 32 ≤ 140737488355328 := by omega
  have G1 := Lib.hid (fun W (g : In_ pairK W B m d base) => vget_any key none B 0 0 m d [] base W (Lst.nil W none) (Nat.zero_le _) g.lst g.max)
  have G2 := Lib.hid (fun W (g : In_ pairK W B m d base) => refFind_any key B m d base W g.lst g.max)
  have C1 := Lib.hid (fun W (g : In_ pairK W B m d base) => vscan_any lo hi most none B 0 0 m d [] base W (Lst.nil W none) g hmn h4.2)
  have C2 := Lib.hid (fun W (g : In_ pairK W B m d base) => refRange_any lo hi most B m d base W g.lst hmm h4.2 (keys_in hp2) k1 k2)
  have S1 := Lib.hid (fun W => vsize_any none 0 0 [] W (Lst.nil W none) (Nat.zero_le _) (fun x hx => by cases hx))
  have U1 := Lib.hid (fun W => vrises_any none 0 0 [] W (Lst.nil W none) (Nat.zero_le _))
  rw [show Vm.get [] base key = find key base from rfl] at G1
  rw [show apply base [] = base from rfl] at C1
  rw [szI_nil] at S1
  rw [show risesB [] = true from rfl] at U1
  have LN := Lib.hid (show (range base lo hi most).length ≤ maxLen by
    have h2 : (range base lo hi most).length ≤ base.length := Nat.le_trans (List.length_take_le' _ _) (List.length_filter_le _ _)
    have := hd2.len
    unfold maxLen; omega)
  generalize range base lo hi most = r at C1 C2 LN
  generalize find key base = gg at G1 G2
  obtain ⟨g1, g2⟩ := gg
  clear hd2 hp2 hb2 hmn hmm
  go_enter Try.func9, Try.ntmps9
  go_wp2_with fail
  refine (vshown_any _).mono ?_
  rintro e w1 ⟨rfl, q1⟩
  have Q1 := Lib.hid (((Q.refl w).alloc _).trans q1)
  clear q1
  go_wp2_with fail
  refine (G1.out _ (HB.out.q Q1.out)).mono ?_
  rintro e w2 ⟨rfl, q2⟩
  have Q2 := Lib.hid (Q1.out.trans q2)
  clear q2
  go_wp2_with fail
  refine (G2.out _ (HB.out.q Q2.out)).mono ?_
  rintro e w3 ⟨rfl, rfl⟩
  go_wp2_with fail
  refine (C1.out _ (HB.out.q Q2.out)).mono ?_
  rintro e w4 ⟨A4, c4, rfl, o4, q4⟩
  have Q4 := Lib.hid (Q2.out.trans q4)
  have O4 := Lib.hid o4
  clear q4 o4
  go_wp2_with fail
  refine (C2.out _ (HB.out.q Q4.out)).mono ?_
  rintro e w5 ⟨A5, c5, rfl, o5, q5⟩
  have Q5 := Lib.hid (Q4.out.trans q5)
  have O4 := Lib.hid (O4.out.q q5)
  have O5 := Lib.hid o5
  clear q5 o5
  go_wp2_with fail
  refine (psame A4 A5 r.length c4 c5 r _ O4.out.lst O5.out.lst LN.out).mono ?_
  rintro e w6 ⟨rfl, q6⟩
  have Q6 := Lib.hid (Q5.out.trans q6)
  clear q6
  go_wp2_with fail
  refine (S1.out _).mono ?_
  rintro e w7 ⟨rfl, q7⟩
  have Q7 := Lib.hid (Q6.out.trans q7)
  clear q7
  go_wp2_with fail
  refine (U1.out _).mono ?_
  rintro e w8 ⟨rfl, q8⟩
  have Q8 := Lib.hid (Q7.out.trans q8)
  clear q8
  go_wp2
  all_goals go_ret
  all_goals exact ⟨by first | rfl | simp, Q8.out⟩

theorem opened (W : World) (args : Array Value) (hn : args.size = 1) (h : ∀ (j : Nat) t v, Try.f9.params[j]? = some t → args[j]? = some v → RdV W t v) :
    Calls Try.prog 9 args W fun e W' => e = .returned (.bool true) ∧ Q W W' := by
  obtain ⟨v, rfl⟩ := args1 hn
  rw [Try.params9] at h
  obtain ⟨cs, rfl, hr⟩ := (h 0 48 v rfl rfl).struct Try.underlying48
  obtain ⟨hl, _⟩ := hr.struct Try.underlying48
  rw [show Try.prog.cellsOf 48 = 5 by kernel_rfl] at hl
  match cs, hl with
  | [x0, x1, x2, x3, x4], _ =>
    obtain ⟨A0, n0, c0, base, e0, hd0, hb0, hp0⟩ := open_pairs (hr.field Try.underlying48 0 (ty := 31) 0 1 rfl (by kernel_rfl))
    obtain ⟨key, e1, s1⟩ := (hr.field Try.underlying48 1 (ty := 9) 1 1 rfl (by kernel_rfl)).string Try.underlying9
    obtain ⟨lo, e2, s2⟩ := (hr.field Try.underlying48 2 (ty := 9) 2 1 rfl (by kernel_rfl)).string Try.underlying9
    obtain ⟨hi, e3, s3⟩ := (hr.field Try.underlying48 3 (ty := 9) 3 1 rfl (by kernel_rfl)).string Try.underlying9
    obtain ⟨most, e4, s4⟩ := (hr.field Try.underlying48 4 (ty := 3) 4 1 rfl (by kernel_rfl)).int Try.underlying3
    simp at e0 e1 e2 e3 e4
    subst e0 e1 e2 e3 e4
    exact walk A0 n0 c0 base key lo hi most W hd0 hb0 hp0 s1 s2 s3 (wf_i64 s4)

set_option maxRecDepth 100000 in
theorem lifted (os : Os) (started : os.Started) (H : Type) (enc : TypeId × Value → H) :
    ReturnsInHanded {} Try.checked os 9 .any (Rows.viewNothingSpec.pre6 enc Try.prog Try.f9 Rows.viewNothingRow.domain false) (Rows.viewNothingSpec.post enc Try.prog Try.f9 false true false false) :=
  framed 1 Try.func9 (by rw [Try.params9]; rfl) rfl (by kernel_rfl) (by kernel_rfl) (by kernel_rfl)
    (fun H ds h => by match ds, h with | [d0], _ => exact ⟨rfl, rfl, rfl⟩)
    opened os started H enc
    (ChangeSpec.witness6 (enc := enc) (C := Try.checked) false ⟨#[], #[.agg #[.slice none 0 0, .string ByteArray.empty, .string ByteArray.empty, .string ByteArray.empty, .int .i64 0]], []⟩ 8 (by kernel_rfl) (by kernel_rfl) (by kernel_rfl) (by kernel_rfl))

theorem over : Rows.viewNothingRow.holds Try.pinned (OpenSpec.ofChange Rows.viewNothingSpec) :=
  OpenClaim.holds_of_wide 9 Try.f9 rfl rfl rfl rfl rfl rfl rfl ⟨rfl, rfl, rfl, rfl, rfl⟩ rfl rfl rfl rfl rfl (by kernel_rfl) Try.func9 (by kernel_rfl)
    (of_decide_eq_true (by kernel_rfl)) (by unfold Func.isWrapper; first | (rw [if_pos (by decide +kernel)]; kernel_rfl) | (rw [if_neg (by decide +kernel)]; exact ⟨rfl, rfl⟩))
    (fun os started H enc _ => lifted os started H enc)

theorem proved : Rows.ViewNothingSaid := over
end Go.Proofs.Ytcclgepccahhbaa.viewNothing
