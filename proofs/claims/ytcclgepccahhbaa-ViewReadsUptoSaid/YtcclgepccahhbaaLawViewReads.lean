/- For every row of writes, base and keys: what is got, and scanned, is as the document says. Its second form: where what it reads is of bulk at most 1048576. -/
import Derived.Test.YtcclgepccahhbaaPairIn
import Derived.Test.YtcclgepccahhbaaViewShown
import Derived.Test.YtcclgepccahhbaaFrameU
namespace Go.Proofs.Ytcclgepccahhbaa.viewReadsUpto
set_option maxRecDepth 100000
open Go.ChangeShapes Go.WideShapes Go.ChangeAt Go.RowKit Prm Vm
set_option linter.unusedVariables false
set_option linter.unusedSimpArgs false

set_option maxHeartbeats 8000000 in
set_option maxRecDepth 100000 in
theorem walk (A : Option Addr) (n c : Nat) (l : List Wr) (B : Option Addr) (m d : Nat) (base : List Pr) (key lo hi : ByteArray) (most : Int) (w : World) (hd : In_ writeK w A n c l) (hb : n * 40 ≤ 140737488351232) (hp : ∀ p ∈ l, WrIn p) (hd2 : In_ pairK w B m d base) (hb2 : m * 32 ≤ 140737488351232) (hp2 : ∀ p ∈ base, PrIn p) (h2 : key.size ≤ 140737488351232) (h3 : lo.size ≤ 140737488351232) (h4 : hi.size ≤ 140737488351232) (h5 : -9223372036854775808 ≤ most ∧ most ≤ 9223372036854775807) (u0 : n ≤ 1048576) (u1 : m ≤ 1048576) :
    Calls Try.prog 4 #[.agg #[.slice A n c, .slice B m d, .string key, .string lo, .string hi, .int .i64 most]] w fun e w' => e = .returned (.bool true) ∧ Q w w' := by
  have HD := Lib.hid hd
  have HB := Lib.hid hd2
  have k0 : key.size ≤ maxLen := by unfold maxLen; omega
  have k1 : lo.size ≤ maxLen := by unfold maxLen; omega
  have k2 : hi.size ≤ maxLen := by unfold maxLen; omega
  have hmn : (m + n) * 32 ≤ 140737488355328 := by omega
  have G1 := Lib.hid (fun W (h : In_ writeK W A n c l) (g : In_ pairK W B m d base) => vget_any key A B n c m d l base W h.lst h.max g.lst g.max)
  have G2 := Lib.hid (fun W (h : In_ writeK W A n c l) (g : In_ pairK W B m d base) => rvGet_any key A B n c m d l base W h.lst h.max g.lst g.max)
  have C1 := Lib.hid (fun W (h : In_ writeK W A n c l) (g : In_ pairK W B m d base) => vscan_any lo hi most A B n c m d l base W h.lst g hmn h5.2)
  have C2 := Lib.hid (fun W (h : In_ writeK W A n c l) (g : In_ pairK W B m d base) => rvScan_any lo hi most A B n c m d l base W h.lst g hmn h5.2 (keys_in hp2) (wkeys_in hp) k1 k2)
  have LN := Lib.hid (show (range (apply base l) lo hi most).length ≤ maxLen by
    have h1 := apply_len base l
    have h2 : (range (apply base l) lo hi most).length ≤ (apply base l).length := Nat.le_trans (List.length_take_le' _ _) (List.length_filter_le _ _)
    have := hd.len
    have := hd2.len
    unfold maxLen; omega)
  generalize range (apply base l) lo hi most = r at C1 C2 LN
  generalize Vm.get l base key = gg at G1 G2
  obtain ⟨g1, g2⟩ := gg
  clear hd hd2 hp hp2 hb hb2 hmn
  go_enter Try.func4, Try.ntmps4
  go_wp2_with fail
  refine (vshown_any _).mono ?_
  rintro e w1 ⟨rfl, q1⟩
  have Q1 := Lib.hid (((Q.refl w).alloc _).trans q1)
  clear q1
  go_wp2_with fail
  refine (G1.out _ (HD.out.q Q1.out) (HB.out.q Q1.out)).mono ?_
  rintro e w2 ⟨rfl, q2⟩
  have Q2 := Lib.hid (Q1.out.trans q2)
  clear q2
  go_wp2_with fail
  refine (G2.out _ (HD.out.q Q2.out) (HB.out.q Q2.out)).mono ?_
  rintro e w3 ⟨rfl, rfl⟩
  go_wp2_with fail
  refine (C1.out _ (HD.out.q Q2.out) (HB.out.q Q2.out)).mono ?_
  rintro e w4 ⟨A4, c4, rfl, o4, q4⟩
  have Q4 := Lib.hid (Q2.out.trans q4)
  have O4 := Lib.hid o4
  clear q4 o4
  go_wp2_with fail
  refine (C2.out _ (HD.out.q Q4.out) (HB.out.q Q4.out)).mono ?_
  rintro e w5 ⟨A5, c5, rfl, o5, q5⟩
  have Q5 := Lib.hid (Q4.out.trans q5)
  have O4 := Lib.hid (O4.out.q q5)
  have O5 := Lib.hid o5
  clear q5 o5
  go_wp2_with fail
  refine (psame A4 A5 r.length c4 c5 r _ O4.out.lst O5.out.lst LN.out).mono ?_
  rintro e w6 ⟨rfl, q6⟩
  have Q6 := Lib.hid (Q5.out.trans q6)
  clear q6
  go_wp2
  all_goals go_ret
  all_goals exact ⟨by first | rfl | simp, Q6.out⟩

theorem opened (W : World) (args : Array Value) (hn : args.size = 1) (h : ∀ (j : Nat) t v, Try.f4.params[j]? = some t → args[j]? = some v → RdV W t v ∧ (true = true → RdU W t v.cells.toList)) :
    Calls Try.prog 4 args W fun e W' => e = .returned (.bool true) ∧ Q W W' := by
  obtain ⟨v, rfl⟩ := args1 hn
  rw [Try.params4] at h
  obtain ⟨h1, h2⟩ := h 0 33 v rfl rfl
  obtain ⟨cs, rfl, hr⟩ := h1.struct Try.underlying33
  have hu := h2 rfl
  rw [show (Value.agg cs.toArray).cells.toList = cs by simp [Value.cells]] at hu
  obtain ⟨hl, _⟩ := hr.struct Try.underlying33
  rw [show Try.prog.cellsOf 33 = 6 by kernel_rfl] at hl
  match cs, hl with
  | [x0, x1, x2, x3, x4, x5], _ =>
    obtain ⟨A0, n0, c0, w, e0, hd0, hb0, hp0⟩ := open_writes (hr.field Try.underlying33 0 (ty := 22) 0 1 rfl (by kernel_rfl))
    obtain ⟨A1, n1, c1, base, e1, hd1, hb1, hp1⟩ := open_pairs (hr.field Try.underlying33 1 (ty := 31) 1 1 rfl (by kernel_rfl))
    obtain ⟨key, e2, s2⟩ := (hr.field Try.underlying33 2 (ty := 9) 2 1 rfl (by kernel_rfl)).string Try.underlying9
    obtain ⟨lo, e3, s3⟩ := (hr.field Try.underlying33 3 (ty := 9) 3 1 rfl (by kernel_rfl)).string Try.underlying9
    obtain ⟨hi, e4, s4⟩ := (hr.field Try.underlying33 4 (ty := 9) 4 1 rfl (by kernel_rfl)).string Try.underlying9
    obtain ⟨most, e5, s5⟩ := (hr.field Try.underlying33 5 (ty := 3) 5 1 rfl (by kernel_rfl)).int Try.underlying3
    simp at e0 e1 e2 e3 e4 e5
    subst e0 e1 e2 e3 e4 e5
    have u0 := small_list hd0 (fun a ha => RdU.cap (w := W) (t := 22) (a := a) (len := n0) (cap := c0) (by subst ha; exact (hu.field Try.underlying33 0 (ty := 22) 0 1 rfl (by kernel_rfl))) Try.underlying22)
    have u1 := small_list hd1 (fun a ha => RdU.cap (w := W) (t := 31) (a := a) (len := n1) (cap := c1) (by subst ha; exact (hu.field Try.underlying33 1 (ty := 31) 1 1 rfl (by kernel_rfl))) Try.underlying31)
    exact walk A0 n0 c0 w A1 n1 c1 base key lo hi most W hd0 hb0 hp0 hd1 hb1 hp1 s2 s3 s4 (wf_i64 s5) u0 u1

set_option maxRecDepth 100000 in
theorem lifted (os : Os) (started : os.Started) (H : Type) (enc : TypeId × Value → H) (F : Stop.Interp) :
    ReturnsInHanded {} Try.checked os 4 .any ((Rows.OpenSpec.upto Rows.viewReadsSpec).pre6 enc Try.prog Try.f4 Rows.viewReadsUptoRow.domain false) (((Rows.OpenSpec.upto Rows.viewReadsSpec).at F).post enc Try.prog Try.f4 false true false false) :=
  framedU (s := Rows.viewReadsSpec) 1 Try.func4 (by rw [Try.params4]; rfl) rfl (by kernel_rfl) (by kernel_rfl) (by kernel_rfl)
    (fun H ds h => by match ds, h with | [d0], _ => exact ⟨rfl, rfl, rfl⟩)
    opened os started H enc F
    (OpenSpec.witness (enc := enc) (C := Try.checked) (s := Rows.OpenSpec.upto Rows.viewReadsSpec) (k := Rows.uptoSmall) rfl false ⟨#[], #[.agg #[.slice none 0 0, .slice none 0 0, .string ByteArray.empty, .string ByteArray.empty, .string ByteArray.empty, .int .i64 0]], []⟩ 8 (by kernel_rfl) (by kernel_rfl) (by kernel_rfl)
      (x := ([.agg [.nil, .nil, .lit (.string []), .lit (.string []), .lit (.string []), .lit (.int .i64 0)]], [], [])) (by kernel_rfl) (by kernel_rfl) (by kernel_rfl))

theorem proved : Rows.ViewReadsUptoSaid :=
  OpenClaim.holds_of_cond 4 Try.f4 rfl rfl rfl rfl rfl rfl rfl ⟨rfl, rfl, rfl, rfl, rfl⟩ rfl rfl rfl rfl rfl (by kernel_rfl) Try.func4 (by kernel_rfl)
    (of_decide_eq_true (by kernel_rfl)) (by unfold Func.isWrapper; first | (rw [if_pos (by decide +kernel)]; kernel_rfl) | (rw [if_neg (by decide +kernel)]; exact ⟨rfl, rfl⟩))
    (fun os started H enc _ F => lifted os started H enc F)
end Go.Proofs.Ytcclgepccahhbaa.viewReadsUpto
