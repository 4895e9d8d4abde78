/- For every row of writes whose keys rise, every right base and every key: the key is scanned just if it is got, with that value. Its second form: where what it reads is of bulk at most 1048576. -/
import Derived.Test.YtcclgepccahhbaaPairIn
import Derived.Test.YtcclgepccahhbaaViewShown
import Derived.Test.YtcclgepccahhbaaFrameU
namespace Go.Proofs.Ytcclgepccahhbaa.viewAgreesUpto
set_option maxRecDepth 100000
open Go.ChangeShapes Go.WideShapes Go.ChangeAt Go.RowKit Prm Vm
set_option linter.unusedVariables false
set_option linter.unusedSimpArgs false

set_option maxHeartbeats 8000000 in
set_option maxRecDepth 100000 in
theorem walk (A : Option Addr) (n c : Nat) (l : List Wr) (B : Option Addr) (m d : Nat) (base : List Pr) (key : ByteArray) (w : World) (hd : In_ writeK w A n c l) (hb : n * 40 ≤ 140737488351232) (hp : ∀ p ∈ l, WrIn p) (hd2 : In_ pairK w B m d base) (hb2 : m * 32 ≤ 140737488351232) (hp2 : ∀ p ∈ base, PrIn p) (h2 : key.size ≤ 140737488351232) (u0 : n ≤ 1048576) (u1 : m ≤ 1048576) :
    Calls Try.prog 7 #[.slice A n c, .slice B m d, .string key] w fun e w' => e = .returned (.bool true) ∧ Q w w' := by
  have HD := Lib.hid hd
  have HB := Lib.hid hd2
  have hmn : (m + n) * 32 ≤ 140737488355328 := by omega
  have R1 := fun W (g : In_ pairK W B m d base) => refRight_any B m d base W g.lst g.max (keys_in hp2)
  have U1 := fun W (h : In_ writeK W A n c l) => vrises_any A n c l W h.lst h.max
  by_cases hb1 : right base = true
  · rw [hb1] at R1
    by_cases hr : risesB l = true
    · rw [hr] at U1
      have R1 := Lib.hid R1
      have U1 := Lib.hid U1
      have G1 := fun W (h : In_ writeK W A n c l) (g : In_ pairK W B m d base) => vget_any key A B n c m d l base W h.lst h.max g.lst g.max
      have C1 := fun W (h : In_ writeK W A n c l) (g : In_ pairK W B m d base) => vscan_any key (key ++ ⟨#[0]⟩) 9 A B n c m d l base W h.lst g hmn (by omega)
      rw [scan_get ((risesB_iff l).1 hr) hb1 (by omega)] at C1
      generalize Vm.get l base key = gg at G1 C1
      obtain ⟨g1, g2⟩ := gg
      have hks : key.size + 1 ≤ 140737488355328 := by omega
      clear hd hd2 hp hp2 hb hb2 hmn hb1 hr
      have G1 := Lib.hid G1
      cases g2
      · simp only [Bool.false_eq_true, if_false] at C1
        have C1 := Lib.hid C1
        go_enter Try.func7, Try.ntmps7
        go_wp2_with fail
        refine (vshown_any _).mono ?_
        rintro e w1 ⟨rfl, q1⟩
        have Q1 := Lib.hid q1
        clear q1
        go_wp2_with fail
        refine (R1.out _ (HB.out.q Q1.out)).mono ?_
        rintro e w2 ⟨rfl, q2⟩
        have Q2 := Lib.hid (Q1.out.trans q2)
        clear q2
        go_wp2_with fail
        refine (U1.out _ (HD.out.q Q2.out)).mono ?_
        rintro e w3 ⟨rfl, q3⟩
        have Q3 := Lib.hid (Q2.out.trans q3)
        clear q3
        go_wp2_with fail
        refine (G1.out _ (HD.out.q Q3.out) (HB.out.q Q3.out)).mono ?_
        rintro e w4 ⟨rfl, q4⟩
        have Q4 := Lib.hid (Q3.out.trans q4)
        clear q4
        go_wp2_with fail
        refine (C1.out _ (HD.out.q Q4.out) (HB.out.q Q4.out)).mono ?_
        rintro e w5 ⟨A5, c5, rfl, o5, q5⟩
        have Q5 := Lib.hid (Q4.out.trans q5)
        clear q5 o5
        go_wp2
        all_goals go_ret
        all_goals exact ⟨by first | rfl | simp, Q5.out⟩
      · simp only [if_true] at C1
        have C1 := Lib.hid C1
        go_enter Try.func7, Try.ntmps7
        go_wp2_with fail
        refine (vshown_any _).mono ?_
        rintro e w1 ⟨rfl, q1⟩
        have Q1 := Lib.hid q1
        clear q1
        go_wp2_with fail
        refine (R1.out _ (HB.out.q Q1.out)).mono ?_
        rintro e w2 ⟨rfl, q2⟩
        have Q2 := Lib.hid (Q1.out.trans q2)
        clear q2
        go_wp2_with fail
        refine (U1.out _ (HD.out.q Q2.out)).mono ?_
        rintro e w3 ⟨rfl, q3⟩
        have Q3 := Lib.hid (Q2.out.trans q3)
        clear q3
        go_wp2_with fail
        refine (G1.out _ (HD.out.q Q3.out) (HB.out.q Q3.out)).mono ?_
        rintro e w4 ⟨rfl, q4⟩
        have Q4 := Lib.hid (Q3.out.trans q4)
        clear q4
        go_wp2_with fail
        refine (C1.out _ (HD.out.q Q4.out) (HB.out.q Q4.out)).mono ?_
        rintro e w5 ⟨A5, c5, rfl, o5, q5⟩
        obtain ⟨ae, rfl, hbe, y0, y1⟩ := load_pair o5.lst (k := 0) (by simp) (by simp)
        have Q5 := Lib.hid (Q4.out.trans q5)
        simp only [List.getElem_cons_zero, Nat.zero_mul] at y0 y1
        rw [show ae.add 0 = ae from rfl] at y0 y1
        clear q5 o5
        go_wp2
        all_goals go_ret
        all_goals exact ⟨by first | rfl | simp, Q5.out⟩
    · rw [show risesB l = false by simpa using hr] at U1
      have R1 := Lib.hid R1
      have U1 := Lib.hid U1
      clear hd hd2 hp hp2 hb hb2 hmn hb1 hr
      go_enter Try.func7, Try.ntmps7
      go_wp2_with fail
      refine (vshown_any _).mono ?_
      rintro e w1 ⟨rfl, q1⟩
      have Q1 := Lib.hid q1
      clear q1
      go_wp2_with fail
      refine (R1.out _ (HB.out.q Q1.out)).mono ?_
      rintro e w2 ⟨rfl, q2⟩
      have Q2 := Lib.hid (Q1.out.trans q2)
      clear q2
      go_wp2_with fail
      refine (U1.out _ (HD.out.q Q2.out)).mono ?_
      rintro e w3 ⟨rfl, q3⟩
      have Q3 := Lib.hid (Q2.out.trans q3)
      clear q3
      go_wp2
      all_goals go_ret
      all_goals exact ⟨by first | rfl | simp, Q3.out⟩
  · rw [show right base = false by simpa using hb1] at R1
    have R1 := Lib.hid R1
    clear hd hd2 hp hp2 hb hb2 hmn hb1 U1
    go_enter Try.func7, Try.ntmps7
    go_wp2_with fail
    refine (vshown_any _).mono ?_
    rintro e w1 ⟨rfl, q1⟩
    have Q1 := Lib.hid q1
    clear q1
    go_wp2_with fail
    refine (R1.out _ (HB.out.q Q1.out)).mono ?_
    rintro e w2 ⟨rfl, q2⟩
    have Q2 := Lib.hid (Q1.out.trans q2)
    clear q2
    go_wp2
    all_goals go_ret
    all_goals exact ⟨by first | rfl | simp, Q2.out⟩

theorem opened (W : World) (args : Array Value) (hn : args.size = 3) (h : ∀ (j : Nat) t v, Try.f7.params[j]? = some t → args[j]? = some v → RdV W t v ∧ (true = true → RdU W t v.cells.toList)) :
    Calls Try.prog 7 args W fun e W' => e = .returned (.bool true) ∧ Q W W' := by
  obtain ⟨v0, v1, v2, rfl⟩ := args3 hn
  rw [Try.params7] at h
  obtain ⟨A0, n0, c0, e0, r0⟩ := (h 0 22 v0 rfl rfl).1.slice Try.underlying22
  obtain ⟨B0, m0, d0, w, f0, hd0, hb0, hp0⟩ := open_writes r0
  simp only [List.cons.injEq, Value.slice.injEq, and_true] at f0
  obtain ⟨rfl, rfl, rfl⟩ := f0
  obtain ⟨A1, n1, c1, e1, r1⟩ := (h 1 31 v1 rfl rfl).1.slice Try.underlying31
  obtain ⟨B1, m1, d1, base, f1, hd1, hb1, hp1⟩ := open_pairs r1
  simp only [List.cons.injEq, Value.slice.injEq, and_true] at f1
  obtain ⟨rfl, rfl, rfl⟩ := f1
  obtain ⟨key, e2, s2⟩ := (h 2 9 v2 rfl rfl).1.string Try.underlying9
  subst e0 e1 e2
  have u0 := small_list hd0 (fun a ha => RdU.cap (w := W) (t := 22) (a := a) (len := n0) (cap := c0) (by subst ha; exact ((h 0 22 _ rfl rfl).2 rfl)) Try.underlying22)
  have u1 := small_list hd1 (fun a ha => RdU.cap (w := W) (t := 31) (a := a) (len := n1) (cap := c1) (by subst ha; exact ((h 1 31 _ rfl rfl).2 rfl)) Try.underlying31)
  exact walk A0 n0 c0 w A1 n1 c1 base key W hd0 hb0 hp0 hd1 hb1 hp1 s2 u0 u1

set_option maxRecDepth 100000 in
theorem lifted (os : Os) (started : os.Started) (H : Type) (enc : TypeId × Value → H) (F : Stop.Interp) :
    ReturnsInHanded {} Try.checked os 7 .any ((Rows.OpenSpec.upto Rows.viewAgreesSpec).pre6 enc Try.prog Try.f7 Rows.viewAgreesUptoRow.domain false) (((Rows.OpenSpec.upto Rows.viewAgreesSpec).at F).post enc Try.prog Try.f7 false true false false) :=
  framedU (s := Rows.viewAgreesSpec) 3 Try.func7 (by rw [Try.params7]; rfl) rfl (by kernel_rfl) (by kernel_rfl) (by kernel_rfl)
    (fun H ds h => by match ds, h with | [d0, d1, d2], _ => exact ⟨rfl, rfl, rfl⟩)
    opened os started H enc F
    (OpenSpec.witness (enc := enc) (C := Try.checked) (s := Rows.OpenSpec.upto Rows.viewAgreesSpec) (k := Rows.uptoSmall) rfl false ⟨#[], #[.slice none 0 0, .slice none 0 0, .string ByteArray.empty], []⟩ 8 (by kernel_rfl) (by kernel_rfl) (by kernel_rfl)
      (x := ([.nil, .nil, .lit (.string [])], [], [])) (by kernel_rfl) (by kernel_rfl) (by kernel_rfl))

theorem proved : Rows.ViewAgreesUptoSaid :=
  OpenClaim.holds_of_cond 7 Try.f7 rfl rfl rfl rfl rfl rfl rfl ⟨rfl, rfl, rfl, rfl, rfl⟩ rfl rfl rfl rfl rfl (by kernel_rfl) Try.func7 (by kernel_rfl)
    (of_decide_eq_true (by kernel_rfl)) (by unfold Func.isWrapper; first | (rw [if_pos (by decide +kernel)]; kernel_rfl) | (rw [if_neg (by decide +kernel)]; exact ⟨rfl, rfl⟩))
    (fun os started H enc _ F => lifted os started H enc F)
end Go.Proofs.Ytcclgepccahhbaa.viewAgreesUpto
