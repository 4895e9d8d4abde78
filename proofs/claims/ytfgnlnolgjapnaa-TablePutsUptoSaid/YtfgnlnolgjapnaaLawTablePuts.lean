/- For every row, pair and writes: what a pair that is put, a key that is dropped, and writes make of the row is as the document says. Its second form: where what it reads is of bulk at most 1048576. -/
import Derived.Test.YtfgnlnolgjapnaaPairIn
import Derived.Test.YtfgnlnolgjapnaaTableMath
import Derived.Test.YtfgnlnolgjapnaaFrameU
namespace Go.Proofs.Ytfgnlnolgjapnaa.tablePutsUpto
set_option maxRecDepth 100000
open Go.ChangeShapes Go.WideShapes Go.ChangeAt Go.RowKit Prm
set_option linter.unusedVariables false

set_option maxHeartbeats 4000000 in
theorem walk (A : Option Addr) (n c : Nat) (l : List Pr) (key val : ByteArray) (B : Option Addr) (m d : Nat) (ws : List Wr) (w : World) (hd : In_ pairK w A n c l) (hb : n * 32 ≤ 140737488351232) (hp : ∀ p ∈ l, PrIn p) (h0 : key.size ≤ 140737488351232) (h1 : val.size ≤ 140737488351232)
    (hw : In_ writeK w B m d ws) (hbw : m * 40 ≤ 140737488351232) (hpw : ∀ p ∈ ws, WrIn p) (u0 : n ≤ 1048576) (u1 : m ≤ 1048576) :
    Calls Try.prog 3 #[.agg #[.slice A n c, .string key, .string val, .slice B m d]] w fun e w' => e = .returned (.bool true) ∧ Q w w' := by
  have HD := Lib.hid hd
  have HW := Lib.hid hw
  have HK := Lib.hid (keys_in hp)
  have HWk := Lib.hid (wkeys_in hpw)
  have HL := Lib.hid hd.len
  have HLw := Lib.hid hw.len
  have k0 : key.size ≤ maxLen := by unfold maxLen; omega
  have P1 := Lib.hid (fun W (h : In_ pairK W A n c l) => put_any key val A n c l W h (by omega))
  have P2 := Lib.hid (fun W (h : In_ pairK W A n c l) => refPut_any key val A n c l W h.lst (by omega) HK.out k0)
  have D1 := Lib.hid (fun W (h : In_ pairK W A n c l) => drop_any key A n c l W h (by omega))
  have D2 := Lib.hid (fun W (h : In_ pairK W A n c l) => refDrop_any key A n c l W h.lst (by omega))
  have Y1 := Lib.hid (fun W (h : In_ pairK W A n c l) (g : In_ writeK W B m d ws) => apply_any A B n c m d l ws W h g.lst (by omega))
  have Y2 := Lib.hid (fun W (h : In_ pairK W A n c l) (g : In_ writeK W B m d ws) => refApply_any A B n c m d l ws W h g.lst (by omega) HK.out HWk.out)
  have L1 := Lib.hid (show (put l ⟨key, val⟩).length ≤ maxLen by have := put_len l ⟨key, val⟩; have := HL.out; unfold maxLen; omega)
  have L2 := Lib.hid (show (drop l key).length ≤ maxLen by have := drop_len l key; have := HL.out; unfold maxLen; omega)
  have L3 := Lib.hid (show (apply l ws).length ≤ maxLen by have := apply_len l ws; have := HL.out; have := HLw.out; unfold maxLen; omega)
  generalize put l ⟨key, val⟩ = r1 at P1 P2 L1
  generalize drop l key = r2 at D1 D2 L2
  generalize apply l ws = r3 at Y1 Y2 L3
  clear hd hp h0 h1 k0 hw hpw
  go_enter Try.func3, Try.ntmps3
  go_wp2_with fail
  refine (tshown_any _).mono ?_
  rintro e w1 ⟨rfl, q1⟩
  have Q1 := Lib.hid (((Q.refl w).alloc _).trans q1)
  clear q1
  go_wp2_with fail
  refine (P1.out _ (HD.out.q Q1.out)).mono ?_
  rintro e w2 ⟨A2, c2, rfl, o2, q2⟩
  have Q2 := Lib.hid (Q1.out.trans q2)
  have O2 := Lib.hid o2
  have q2' := Lib.hid q2
  clear q2 o2
  go_wp2_with fail
  refine (P2.out _ (HD.out.q Q2.out)).mono ?_
  rintro e w3 ⟨A3, c3, rfl, o3, q3⟩
  have Q3 := Lib.hid (Q2.out.trans q3)
  have O3 := Lib.hid o3
  have q3' := Lib.hid q3
  clear q3 o3
  go_wp2_with fail
  refine (refSame_any A2 A3 (r1.length) c2 (r1.length) c3 (r1) (r1) _ (O2.out.lst.q q3'.out) (O3.out.lst) (L1.out) (L1.out)).mono ?_
  rw [show decide (r1 = r1) = true from decide_eq_true rfl]
  rintro e w4 ⟨rfl, q4⟩
  have Q4 := Lib.hid (Q3.out.trans q4)
  clear q4
  go_wp2_with fail
  refine (D1.out _ (HD.out.q Q4.out)).mono ?_
  rintro e w5 ⟨A5, c5, rfl, o5, q5⟩
  have Q5 := Lib.hid (Q4.out.trans q5)
  have O5 := Lib.hid o5
  have q5' := Lib.hid q5
  clear q5 o5
  go_wp2_with fail
  refine (D2.out _ (HD.out.q Q5.out)).mono ?_
  rintro e w6 ⟨A6, c6, rfl, o6, q6⟩
  have Q6 := Lib.hid (Q5.out.trans q6)
  have O6 := Lib.hid o6
  have q6' := Lib.hid q6
  clear q6 o6
  go_wp2_with fail
  refine (refSame_any A5 A6 (r2.length) c5 (r2.length) c6 (r2) (r2) _ (O5.out.lst.q q6'.out) (O6.out.lst) (L2.out) (L2.out)).mono ?_
  rw [show decide (r2 = r2) = true from decide_eq_true rfl]
  rintro e w7 ⟨rfl, q7⟩
  have Q7 := Lib.hid (Q6.out.trans q7)
  clear q7
  go_wp2_with fail
  refine (Y1.out _ (HD.out.q Q7.out) (HW.out.q Q7.out)).mono ?_
  rintro e w8 ⟨A8, c8, rfl, o8, q8⟩
  have Q8 := Lib.hid (Q7.out.trans q8)
  have O8 := Lib.hid o8
  have q8' := Lib.hid q8
  clear q8 o8
  go_wp2_with fail
  refine (Y2.out _ (HD.out.q Q8.out) (HW.out.q Q8.out)).mono ?_
  rintro e w9 ⟨A9, c9, rfl, o9, q9⟩
  have Q9 := Lib.hid (Q8.out.trans q9)
  have O9 := Lib.hid o9
  have q9' := Lib.hid q9
  clear q9 o9
  go_wp2_with fail
  refine (refSame_any A8 A9 (r3.length) c8 (r3.length) c9 (r3) (r3) _ (O8.out.lst.q q9'.out) (O9.out.lst) (L3.out) (L3.out)).mono ?_
  rw [show decide (r3 = r3) = true from decide_eq_true rfl]
  rintro e w10 ⟨rfl, q10⟩
  have Q10 := Lib.hid (Q9.out.trans q10)
  clear q10
  go_wp2
  all_goals go_ret
  all_goals exact ⟨by first | rfl | simp, Q10.out⟩

theorem opened (W : World) (args : Array Value) (hn : args.size = 1) (h : ∀ (j : Nat) t v, Try.f3.params[j]? = some t → args[j]? = some v → RdV W t v ∧ (true = true → RdU W t v.cells.toList)) :
    Calls Try.prog 3 args W fun e W' => e = .returned (.bool true) ∧ Q W W' := by
  obtain ⟨v, rfl⟩ := args1 hn
  rw [Try.params3] at h
  obtain ⟨h1, h2⟩ := h 0 25 v rfl rfl
  obtain ⟨cs, rfl, hr⟩ := h1.struct Try.underlying25
  have hu := h2 rfl
  rw [show (Value.agg cs.toArray).cells.toList = cs by simp [Value.cells]] at hu
  obtain ⟨hl, _⟩ := hr.struct Try.underlying25
  rw [show Try.prog.cellsOf 25 = 4 by kernel_rfl] at hl
  match cs, hl with
  | [x0, x1, x2, x3], _ =>
    obtain ⟨A0, n0, c0, l, e0, hd0, hb0, hp0⟩ := open_pairs (hr.field Try.underlying25 0 (ty := 22) 0 1 rfl (by kernel_rfl))
    obtain ⟨key, e1, s1⟩ := (hr.field Try.underlying25 1 (ty := 9) 1 1 rfl (by kernel_rfl)).string Try.underlying9
    obtain ⟨val, e2, s2⟩ := (hr.field Try.underlying25 2 (ty := 9) 2 1 rfl (by kernel_rfl)).string Try.underlying9
    obtain ⟨A3, n3, c3, w, e3, hd3, hb3, hp3⟩ := open_writes (hr.field Try.underlying25 3 (ty := 23) 3 1 rfl (by kernel_rfl))
    simp at e0 e1 e2 e3
    subst e0 e1 e2 e3
    have u0 := small_list hd0 (fun a ha => RdU.cap (w := W) (t := 22) (a := a) (len := n0) (cap := c0) (by subst ha; exact (hu.field Try.underlying25 0 (ty := 22) 0 1 rfl (by kernel_rfl))) Try.underlying22)
    have u3 := small_list hd3 (fun a ha => RdU.cap (w := W) (t := 23) (a := a) (len := n3) (cap := c3) (by subst ha; exact (hu.field Try.underlying25 3 (ty := 23) 3 1 rfl (by kernel_rfl))) Try.underlying23)
    exact walk A0 n0 c0 l key val A3 n3 c3 w W hd0 hb0 hp0 s1 s2 hd3 hb3 hp3 u0 u3

set_option maxRecDepth 100000 in
theorem lifted (os : Os) (started : os.Started) (H : Type) (enc : TypeId × Value → H) (F : Stop.Interp) :
    ReturnsInHanded {} Try.checked os 3 .any ((Rows.OpenSpec.upto Rows.tablePutsSpec).pre6 enc Try.prog Try.f3 Rows.tablePutsUptoRow.domain false) (((Rows.OpenSpec.upto Rows.tablePutsSpec).at F).post enc Try.prog Try.f3 false true false false) :=
  framedU (s := Rows.tablePutsSpec) 1 Try.func3 (by rw [Try.params3]; rfl) rfl (by kernel_rfl) (by kernel_rfl) (by kernel_rfl)
    (fun H ds h => by match ds, h with | [d0], _ => exact ⟨rfl, rfl, rfl⟩)
    opened os started H enc F
    (OpenSpec.witness (enc := enc) (C := Try.checked) (s := Rows.OpenSpec.upto Rows.tablePutsSpec) (k := Rows.uptoSmall) rfl false ⟨#[], #[.agg #[.slice none 0 0, .string ByteArray.empty, .string ByteArray.empty, .slice none 0 0]], []⟩ 8 (by kernel_rfl) (by kernel_rfl) (by kernel_rfl)
      (x := ([.agg [.nil, .lit (.string []), .lit (.string []), .nil]], [], [])) (by kernel_rfl) (by kernel_rfl) (by kernel_rfl))

theorem proved : Rows.TablePutsUptoSaid :=
  OpenClaim.holds_of_cond 3 Try.f3 rfl rfl rfl rfl rfl rfl rfl ⟨rfl, rfl, rfl, rfl, rfl⟩ rfl rfl rfl rfl rfl (by kernel_rfl) Try.func3 (by kernel_rfl)
    (of_decide_eq_true (by kernel_rfl)) (by unfold Func.isWrapper; first | (rw [if_pos (by decide +kernel)]; kernel_rfl) | (rw [if_neg (by decide +kernel)]; exact ⟨rfl, rfl⟩))
    (fun os started H enc _ F => lifted os started H enc F)
end Go.Proofs.Ytfgnlnolgjapnaa.tablePutsUpto
