/- For every row, pair, writes and keys: of a right row a put, a drop, writes and a range make right ones; what was put is found, what was dropped is not. Its second form: where what it reads is of bulk at most 1048576. -/
import Derived.Test.YtfgnlnolgjapnaaPairIn
import Derived.Test.YtfgnlnolgjapnaaTableMath
import Derived.Test.YtfgnlnolgjapnaaFrameU
namespace Go.Proofs.Ytfgnlnolgjapnaa.tableStaysUpto
set_option maxRecDepth 100000
open Go.ChangeShapes Go.WideShapes Go.ChangeAt Go.RowKit Prm
set_option linter.unusedVariables false

set_option maxHeartbeats 8000000 in
theorem walk_no (A : Option Addr) (n c : Nat) (l : List Pr) (key val : ByteArray) (B : Option Addr) (m d : Nat) (ws : List Wr) (lo hi : ByteArray) (w : World) (hd : In_ pairK w A n c l) (hb : n * 32 ≤ 140737488351232) (hp : ∀ p ∈ l, PrIn p) (h0 : key.size ≤ 140737488351232) (h1 : val.size ≤ 140737488351232)
    (hw : In_ writeK w B m d ws) (hbw : m * 40 ≤ 140737488351232) (hpw : ∀ p ∈ ws, WrIn p) (h2 : lo.size ≤ 140737488351232) (h3 : hi.size ≤ 140737488351232) (u0 : n ≤ 1048576) (u1 : m ≤ 1048576) (hr : right l = false) :
    Calls Try.prog 5 #[.agg #[.slice A n c, .string key, .string val, .slice B m d, .string lo, .string hi]] w fun e w' => e = .returned (.bool true) ∧ Q w w' := by
  have HD := Lib.hid hd
  have HM := Lib.hid hd.max
  have HK := Lib.hid (keys_in hp)
  have G0 := Lib.hid (fun W (h : In_ pairK W A n c l) => refRight_any A n c l W h.lst HM.out HK.out)
  rw [hr] at G0
  clear hr hd hp hw hpw
  go_enter Try.func5, Try.ntmps5
  go_wp2_with fail
  refine (tshown_any _).mono ?_
  rintro e w1 ⟨rfl, q1⟩
  have Q1 := Lib.hid (((Q.refl w).alloc _).trans q1)
  clear q1
  go_wp2_with fail
  refine (G0.out _ (HD.out.q Q1.out)).mono ?_
  rintro e w2 ⟨rfl, q2⟩
  have Q2 := Lib.hid (Q1.out.trans q2)
  clear q2
  go_wp2
  go_ret
  exact ⟨rfl, Q2.out⟩
set_option maxHeartbeats 8000000 in
theorem walk_yes (A : Option Addr) (n c : Nat) (l : List Pr) (key val : ByteArray) (B : Option Addr) (m d : Nat) (ws : List Wr) (lo hi : ByteArray) (w : World) (hd : In_ pairK w A n c l) (hb : n * 32 ≤ 140737488351232) (hp : ∀ p ∈ l, PrIn p) (h0 : key.size ≤ 140737488351232) (h1 : val.size ≤ 140737488351232)
    (hw : In_ writeK w B m d ws) (hbw : m * 40 ≤ 140737488351232) (hpw : ∀ p ∈ ws, WrIn p) (h2 : lo.size ≤ 140737488351232) (h3 : hi.size ≤ 140737488351232) (u0 : n ≤ 1048576) (u1 : m ≤ 1048576) (hr : right l = true) :
    Calls Try.prog 5 #[.agg #[.slice A n c, .string key, .string val, .slice B m d, .string lo, .string hi]] w fun e w' => e = .returned (.bool true) ∧ Q w w' := by
  have HD := Lib.hid hd
  have HM := Lib.hid hd.max
  have HK := Lib.hid (keys_in hp)
  have G0 := Lib.hid (fun W (h : In_ pairK W A n c l) => refRight_any A n c l W h.lst HM.out HK.out)
  rw [hr] at G0
  have HW := Lib.hid hw
  have HWk := Lib.hid (wkeys_in hpw)
  have HL := Lib.hid hd.len
  have HLw := Lib.hid hw.len
  have k0 : key.size ≤ maxLen := by unfold maxLen; omega
  have P1 := Lib.hid (fun W (h : In_ pairK W A n c l) => put_any key val A n c l W h (by omega))
  have D1 := Lib.hid (fun W (h : In_ pairK W A n c l) => drop_any key A n c l W h (by omega))
  have Y1 := Lib.hid (fun W (h : In_ pairK W A n c l) (g : In_ writeK W B m d ws) => apply_any A B n c m d l ws W h g.lst (by omega))
  have R1 := Lib.hid (fun W (h : In_ pairK W A n c l) => range_any lo hi (n : Int) A n c l W h (by omega))
  have L1 := Lib.hid (show (put l ⟨key, val⟩).length ≤ maxLen by have := put_len l ⟨key, val⟩; have := HL.out; unfold maxLen; omega)
  have L2 := Lib.hid (show (drop l key).length ≤ maxLen by have := drop_len l key; have := HL.out; unfold maxLen; omega)
  have L3 := Lib.hid (show (apply l ws).length ≤ maxLen by have := apply_len l ws; have := HL.out; have := HLw.out; unfold maxLen; omega)
  have L4 := Lib.hid (show (range l lo hi n).length ≤ maxLen by
    unfold range; rw [List.length_take]; have := List.length_filter_le (fun p => btw lo hi p.key) l; have := HL.out; unfold maxLen; omega)
  have E1 := find_put_same l ⟨key, val⟩
  have E2 := find_drop_same l key
  have S1 := right_put ⟨key, val⟩ hr
  have S2 := right_drop key hr
  have S3 := right_apply ws hr
  have S4 := right_range lo hi n hr
  have N1 : KeysIn (put l ⟨key, val⟩) := put_keys HK.out k0
  have N2 : KeysIn (drop l key) := drop_keys HK.out
  have N3 : KeysIn (apply l ws) := apply_keys HK.out HWk.out
  have N4 : KeysIn (range l lo hi n) := fun q hq => HK.out q (List.mem_filter.1 (List.mem_of_mem_take hq)).1
  generalize put l ⟨key, val⟩ = r1 at P1 L1 E1 S1 N1
  generalize drop l key = r2 at D1 L2 E2 S2 N2
  generalize apply l ws = r3 at Y1 L3 S3 N3
  generalize range l lo hi n = r4 at R1 L4 S4 N4
  have F1 := Lib.hid (fun W A c (h : Lst pairK W A r1.length r1) => find_any key A r1.length c r1 W h L1.out)
  have F2 := Lib.hid (fun W A c (h : Lst pairK W A r2.length r2) => find_any key A r2.length c r2 W h L2.out)
  rw [E1] at F1
  rw [E2] at F2
  have X1 := Lib.hid (fun W A c (h : Lst pairK W A r1.length r1) => refRight_any A r1.length c r1 W h L1.out N1)
  have X2 := Lib.hid (fun W A c (h : Lst pairK W A r2.length r2) => refRight_any A r2.length c r2 W h L2.out N2)
  have X3 := Lib.hid (fun W A c (h : Lst pairK W A r3.length r3) => refRight_any A r3.length c r3 W h L3.out N3)
  have X4 := Lib.hid (fun W A c (h : Lst pairK W A r4.length r4) => refRight_any A r4.length c r4 W h L4.out N4)
  rw [S1] at X1
  rw [S2] at X2
  rw [S3] at X3
  rw [S4] at X4
  clear hd hp hw hpw hr E1 E2 S1 S2 S3 S4 N1 N2 N3 N4
  go_enter Try.func5, Try.ntmps5
  go_wp2_with fail
  refine (tshown_any _).mono ?_
  rintro e w1 ⟨rfl, q1⟩
  have Q1 := Lib.hid (((Q.refl w).alloc _).trans q1)
  clear q1
  go_wp2_with fail
  refine (G0.out _ (HD.out.q Q1.out)).mono ?_
  rintro e w2 ⟨rfl, q2⟩
  have Q2 := Lib.hid (Q1.out.trans q2)
  clear q2
  go_wp2_with fail
  refine (P1.out _ (HD.out.q Q2.out)).mono ?_
  rintro e w3 ⟨A3, c3, rfl, o3, q3⟩
  have Q3 := Lib.hid (Q2.out.trans q3)
  have O3 := Lib.hid o3
  have q3' := Lib.hid q3
  clear q3 o3
  go_wp2_with fail
  refine (D1.out _ (HD.out.q Q3.out)).mono ?_
  rintro e w4 ⟨A4, c4, rfl, o4, q4⟩
  have Q4 := Lib.hid (Q3.out.trans q4)
  have O4 := Lib.hid o4
  have q4' := Lib.hid q4
  clear q4 o4
  go_wp2_with fail
  refine (Y1.out _ (HD.out.q Q4.out) (HW.out.q Q4.out)).mono ?_
  rintro e w5 ⟨A5, c5, rfl, o5, q5⟩
  have Q5 := Lib.hid (Q4.out.trans q5)
  have O5 := Lib.hid o5
  have q5' := Lib.hid q5
  clear q5 o5
  go_wp2_with fail
  refine (R1.out _ (HD.out.q Q5.out)).mono ?_
  rintro e w6 ⟨A6, c6, rfl, o6, q6⟩
  have Q6 := Lib.hid (Q5.out.trans q6)
  have O6 := Lib.hid o6
  have q6' := Lib.hid q6
  clear q6 o6
  have T1 := Lib.hid (((O3.out.lst.q q4'.out).q q5'.out).q q6'.out)
  have T2 := Lib.hid ((O4.out.lst.q q5'.out).q q6'.out)
  have T3 := Lib.hid (O5.out.lst.q q6'.out)
  have T4 := Lib.hid O6.out.lst
  go_wp2_with fail
  refine (F1.out _ A3 c3 T1.out).mono ?_
  rintro e w7 ⟨rfl, q7⟩
  have Q7 := Lib.hid (Q6.out.trans q7)
  have q7' := Lib.hid q7
  clear q7
  go_wp2_with fail
  refine (F2.out _ A4 c4 (T2.out.q q7'.out)).mono ?_
  rintro e w8 ⟨rfl, q8⟩
  have Q8 := Lib.hid (Q7.out.trans q8)
  have q8' := Lib.hid (q7'.out.trans q8)
  clear q8
  go_wp2_with fail
  refine (X1.out _ A3 c3 (T1.out.q q8'.out)).mono ?_
  rintro e w9 ⟨rfl, q9⟩
  have Q9 := Lib.hid (Q8.out.trans q9)
  have q9' := Lib.hid (q8'.out.trans q9)
  clear q9
  go_wp2_with fail
  refine (X2.out _ A4 c4 (T2.out.q q9'.out)).mono ?_
  rintro e w10 ⟨rfl, q10⟩
  have Q10 := Lib.hid (Q9.out.trans q10)
  have q10' := Lib.hid (q9'.out.trans q10)
  clear q10
  go_wp2_with fail
  refine (X3.out _ A5 c5 (T3.out.q q10'.out)).mono ?_
  rintro e w11 ⟨rfl, q11⟩
  have Q11 := Lib.hid (Q10.out.trans q11)
  have q11' := Lib.hid (q10'.out.trans q11)
  clear q11
  go_wp2_with fail
  refine (X4.out _ A6 c6 (T4.out.q q11'.out)).mono ?_
  rintro e w12 ⟨rfl, q12⟩
  have Q12 := Lib.hid (Q11.out.trans q12)
  clear q12
  go_wp2
  all_goals go_ret
  all_goals exact ⟨by first | rfl | simp, Q12.out⟩

set_option maxHeartbeats 8000000 in
theorem walk (A : Option Addr) (n c : Nat) (l : List Pr) (key val : ByteArray) (B : Option Addr) (m d : Nat) (ws : List Wr) (lo hi : ByteArray) (w : World) (hd : In_ pairK w A n c l) (hb : n * 32 ≤ 140737488351232) (hp : ∀ p ∈ l, PrIn p) (h0 : key.size ≤ 140737488351232) (h1 : val.size ≤ 140737488351232)
    (hw : In_ writeK w B m d ws) (hbw : m * 40 ≤ 140737488351232) (hpw : ∀ p ∈ ws, WrIn p) (h2 : lo.size ≤ 140737488351232) (h3 : hi.size ≤ 140737488351232) (u0 : n ≤ 1048576) (u1 : m ≤ 1048576) :
    Calls Try.prog 5 #[.agg #[.slice A n c, .string key, .string val, .slice B m d, .string lo, .string hi]] w fun e w' => e = .returned (.bool true) ∧ Q w w' := by
  have HD := Lib.hid hd
  have HM := Lib.hid hd.max
  have HK := Lib.hid (keys_in hp)
  have G0 := Lib.hid (fun W (h : In_ pairK W A n c l) => refRight_any A n c l W h.lst HM.out HK.out)
  cases hr : right l with
  | false => exact walk_no A n c l key val B m d ws lo hi w hd hb hp h0 h1 hw hbw hpw h2 h3 u0 u1 hr
  | true => exact walk_yes A n c l key val B m d ws lo hi w hd hb hp h0 h1 hw hbw hpw h2 h3 u0 u1 hr

theorem opened (W : World) (args : Array Value) (hn : args.size = 1) (h : ∀ (j : Nat) t v, Try.f5.params[j]? = some t → args[j]? = some v → RdV W t v ∧ (true = true → RdU W t v.cells.toList)) :
    Calls Try.prog 5 args W fun e W' => e = .returned (.bool true) ∧ Q W W' := by
  obtain ⟨v, rfl⟩ := args1 hn
  rw [Try.params5] at h
  obtain ⟨h1, h2⟩ := h 0 41 v rfl rfl
  obtain ⟨cs, rfl, hr⟩ := h1.struct Try.underlying41
  have hu := h2 rfl
  rw [show (Value.agg cs.toArray).cells.toList = cs by simp [Value.cells]] at hu
  obtain ⟨hl, _⟩ := hr.struct Try.underlying41
  rw [show Try.prog.cellsOf 41 = 6 by kernel_rfl] at hl
  match cs, hl with
  | [x0, x1, x2, x3, x4, x5], _ =>
    obtain ⟨A0, n0, c0, l, e0, hd0, hb0, hp0⟩ := open_pairs (hr.field Try.underlying41 0 (ty := 22) 0 1 rfl (by kernel_rfl))
    obtain ⟨key, e1, s1⟩ := (hr.field Try.underlying41 1 (ty := 9) 1 1 rfl (by kernel_rfl)).string Try.underlying9
    obtain ⟨val, e2, s2⟩ := (hr.field Try.underlying41 2 (ty := 9) 2 1 rfl (by kernel_rfl)).string Try.underlying9
    obtain ⟨A3, n3, c3, w, e3, hd3, hb3, hp3⟩ := open_writes (hr.field Try.underlying41 3 (ty := 23) 3 1 rfl (by kernel_rfl))
    obtain ⟨lo, e4, s4⟩ := (hr.field Try.underlying41 4 (ty := 9) 4 1 rfl (by kernel_rfl)).string Try.underlying9
    obtain ⟨hi, e5, s5⟩ := (hr.field Try.underlying41 5 (ty := 9) 5 1 rfl (by kernel_rfl)).string Try.underlying9
    simp at e0 e1 e2 e3 e4 e5
    subst e0 e1 e2 e3 e4 e5
    have u0 := small_list hd0 (fun a ha => RdU.cap (w := W) (t := 22) (a := a) (len := n0) (cap := c0) (by subst ha; exact (hu.field Try.underlying41 0 (ty := 22) 0 1 rfl (by kernel_rfl))) Try.underlying22)
    have u3 := small_list hd3 (fun a ha => RdU.cap (w := W) (t := 23) (a := a) (len := n3) (cap := c3) (by subst ha; exact (hu.field Try.underlying41 3 (ty := 23) 3 1 rfl (by kernel_rfl))) Try.underlying23)
    exact walk A0 n0 c0 l key val A3 n3 c3 w lo hi W hd0 hb0 hp0 s1 s2 hd3 hb3 hp3 s4 s5 u0 u3

set_option maxRecDepth 100000 in
theorem lifted (os : Os) (started : os.Started) (H : Type) (enc : TypeId × Value → H) (F : Stop.Interp) :
    ReturnsInHanded {} Try.checked os 5 .any ((Rows.OpenSpec.upto Rows.tableStaysSpec).pre6 enc Try.prog Try.f5 Rows.tableStaysUptoRow.domain false) (((Rows.OpenSpec.upto Rows.tableStaysSpec).at F).post enc Try.prog Try.f5 false true false false) :=
  framedU (s := Rows.tableStaysSpec) 1 Try.func5 (by rw [Try.params5]; rfl) rfl (by kernel_rfl) (by kernel_rfl) (by kernel_rfl)
    (fun H ds h => by match ds, h with | [d0], _ => exact ⟨rfl, rfl, rfl⟩)
    opened os started H enc F
    (OpenSpec.witness (enc := enc) (C := Try.checked) (s := Rows.OpenSpec.upto Rows.tableStaysSpec) (k := Rows.uptoSmall) rfl false ⟨#[], #[.agg #[.slice none 0 0, .string ByteArray.empty, .string ByteArray.empty, .slice none 0 0, .string ByteArray.empty, .string ByteArray.empty]], []⟩ 8 (by kernel_rfl) (by kernel_rfl) (by kernel_rfl)
      (x := ([.agg [.nil, .lit (.string []), .lit (.string []), .nil, .lit (.string []), .lit (.string [])]], [], [])) (by kernel_rfl) (by kernel_rfl) (by kernel_rfl))

theorem proved : Rows.TableStaysUptoSaid :=
  OpenClaim.holds_of_cond 5 Try.f5 rfl rfl rfl rfl rfl rfl rfl ⟨rfl, rfl, rfl, rfl, rfl⟩ rfl rfl rfl rfl rfl (by kernel_rfl) Try.func5 (by kernel_rfl)
    (of_decide_eq_true (by kernel_rfl)) (by unfold Func.isWrapper; first | (rw [if_pos (by decide +kernel)]; kernel_rfl) | (rw [if_neg (by decide +kernel)]; exact ⟨rfl, rfl⟩))
    (fun os started H enc _ F => lifted os started H enc F)
end Go.Proofs.Ytfgnlnolgjapnaa.tableStaysUpto
