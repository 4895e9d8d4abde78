/- For every row, writes and key: behind writes a key has what the last one of it says; where none is of it, it is as it was. Its second form: where what it reads is of bulk at most 1048576. -/
import Derived.Test.YtfgnlnolgjapnaaPairIn
import Derived.Test.YtfgnlnolgjapnaaTableMath
import Derived.Test.YtfgnlnolgjapnaaFrameU
namespace Go.Proofs.Ytfgnlnolgjapnaa.tableLastUpto
set_option maxRecDepth 100000
open Go.ChangeShapes Go.WideShapes Go.ChangeAt Go.RowKit Prm
set_option linter.unusedVariables false

set_option maxHeartbeats 8000000 in
theorem walk_no (A : Option Addr) (n c : Nat) (l : List Pr) (B : Option Addr) (m d : Nat) (ws : List Wr) (key : ByteArray) (w : World) (hd : In_ pairK w A n c l) (hb : n * 32 ≤ 140737488351232) (hp : ∀ p ∈ l, PrIn p)
    (hw : In_ writeK w B m d ws) (hbw : m * 40 ≤ 140737488351232) (hpw : ∀ p ∈ ws, WrIn p) (h0 : key.size ≤ 140737488351232) (u0 : n ≤ 1048576) (u1 : m ≤ 1048576) (hr : right l = false) :
    Calls Try.prog 7 #[.slice A n c, .slice B m d, .string key] w fun e w' => e = .returned (.bool true) ∧ Q w w' := by
  have HD := Lib.hid hd
  have HM := Lib.hid hd.max
  have G0 := Lib.hid (fun W (h : In_ pairK W A n c l) => right_any A n c l W h.lst HM.out)
  have F0 := Lib.hid (fun W (h : In_ pairK W A n c l) => find_any key A n c l W h.lst HM.out)
  rw [hr] at G0
  generalize find key l = fr at F0
  obtain ⟨fs, fb⟩ := fr
  clear hr hd hp hw hpw
  go_enter Try.func7, Try.ntmps7
  go_wp2_with fail
  refine (tshown_any _).mono ?_
  rintro e w1 ⟨rfl, q1⟩
  have Q1 := Lib.hid (q1)
  clear q1
  go_wp2_with fail
  refine (G0.out _ (HD.out.q Q1.out)).mono ?_
  rintro e w2 ⟨rfl, q2⟩
  have Q2 := Lib.hid (Q1.out.trans q2)
  clear q2
  go_wp2_with fail
  refine (F0.out _ (HD.out.q Q2.out)).mono ?_
  rintro e w3 ⟨rfl, q3⟩
  have Q3 := Lib.hid (Q2.out.trans q3)
  clear q3
  go_wp2
  go_ret
  exact ⟨rfl, Q3.out⟩
set_option maxHeartbeats 8000000 in
theorem walk_yes (A : Option Addr) (n c : Nat) (l : List Pr) (B : Option Addr) (m d : Nat) (ws : List Wr) (key : ByteArray) (w : World) (hd : In_ pairK w A n c l) (hb : n * 32 ≤ 140737488351232) (hp : ∀ p ∈ l, PrIn p)
    (hw : In_ writeK w B m d ws) (hbw : m * 40 ≤ 140737488351232) (hpw : ∀ p ∈ ws, WrIn p) (h0 : key.size ≤ 140737488351232) (u0 : n ≤ 1048576) (u1 : m ≤ 1048576) (hr : right l = true) :
    Calls Try.prog 7 #[.slice A n c, .slice B m d, .string key] w fun e w' => e = .returned (.bool true) ∧ Q w w' := by
  have HD := Lib.hid hd
  have HM := Lib.hid hd.max
  have G0 := Lib.hid (fun W (h : In_ pairK W A n c l) => right_any A n c l W h.lst HM.out)
  have F0 := Lib.hid (fun W (h : In_ pairK W A n c l) => find_any key A n c l W h.lst HM.out)
  rw [hr] at G0
  have HW := Lib.hid hw
  have HL := Lib.hid hd.len
  have HLw := Lib.hid hw.len
  have Y1 := Lib.hid (fun W (h : In_ pairK W A n c l) (g : In_ writeK W B m d ws) => apply_any A B n c m d l ws W h g.lst (by omega))
  have L3 := Lib.hid (show (apply l ws).length ≤ maxLen by have := apply_len l ws; have := HL.out; have := HLw.out; unfold maxLen; omega)
  have E3 := find_apply key ws l
  generalize apply l ws = r3 at Y1 L3 E3
  have F3 := Lib.hid (fun W A c (h : Lst pairK W A r3.length r3) => find_any key A r3.length c r3 W h L3.out)
  rw [E3] at F3
  have hstep := fun (k : Nat) (hk : k < ws.length) => (show (ws.take (k + 1)).foldl (lastW key) (find key l) = lastW key ((ws.take k).foldl (lastW key) (find key l)) ws[k] by
    rw [List.take_succ_eq_append_getElem hk, List.foldl_append]; rfl)
  generalize hfr : find key l = fr at F0 F3 hstep
  have HSt := Lib.hid hstep
  clear hd hp hw hpw hr E3 hstep hfr
  have hmx : m ≤ 9223372036854775807 := by omega
  go_enter Try.func7, Try.ntmps7
  go_wp2_with fail
  refine (tshown_any _).mono ?_
  rintro e w1 ⟨rfl, q1⟩
  have Q1 := Lib.hid (q1)
  clear q1
  go_wp2_with fail
  refine (G0.out _ (HD.out.q Q1.out)).mono ?_
  rintro e w2 ⟨rfl, q2⟩
  have Q2 := Lib.hid (Q1.out.trans q2)
  clear q2
  go_wp2_with fail
  refine (F0.out _ (HD.out.q Q2.out)).mono ?_
  rintro e w3 ⟨rfl, q3⟩
  have Q3 := Lib.hid (Q2.out.trans q3)
  clear q3
  go_wp2
  go_loop [9, 10, 11] (fun s b i => ∃ k : Nat, k ≤ m ∧ i = .int .i64 k ∧ s = .string ((ws.take k).foldl (lastW key) fr).1 ∧ b = .bool ((ws.take k).foldl (lastW key) fr).2) (fun _ _ i => m - (intOf i).toNat)
  case atStart => exact ⟨0, Nat.zero_le _, rfl, rfl, rfl⟩
  case round =>
    obtain ⟨k, hk, rfl, rfl, rfl⟩ := hrel
    by_cases hlt : k < m
    · have hkl : k < ws.length := by have := HLw.out; omega
      have hst := HSt.out k hkl
      obtain ⟨ad, rfl, hab, x0, x1, x2⟩ := load_write (HW.out.lst.q Q3.out) hlt hkl
      have hkm : (k : Int) < (m : Int) := by omega
      have e1 := same_str ws[k].key key
      by_cases hh : ws[k].key = key
      · rw [decide_eq_true hh] at e1
        by_cases hdl : ws[k].del = true
        · have HS := Lib.hid (show (ws.take (k + 1)).foldl (lastW key) fr = (⟨#[]⟩, false) by rw [hst, lastW, if_pos hh, hdl]; rfl)
          rw [hdl] at x2
          clear hh hdl hst
          generalize ws[k] = x at x0 x1 x2 e1
          go_wp2
          go_round
          case rel => exact ⟨k + 1, by omega, by go_num, by rw [HS.out], by rw [HS.out]⟩
          case measure => simp [intOf]; omega
        · have hdf : ws[k].del = false := by simpa using hdl
          have HS := Lib.hid (show (ws.take (k + 1)).foldl (lastW key) fr = (ws[k].val, true) by rw [hst, lastW, if_pos hh, hdf]; rfl)
          rw [hdf] at x2
          clear hh hdl hst hdf
          generalize ws[k] = x at x0 x1 x2 e1 HS
          go_wp2
          go_round
          case rel => exact ⟨k + 1, by omega, by go_num, by rw [HS.out], by rw [HS.out]⟩
          case measure => simp [intOf]; omega
      · rw [decide_eq_false hh] at e1
        have HS := Lib.hid (show (ws.take (k + 1)).foldl (lastW key) fr = (ws.take k).foldl (lastW key) fr by rw [hst, lastW, if_neg hh])
        clear hh hst
        generalize ws[k] = x at x0 x1 x2 e1
        generalize (ws.take k).foldl (lastW key) fr = g at HS ⊢
        go_wp2
        go_round
        case rel => exact ⟨k + 1, by omega, by go_num, by rw [HS.out], by rw [HS.out]⟩
        case measure => simp [intOf]; omega
    · have hkm : k = m := by omega
      have HE := Lib.hid (show ws.take k = ws by rw [List.take_of_length_le (by rw [HLw.out]; omega)])
      rw [HE.out]
      clear hkm
      generalize ws.foldl (lastW key) fr = g at F3 ⊢
      obtain ⟨gs, gb⟩ := g
      go_wp2_with fail
      refine (Y1.out _ (HD.out.q Q3.out) (HW.out.q Q3.out)).mono ?_
      rintro e w4 ⟨A4, c4, rfl, o4, q4⟩
      have Q4 := Lib.hid (Q3.out.trans q4)
      have O4 := Lib.hid o4
      have q4' := Lib.hid q4
      clear q4 o4
      go_wp2_with fail
      refine (F3.out _ A4 c4 O4.out.lst).mono ?_
      rintro e w5 ⟨rfl, q5⟩
      have Q5 := Lib.hid (Q4.out.trans q5)
      clear q5
      go_wp2
      all_goals go_ret
      all_goals exact ⟨by first | rfl | simp, Q5.out⟩
set_option maxHeartbeats 8000000 in
theorem walk (A : Option Addr) (n c : Nat) (l : List Pr) (B : Option Addr) (m d : Nat) (ws : List Wr) (key : ByteArray) (w : World) (hd : In_ pairK w A n c l) (hb : n * 32 ≤ 140737488351232) (hp : ∀ p ∈ l, PrIn p)
    (hw : In_ writeK w B m d ws) (hbw : m * 40 ≤ 140737488351232) (hpw : ∀ p ∈ ws, WrIn p) (h0 : key.size ≤ 140737488351232) (u0 : n ≤ 1048576) (u1 : m ≤ 1048576) :
    Calls Try.prog 7 #[.slice A n c, .slice B m d, .string key] w fun e w' => e = .returned (.bool true) ∧ Q w w' := by
  have HD := Lib.hid hd
  have HM := Lib.hid hd.max
  have G0 := Lib.hid (fun W (h : In_ pairK W A n c l) => right_any A n c l W h.lst HM.out)
  have F0 := Lib.hid (fun W (h : In_ pairK W A n c l) => find_any key A n c l W h.lst HM.out)
  cases hr : right l with
  | false => exact walk_no A n c l B m d ws key w hd hb hp hw hbw hpw h0 u0 u1 hr
  | true => exact walk_yes A n c l B m d ws key w hd hb hp hw hbw hpw h0 u0 u1 hr

theorem opened (W : World) (args : Array Value) (hn : args.size = 3) (h : ∀ (j : Nat) t v, Try.f7.params[j]? = some t → args[j]? = some v → RdV W t v ∧ (true = true → RdU W t v.cells.toList)) :
    Calls Try.prog 7 args W fun e W' => e = .returned (.bool true) ∧ Q W W' := by
  obtain ⟨v0, v1, v2, rfl⟩ := args3 hn
  rw [Try.params7] at h
  obtain ⟨A0, n0, c0, e0, r0⟩ := (h 0 22 v0 rfl rfl).1.slice Try.underlying22
  obtain ⟨B0, m0, d0, l, f0, hd0, hb0, hp0⟩ := open_pairs r0
  simp only [List.cons.injEq, Value.slice.injEq, and_true] at f0
  obtain ⟨rfl, rfl, rfl⟩ := f0
  obtain ⟨A1, n1, c1, e1, r1⟩ := (h 1 23 v1 rfl rfl).1.slice Try.underlying23
  obtain ⟨B1, m1, d1, w, f1, hd1, hb1, hp1⟩ := open_writes r1
  simp only [List.cons.injEq, Value.slice.injEq, and_true] at f1
  obtain ⟨rfl, rfl, rfl⟩ := f1
  obtain ⟨key, e2, s2⟩ := (h 2 9 v2 rfl rfl).1.string Try.underlying9
  subst e0 e1 e2
  have u0 := small_list hd0 (fun a ha => RdU.cap (w := W) (t := 22) (a := a) (len := n0) (cap := c0) (by subst ha; exact ((h 0 22 _ rfl rfl).2 rfl)) Try.underlying22)
  have u1 := small_list hd1 (fun a ha => RdU.cap (w := W) (t := 23) (a := a) (len := n1) (cap := c1) (by subst ha; exact ((h 1 23 _ rfl rfl).2 rfl)) Try.underlying23)
  exact walk A0 n0 c0 l A1 n1 c1 w key W hd0 hb0 hp0 hd1 hb1 hp1 s2 u0 u1

set_option maxRecDepth 100000 in
theorem lifted (os : Os) (started : os.Started) (H : Type) (enc : TypeId × Value → H) (F : Stop.Interp) :
    ReturnsInHanded {} Try.checked os 7 .any ((Rows.OpenSpec.upto Rows.tableLastSpec).pre6 enc Try.prog Try.f7 Rows.tableLastUptoRow.domain false) (((Rows.OpenSpec.upto Rows.tableLastSpec).at F).post enc Try.prog Try.f7 false true false false) :=
  framedU (s := Rows.tableLastSpec) 3 Try.func7 (by rw [Try.params7]; rfl) rfl (by kernel_rfl) (by kernel_rfl) (by kernel_rfl)
    (fun H ds h => by match ds, h with | [d0, d1, d2], _ => exact ⟨rfl, rfl, rfl⟩)
    opened os started H enc F
    (OpenSpec.witness (enc := enc) (C := Try.checked) (s := Rows.OpenSpec.upto Rows.tableLastSpec) (k := Rows.uptoSmall) rfl false ⟨#[], #[.slice none 0 0, .slice none 0 0, .string ByteArray.empty], []⟩ 8 (by kernel_rfl) (by kernel_rfl) (by kernel_rfl)
      (x := ([.nil, .nil, .lit (.string [])], [], [])) (by kernel_rfl) (by kernel_rfl) (by kernel_rfl))

theorem proved : Rows.TableLastUptoSaid :=
  OpenClaim.holds_of_cond 7 Try.f7 rfl rfl rfl rfl rfl rfl rfl ⟨rfl, rfl, rfl, rfl, rfl⟩ rfl rfl rfl rfl rfl (by kernel_rfl) Try.func7 (by kernel_rfl)
    (of_decide_eq_true (by kernel_rfl)) (by unfold Func.isWrapper; first | (rw [if_pos (by decide +kernel)]; kernel_rfl) | (rw [if_neg (by decide +kernel)]; exact ⟨rfl, rfl⟩))
    (fun os started H enc _ F => lifted os started H enc F)
end Go.Proofs.Ytfgnlnolgjapnaa.tableLastUpto
