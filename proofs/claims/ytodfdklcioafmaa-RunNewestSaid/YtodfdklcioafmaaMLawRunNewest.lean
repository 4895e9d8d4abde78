/- For every two rows of writes, of 300 at most: a merge's keys rise, none twice; each of its writes is the last one of its key; no key is missing. No condition. -/
import Derived.Test.YtodfdklcioafmaaA6
import Derived.Test.YtodfdklcioafmaaA7
import Derived.Test.YtodfdklcioafmaaA1
import Derived.Test.YtodfdklcioafmaaA10
namespace Go.Proofs.Ytodfdklcioafmaa.runNewest
set_option maxRecDepth 100000
open Go.ChangeShapes Go.WideShapes Go.ChangeAt Go.RowKit Prm
set_option linter.unusedVariables false

theorem Bx.put3 {w : World} {b : Nat} {x y z : Value} (h : Bx w b [x, y, z]) (x' y' z' : Value) : Bx (((w.setCell ⟨b, 0, none⟩ x').setCell ⟨b, 1, none⟩ y').setCell ⟨b, 2, none⟩ z') b [x', y', z'] :=
  ((h.set (k := 0) (by simp) x').set (k := 1) (by simp) y').set (k := 2) (by simp) z'
theorem below3 {w w' : World} {base b : Nat} (h : Below base w w') (hb : base ≤ b) (x y z : Value) : Below base w (((w'.setCell ⟨b, 0, none⟩ x).setCell ⟨b, 1, none⟩ y).setCell ⟨b, 2, none⟩ z) :=
  ((h.setCell (p := ⟨b, 0, none⟩) hb x).setCell (p := ⟨b, 1, none⟩) hb y).setCell (p := ⟨b, 2, none⟩) hb z
/-- what a variable holds of a write. -/
def vals (p : Wr) : List Value := [.string p.key, .string p.val, .bool p.del]
def zw : Wr := ⟨⟨#[]⟩, ⟨#[]⟩, false⟩
/-- the last write of a key among the first k. -/
def lastD (ws : List Wr) (k : Nat) (key : ByteArray) : Wr := (Mg.lastw key (ws.take k)).getD zw
theorem lastD_zero (ws : List Wr) (key : ByteArray) : lastD ws 0 key = zw := rfl
theorem lastD_yes {ws : List Wr} {k : Nat} {key : ByteArray} (hk : k < ws.length) (h : ws[k].key = key) : lastD ws (k + 1) key = ws[k] := by
  unfold lastD; rw [List.take_succ_eq_append_getElem hk, Mg.lastw_snoc, if_pos h]; rfl
theorem lastD_no {ws : List Wr} {k : Nat} {key : ByteArray} (hk : k < ws.length) (h : ¬ ws[k].key = key) : lastD ws (k + 1) key = lastD ws k key := by
  unfold lastD; rw [List.take_succ_eq_append_getElem hk, Mg.lastw_snoc, if_neg h]
theorem lastD_end {ws : List Wr} {x : Wr} {k : Nat} (hk : ws.length ≤ k) (hx : x ∈ Mg.mrg ws) : lastD ws k x.key = x := by
  unfold lastD; rw [List.take_of_length_le hk, ((Mg.mrg_is ws).2 x).1 hx]; rfl
/-- a write of that key is among the first i. -/
def inTo (ms : List Wr) (i : Nat) (key : ByteArray) : Bool := (ms.take i).any fun w => decide (w.key = key)
theorem inTo_zero (ms : List Wr) (key : ByteArray) : inTo ms 0 key = false := rfl
theorem inTo_step {ms : List Wr} {i : Nat} {key : ByteArray} (hi : i < ms.length) : inTo ms (i + 1) key = (inTo ms i key || decide (ms[i].key = key)) := by
  unfold inTo; rw [List.take_succ_eq_append_getElem hi, List.any_append]; simp
theorem inTo_end {ws : List Wr} {x : Wr} {i : Nat} (hi : (Mg.mrg ws).length ≤ i) (hx : x ∈ ws) : inTo (Mg.mrg ws) i x.key = true := by
  unfold inTo; rw [List.take_of_length_le hi, List.any_eq_true]
  obtain ⟨y, hy⟩ := Mg.lastw_some hx rfl
  have hk := Mg.lastw_key hy
  exact ⟨y, ((Mg.mrg_is ws).2 y).2 (by rw [hk]; exact hy), by simpa using hk⟩

set_option maxHeartbeats 8000000 in
set_option maxRecDepth 100000 in
theorem walk_one (A : Option Addr) (n c : Nat) (l : List Wr) (B : Option Addr) (m d : Nat) (l2 : List Wr) (w : World) (hd : In_ writeK w A n c l) (hb : n * 40 ≤ 140737488351232) (hp : ∀ p ∈ l, WrIn p) (hd2 : In_ writeK w B m d l2) (hb2 : m * 40 ≤ 140737488351232) (hp2 : ∀ p ∈ l2, WrIn p) (h1 : 300 < n) :
    Calls Try.prog 8 #[.slice A n c, .slice B m d] w fun e w' => e = .returned (.bool true) ∧ Q w w' := by
  have HD := Lib.hid hd
  have HD2 := Lib.hid hd2
  have HK := Lib.hid (wkeys_in hp)
  have HK2 := Lib.hid (wkeys_in hp2)
  have HL := Lib.hid hd.len
  have HL2 := Lib.hid hd2.len
  have h2 : (300 : Int) < (n : Int) := by omega
  clear hd hd2 hp hp2 hb hb2
  go_enter Try.func8, Try.ntmps8
  go_wp2_with fail
  refine (rshown_any _).mono ?_
  rintro e w1 ⟨rfl, q1⟩
  have Q1 := Lib.hid q1
  clear q1
  go_wp2
  go_ret
  exact ⟨rfl, Q1.out⟩
set_option maxHeartbeats 8000000 in
set_option maxRecDepth 100000 in
theorem walk_two (A : Option Addr) (n c : Nat) (l : List Wr) (B : Option Addr) (m d : Nat) (l2 : List Wr) (w : World) (hd : In_ writeK w A n c l) (hb : n * 40 ≤ 140737488351232) (hp : ∀ p ∈ l, WrIn p) (hd2 : In_ writeK w B m d l2) (hb2 : m * 40 ≤ 140737488351232) (hp2 : ∀ p ∈ l2, WrIn p) (h1 : n ≤ 300) (h3 : 300 < m) :
    Calls Try.prog 8 #[.slice A n c, .slice B m d] w fun e w' => e = .returned (.bool true) ∧ Q w w' := by
  have HD := Lib.hid hd
  have HD2 := Lib.hid hd2
  have HK := Lib.hid (wkeys_in hp)
  have HK2 := Lib.hid (wkeys_in hp2)
  have HL := Lib.hid hd.len
  have HL2 := Lib.hid hd2.len
  have h2 : (n : Int) ≤ 300 := by omega
  have h4 : (300 : Int) < (m : Int) := by omega
  clear hd hd2 hp hp2 hb hb2
  go_enter Try.func8, Try.ntmps8
  go_wp2_with fail
  refine (rshown_any _).mono ?_
  rintro e w1 ⟨rfl, q1⟩
  have Q1 := Lib.hid q1
  clear q1
  go_wp2
  go_ret
  exact ⟨rfl, Q1.out⟩
set_option maxHeartbeats 8000000 in
set_option maxRecDepth 100000 in
theorem walk_all (A : Option Addr) (n c : Nat) (l : List Wr) (B : Option Addr) (m d : Nat) (l2 : List Wr) (w : World) (hd : In_ writeK w A n c l) (hb : n * 40 ≤ 140737488351232) (hp : ∀ p ∈ l, WrIn p) (hd2 : In_ writeK w B m d l2) (hb2 : m * 40 ≤ 140737488351232) (hp2 : ∀ p ∈ l2, WrIn p) (h1 : n ≤ 300) (h3 : m ≤ 300) :
    Calls Try.prog 8 #[.slice A n c, .slice B m d] w fun e w' => e = .returned (.bool true) ∧ Q w w' := by
  have HD := Lib.hid hd
  have HD2 := Lib.hid hd2
  have HK := Lib.hid (wkeys_in hp)
  have HK2 := Lib.hid (wkeys_in hp2)
  have HL := Lib.hid hd.len
  have HL2 := Lib.hid hd2.len
  have h2 : (n : Int) ≤ 300 := by omega
  have h4 : (m : Int) ≤ 300 := by omega
  have HS := Lib.hid (show (n + m) * 40 ≤ 140737488355328 by omega)
  have HN := Lib.hid (show n ≤ 500 ∧ m ≤ 500 from ⟨by omega, by omega⟩)
  have HKK := Lib.hid (show WKeysIn (l ++ l2) from fun x hx => by
    rcases List.mem_append.1 hx with h | h
    · exact HK.out x h
    · exact HK2.out x h)
  obtain ⟨ws, hws⟩ : ∃ ws, l ++ l2 = ws := ⟨_, rfl⟩
  have HWS := Lib.hid hws
  have M1 := Lib.hid (show ∀ W, In_ writeK W A n c l → In_ writeK W B m d l2 → Calls Try.prog 18 #[.slice A n c, .slice B m d] W fun e w' => RetL writeK W (Mg.mrg ws).length (Mg.mrg ws) e w' by subst hws; exact fun W h g => merge_any A B n c m d l l2 W h g HS.out HKK.out)
  have HWl := Lib.hid (show ws.length = n + m by rw [← hws, List.length_append, HL.out, HL2.out])
  have HM := Lib.hid (show (Mg.mrg ws).length ≤ 600 by have := Mg.mrg_len ws; have := HWl.out; have := HN.out; omega)
  have HR := Lib.hid (Mg.mrg_is ws).1
  have HE1 := Lib.hid (fun (x : Wr) (k : Nat) (h1 : ws.length ≤ k) (h2 : x ∈ Mg.mrg ws) => lastD_end h1 h2)
  have HE2 := Lib.hid (fun (x : Wr) (i : Nat) (h1 : (Mg.mrg ws).length ≤ i) (h2 : x ∈ ws) => inTo_end h1 h2)
  generalize Mg.mrg ws = ms at M1 HM HR HE1 HE2
  have hmm : ms.length ≤ 600 := HM.out
  clear hws
  clear hd hd2 hp hp2 hb hb2
  go_enter Try.func8, Try.ntmps8
  go_wp2_with fail
  refine (rshown_any _).mono ?_
  rintro e w1 ⟨rfl, q1⟩
  have Q1 := Lib.hid q1
  clear q1
  go_upto_region 5 with (
    at_builtin
    refine wpl_appK writeK rfl (.tmp 24) (.tmp 25) 39 rfl rfl w1.heap.size (some ⟨w1.heap.size, 0, none⟩) 0 0 [] rfl (OwnK.lit0 writeK w1 _ (Nat.le_refl _)) A n c l rfl (HD.out.lst.q (Q1.out.alloc _)) HD.out.nil (by have := HD.out.few; simpa using this) (by simp) ?_
    intro A0 c0 w0 o0 b0
    have S0 := Lib.hid (show OwnK writeK w0 w1.heap.size A0 n c0 l ∧ Q w1 w0 from ⟨by simpa using o0, ((Q.refl w1).alloc _).below.trans b0⟩)
    clear o0 b0)
  go_upto_region 6 with (
    at_builtin
    refine wpl_appK writeK rfl (.tmp 27) (.tmp 28) 39 rfl rfl w1.heap.size A0 n c0 l rfl S0.out.1 B m d l2 rfl (HD2.out.lst.q (Q1.out.trans S0.out.2)) HD2.out.nil HS.out S0.out.2.size ?_
    intro A6 c6 w2 o1 b1
    have L6 := Lib.hid (show Lst writeK w2 A6 (n + m) ws by rw [← HWS.out]; exact o1.lst)
    have Q2 := Lib.hid (show Q w w2 from Q1.out.trans (S0.out.2.below.trans b1))
    clear o1 b1 S0)
  go_wp2_with fail
  refine (M1.out _ (HD.out.q Q2.out) (HD2.out.q Q2.out)).mono ?_
  rintro e w3 ⟨A7, c7, rfl, o7, q7⟩
  have L7 := Lib.hid o7.lst
  have L3 := Lib.hid (L6.out.q q7)
  have Q3 := Lib.hid (Q2.out.trans q7)
  clear o7 q7 L6 HD HD2 M1 HWS
  have hNm : n + m ≤ 600 := by have := HN.out; omega
  generalize n + m = N at hNm HS HWl L3 ⊢
  go_wp2
  go_loopw [8] (fun s8 wr => ∃ i : Nat, i ≤ ms.length ∧ s8 = .int .i64 i ∧ Q w3 wr) (fun s8 _ => ms.length - (intOf s8).toNat)
  case atStart => exact ⟨0, Nat.zero_le _, rfl, Q.refl _⟩
  case round =>
    obtain ⟨i, hi, rfl, hq⟩ := hrel
    have QR := Lib.hid hq
    clear hq
    by_cases hlt : i < ms.length
    · have hiN : (i : Int) < (ms.length : Int) := by omega
      have HX := Lib.hid (HE1.out ms[i] N (by rw [HWl.out]; exact Nat.le_refl _) (List.getElem_mem hlt))
      have HLX := Lib.hid (fun W (q : Q w3 W) => load_write (L7.out.q q) hlt hlt)
      have HR1 := Lib.hid (show ∀ i', i = i' + 1 → ∃ y : Wr, lt y.key ms[i].key = true ∧ ∀ W, Q w3 W → ∃ ad : Addr, A7 = some ad ∧ ad.block < W.heap.size ∧ W.cell? (ad.add (i' * 3)) = some (.string y.key) from fun i' e => by
        have h' : i' < ms.length := by omega
        refine ⟨ms[i'], ?_, fun W q => ?_⟩
        · have := (List.pairwise_iff_getElem.1 HR.out) i' i h' hlt (by omega); exact this
        · obtain ⟨ad, e1, e2, e3, _⟩ := load_write (L7.out.q q) h' h'
          exact ⟨ad, e1, e2, e3⟩)
      generalize ms[i] = x at HX HLX HR1
      by_cases h0 : i = 0
      · have hi0 : ¬ (0 : Int) < (i : Int) := by omega
        have hi1 : ¬ 0 < i := by omega
        clear HR1
        subst h0
        go_wp2
        go_quiet (fail)
        all_goals
          have QD := Lib.hid (QR.out.drewN nq)
          clear QR
          generalize wr.drewN nq = wq at QD ⊢
          go_upto_region 13 with (fail)
          have HB0 : Hid (Bx (wq.alloc (.cells #[.string ⟨#[]⟩, .string ⟨#[]⟩, .bool false] 59)) wq.heap.size (vals (lastD ws 0 x.key)) ∧ Q wq (wq.alloc (.cells #[.string ⟨#[]⟩, .string ⟨#[]⟩, .bool false] 59))) := Lib.hid ⟨Bx.new wq _ _, (Q.refl _).alloc _⟩
          generalize wq.alloc (.cells #[.string ⟨#[]⟩, .string ⟨#[]⟩, .bool false] 59) = wb at HB0 ⊢
          go_wp2
          go_loopw [10] (fun s10 wy => ∃ k : Nat, k ≤ N ∧ s10 = .int .i64 k ∧ Bx wy wq.heap.size (vals (lastD ws k x.key)) ∧ Q wq wy) (fun s10 _ => N - (intOf s10).toNat)
          case atStart => exact ⟨0, Nat.zero_le _, rfl, HB0.out.1, HB0.out.2⟩
          case round =>
            obtain ⟨k, hk, rfl, hb, hq⟩ := hrel
            have HB := Lib.hid hb
            have QK := Lib.hid hq
            clear hb hq
            obtain ⟨ad7, ea7, hab7, x0, x1, x2⟩ := HLX.out _ (QD.out.trans QK.out)
            (first | (injection ea7 with ea7; subst ea7) | subst ea7)
            simp only [Nat.zero_mul] at x0 x1 x2
            rw [show ad7.add 0 = ad7 from rfl] at x0 x1 x2
            by_cases hkt : k < N
            · have hkl : k < ws.length := by have := HWl.out; omega
              have hkN : (k : Int) < (N : Int) := by omega
              obtain ⟨ad6, ea6, hab6, z0, z1, z2⟩ := load_write (L3.out.q (QD.out.trans QK.out)) hkt hkl
              subst ea6
              have e6 := same_str ws[k].key x.key
              by_cases hkk : ws[k].key = x.key
              · rw [decide_eq_true hkk] at e6
                have HD1 := Lib.hid (lastD_yes hkl hkk)
                generalize ws[k] = z at z0 z1 z2 HD1 e6
                obtain ⟨⟨g0, g1, g2⟩, f0, f1, f2⟩ := HB.out.get3
                clear hkk x1 x2
                go_wp2
                go_quiet (fail)
                all_goals
                  go_upto_region 15 with (fail)
                  have HB3 : Hid (Bx ((((wr.drewN nq).setCell ⟨wq.heap.size, 0, none⟩ (.string z.key)).setCell ⟨wq.heap.size, 1, none⟩ (.string z.val)).setCell ⟨wq.heap.size, 2, none⟩ (.bool z.del)) wq.heap.size (vals z) ∧ Q wq ((((wr.drewN nq).setCell ⟨wq.heap.size, 0, none⟩ (.string z.key)).setCell ⟨wq.heap.size, 1, none⟩ (.string z.val)).setCell ⟨wq.heap.size, 2, none⟩ (.bool z.del))) :=
                    Lib.hid ⟨Bx.put3 (HB.out.q ((Q.refl _).drewN nq)) _ _ _, below3 (QK.out.drewN nq) (Nat.le_refl _) _ _ _⟩
                  clear g0 g1 g2 f0 f1 f2 z0 z1 z2
                  generalize (((wr.drewN nq).setCell ⟨wq.heap.size, 0, none⟩ (.string z.key)).setCell ⟨wq.heap.size, 1, none⟩ (.string z.val)).setCell ⟨wq.heap.size, 2, none⟩ (.bool z.del) = w5 at HB3 ⊢
                  go_wp2
                  go_roundw
                  case rel => exact ⟨k + 1, by omega, by go_num, by rw [HD1.out]; exact HB3.out.1, HB3.out.2⟩
                  case measure => simp [intOf]; omega
              · rw [decide_eq_false hkk] at e6
                have HD1 := Lib.hid (lastD_no hkl hkk)
                generalize ws[k] = z at z0 z1 z2 e6
                clear hkk x1 x2 z1 z2
                go_wp2
                go_quiet (fail)
                all_goals
                  go_wp2
                  go_roundw
                  case rel => exact ⟨k + 1, by omega, by go_num, by rw [HD1.out]; exact HB.out.q ((Q.refl _).drewN _), QK.out.drewN _⟩
                  case measure => simp [intOf]; omega
            · have hkN : ¬ (k : Int) < (N : Int) := by omega
              have HD1 := Lib.hid (show lastD ws k x.key = x by have := HX.out; rw [show k = N by omega]; exact this)
              rw [HD1.out] at HB
              obtain ⟨⟨g0, g1, g2⟩, f0, f1, f2⟩ := HB.out.get3
              have hne := fun W => neq_write W x x
              have hdx : decide (x = x) = true := decide_eq_true rfl
              clear f0 f1 f2
              go_wp2
              go_quiet (fail)
              all_goals
                go_wp2
                go_roundw
                case rel => exact ⟨0 + 1, by omega, by go_num, QD.out.trans (QK.out.drewN _)⟩
                case measure => simp [intOf]; omega
      · obtain ⟨i', hi'⟩ : ∃ i', i = i' + 1 := ⟨i - 1, by omega⟩
        obtain ⟨y, hyl, hyc⟩ := HR1.out i' hi'
        have hi0 : (0 : Int) < (i : Int) := by omega
        have hi2 : 0 < i := by omega
        have e0 : IntKind.i64.wrap ((i : Int) - 1) = (i' : Int) := by rw [IntKind.wrap_i64]; omega
        have hin : (i' : Int) < (ms.length : Int) := by omega
        have e1 := lt_data y.key x.key
        rw [hyl] at e1
        obtain ⟨ad, ea, hab, y0⟩ := hyc _ QR.out
        subst ea
        obtain ⟨ad', ea, hab', x0, x1, x2⟩ := HLX.out _ QR.out
        injection ea with ea
        subst ea
        have HI := Lib.hid hi'
        clear hi' HR1 h0 hyl hyc
        go_wp2
        go_quiet (fail)
        clear y0 x0 x1 x2 e1 e0
        all_goals
          have QD := Lib.hid (QR.out.drewN nq)
          clear QR
          generalize wr.drewN nq = wq at QD ⊢
          go_upto_region 13 with (fail)
          have HB0 : Hid (Bx (wq.alloc (.cells #[.string ⟨#[]⟩, .string ⟨#[]⟩, .bool false] 59)) wq.heap.size (vals (lastD ws 0 x.key)) ∧ Q wq (wq.alloc (.cells #[.string ⟨#[]⟩, .string ⟨#[]⟩, .bool false] 59))) := Lib.hid ⟨Bx.new wq _ _, (Q.refl _).alloc _⟩
          generalize wq.alloc (.cells #[.string ⟨#[]⟩, .string ⟨#[]⟩, .bool false] 59) = wb at HB0 ⊢
          go_wp2
          go_loopw [10] (fun s10 wy => ∃ k : Nat, k ≤ N ∧ s10 = .int .i64 k ∧ Bx wy wq.heap.size (vals (lastD ws k x.key)) ∧ Q wq wy) (fun s10 _ => N - (intOf s10).toNat)
          case atStart => exact ⟨0, Nat.zero_le _, rfl, HB0.out.1, HB0.out.2⟩
          case round =>
            obtain ⟨k, hk, rfl, hb, hq⟩ := hrel
            have HB := Lib.hid hb
            have QK := Lib.hid hq
            clear hb hq
            obtain ⟨ad7, ea7, hab7, x0, x1, x2⟩ := HLX.out _ (QD.out.trans QK.out)
            (first | (injection ea7 with ea7; subst ea7) | subst ea7)
            by_cases hkt : k < N
            · have hkl : k < ws.length := by have := HWl.out; omega
              have hkN : (k : Int) < (N : Int) := by omega
              obtain ⟨ad6, ea6, hab6, z0, z1, z2⟩ := load_write (L3.out.q (QD.out.trans QK.out)) hkt hkl
              subst ea6
              have e6 := same_str ws[k].key x.key
              by_cases hkk : ws[k].key = x.key
              · rw [decide_eq_true hkk] at e6
                have HD1 := Lib.hid (lastD_yes hkl hkk)
                generalize ws[k] = z at z0 z1 z2 HD1 e6
                obtain ⟨⟨g0, g1, g2⟩, f0, f1, f2⟩ := HB.out.get3
                clear hkk x1 x2
                go_wp2
                go_quiet (fail)
                all_goals
                  go_upto_region 15 with (fail)
                  have HB3 : Hid (Bx ((((wr.drewN nq).setCell ⟨wq.heap.size, 0, none⟩ (.string z.key)).setCell ⟨wq.heap.size, 1, none⟩ (.string z.val)).setCell ⟨wq.heap.size, 2, none⟩ (.bool z.del)) wq.heap.size (vals z) ∧ Q wq ((((wr.drewN nq).setCell ⟨wq.heap.size, 0, none⟩ (.string z.key)).setCell ⟨wq.heap.size, 1, none⟩ (.string z.val)).setCell ⟨wq.heap.size, 2, none⟩ (.bool z.del))) :=
                    Lib.hid ⟨Bx.put3 (HB.out.q ((Q.refl _).drewN nq)) _ _ _, below3 (QK.out.drewN nq) (Nat.le_refl _) _ _ _⟩
                  clear g0 g1 g2 f0 f1 f2 z0 z1 z2
                  generalize (((wr.drewN nq).setCell ⟨wq.heap.size, 0, none⟩ (.string z.key)).setCell ⟨wq.heap.size, 1, none⟩ (.string z.val)).setCell ⟨wq.heap.size, 2, none⟩ (.bool z.del) = w5 at HB3 ⊢
                  go_wp2
                  go_roundw
                  case rel => exact ⟨k + 1, by omega, by go_num, by rw [HD1.out]; exact HB3.out.1, HB3.out.2⟩
                  case measure => simp [intOf]; omega
              · rw [decide_eq_false hkk] at e6
                have HD1 := Lib.hid (lastD_no hkl hkk)
                generalize ws[k] = z at z0 z1 z2 e6
                clear hkk x1 x2 z1 z2
                go_wp2
                go_quiet (fail)
                all_goals
                  go_wp2
                  go_roundw
                  case rel => exact ⟨k + 1, by omega, by go_num, by rw [HD1.out]; exact HB.out.q ((Q.refl _).drewN _), QK.out.drewN _⟩
                  case measure => simp [intOf]; omega
            · have hkN : ¬ (k : Int) < (N : Int) := by omega
              have HD1 := Lib.hid (show lastD ws k x.key = x by have := HX.out; rw [show k = N by omega]; exact this)
              rw [HD1.out] at HB
              obtain ⟨⟨g0, g1, g2⟩, f0, f1, f2⟩ := HB.out.get3
              have hne := fun W => neq_write W x x
              have hdx : decide (x = x) = true := decide_eq_true rfl
              clear f0 f1 f2
              go_wp2
              go_quiet (fail)
              all_goals
                go_wp2
                go_roundw
                case rel => exact ⟨i + 1, by omega, by go_num, QD.out.trans (QK.out.drewN _)⟩
                case measure => simp [intOf]; omega
    · have hiN : ¬ (i : Int) < (ms.length : Int) := by omega
      clear hi hlt HE1 HR
      go_wp2
      go_loopw [11] (fun s11 wy => ∃ k : Nat, k ≤ N ∧ s11 = .int .i64 k ∧ Q w3 wy) (fun s11 _ => N - (intOf s11).toNat)
      case atStart => exact ⟨0, Nat.zero_le _, rfl, QR.out⟩
      case round =>
        obtain ⟨k, hk, rfl, hq⟩ := hrel
        have QK := Lib.hid hq
        clear hq QR
        by_cases hkt : k < N
        · have hkl : k < ws.length := by have := HWl.out; omega
          have hkN : (k : Int) < (N : Int) := by omega
          have HZ := Lib.hid (fun W (q : Q w3 W) => load_write (L3.out.q q) hkt hkl)
          have HX2 := Lib.hid (fun i (h : ms.length ≤ i) => HE2.out ws[k] i h (List.getElem_mem hkl))
          generalize ws[k] = z at HZ HX2
          go_wp2
          go_loopw [12, 13] (fun s12 s13 wz => ∃ i : Nat, i ≤ ms.length ∧ s13 = .int .i64 i ∧ s12 = .bool (inTo ms i z.key) ∧ Q w3 wz) (fun _ s13 _ => ms.length - (intOf s13).toNat)
          case atStart => exact ⟨0, Nat.zero_le _, rfl, rfl, QK.out⟩
          case round =>
            obtain ⟨i, hi, rfl, rfl, hz⟩ := hrel
            have QZ := Lib.hid hz
            clear hz QK
            by_cases hit : i < ms.length
            · have hiN : (i : Int) < (ms.length : Int) := by omega
              obtain ⟨ad6, ea6, hab6, z0, z1, z2⟩ := HZ.out _ QZ.out
              obtain ⟨ad7, ea7, hab7, x0, x1, x2⟩ := load_write (L7.out.q QZ.out) hit hit
              subst ea6
              subst ea7
              have e1 := same_str ms[i].key z.key
              have HS1 := Lib.hid (inTo_step (key := z.key) hit)
              generalize ms[i] = y at x0 x1 x2 e1 HS1
              clear z1 z2 x1 x2
              by_cases hb : inTo ms i z.key = true
              · rw [hb] at HS1 ⊢
                have HS2 := Lib.hid (show inTo ms (i + 1) z.key = true by rw [HS1.out]; rfl)
                clear hb e1
                go_wp2
                go_quiet (fail)
                all_goals
                  go_wp2
                  go_roundw
                  case rel => exact ⟨i + 1, by omega, by go_num, by rw [HS2.out], QZ.out.drewN _⟩
                  case measure => simp [intOf]; omega
              · have hb : inTo ms i z.key = false := by simpa using hb
                rw [hb] at HS1 ⊢
                have HS2 := Lib.hid (show inTo ms (i + 1) z.key = decide (y.key = z.key) by rw [HS1.out]; simp)
                clear hb
                by_cases hy : y.key = z.key
                · rw [decide_eq_true hy] at e1 HS2
                  clear hy
                  go_wp2
                  go_quiet (fail)
                  all_goals
                    go_wp2
                    go_roundw
                    case rel => exact ⟨i + 1, by omega, by go_num, by rw [HS2.out], QZ.out.drewN _⟩
                    case measure => simp [intOf]; omega
                · rw [decide_eq_false hy] at e1 HS2
                  clear hy
                  go_wp2
                  go_quiet (fail)
                  all_goals
                    go_wp2
                    go_roundw
                    case rel => exact ⟨i + 1, by omega, by go_num, by rw [HS2.out], QZ.out.drewN _⟩
                    case measure => simp [intOf]; omega
            · have hiN : ¬ (i : Int) < (ms.length : Int) := by omega
              have HI := Lib.hid (HX2.out i (by omega))
              rw [HI.out]
              go_wp2
              go_roundw
              case rel => exact ⟨k + 1, by omega, by go_num, QZ.out⟩
              case measure => simp [intOf]; omega
        · have hkN : ¬ (k : Int) < (N : Int) := by omega
          go_wp2
          go_ret
          exact ⟨rfl, Q3.out.trans QK.out⟩
theorem walk (A : Option Addr) (n c : Nat) (l : List Wr) (B : Option Addr) (m d : Nat) (l2 : List Wr) (w : World) (hd : In_ writeK w A n c l) (hb : n * 40 ≤ 140737488351232) (hp : ∀ p ∈ l, WrIn p) (hd2 : In_ writeK w B m d l2) (hb2 : m * 40 ≤ 140737488351232) (hp2 : ∀ p ∈ l2, WrIn p) :
    Calls Try.prog 8 #[.slice A n c, .slice B m d] w fun e w' => e = .returned (.bool true) ∧ Q w w' := by
  by_cases h1 : 300 < n
  · exact walk_one A n c l B m d l2 w hd hb hp hd2 hb2 hp2 h1
  · by_cases h3 : 300 < m
    · exact walk_two A n c l B m d l2 w hd hb hp hd2 hb2 hp2 (by omega) h3
    · exact walk_all A n c l B m d l2 w hd hb hp hd2 hb2 hp2 (by omega) (by omega)
theorem opened (W : World) (args : Array Value) (hn : args.size = 2) (h : ∀ (j : Nat) t v, Try.f8.params[j]? = some t → args[j]? = some v → RdV W t v) :
    Calls Try.prog 8 args W fun e W' => e = .returned (.bool true) ∧ Q W W' := by
  obtain ⟨v0, v1, rfl⟩ := args2 hn
  rw [Try.params8] at h
  obtain ⟨A0, n0, c0, e0, r0⟩ := (h 0 39 v0 rfl rfl).slice Try.underlying39
  obtain ⟨B0, m0, d0, older, f0, hd0, hb0, hp0⟩ := open_writes r0
  simp only [List.cons.injEq, Value.slice.injEq, and_true] at f0
  obtain ⟨rfl, rfl, rfl⟩ := f0
  obtain ⟨A1, n1, c1, e1, r1⟩ := (h 1 39 v1 rfl rfl).slice Try.underlying39
  obtain ⟨B1, m1, d1, newer, f1, hd1, hb1, hp1⟩ := open_writes r1
  simp only [List.cons.injEq, Value.slice.injEq, and_true] at f1
  obtain ⟨rfl, rfl, rfl⟩ := f1
  subst e0 e1
  exact walk A0 n0 c0 older A1 n1 c1 newer W hd0 hb0 hp0 hd1 hb1 hp1

set_option maxRecDepth 100000 in
theorem lifted (os : Os) (started : os.Started) (H : Type) (enc : TypeId × Value → H) :
    ReturnsInHanded {} Try.checked os 8 .any (Rows.runNewestSpec.pre6 enc Try.prog Try.f8 Rows.runNewestRow.domain false) (Rows.runNewestSpec.post enc Try.prog Try.f8 false true false false) :=
  framed 2 Try.func8 (by rw [Try.params8]; rfl) rfl (by kernel_rfl) (by kernel_rfl) (by kernel_rfl)
    (fun H ds h => by match ds, h with | [d0, d1], _ => exact ⟨rfl, rfl, rfl⟩)
    opened os started H enc
    (ChangeSpec.witness6 (enc := enc) (C := Try.checked) false ⟨#[], #[.slice none 0 0, .slice none 0 0], []⟩ 8 (by kernel_rfl) (by kernel_rfl) (by kernel_rfl) (by kernel_rfl))

theorem over : Rows.runNewestRow.holds Try.pinned (OpenSpec.ofChange Rows.runNewestSpec) :=
  OpenClaim.holds_of_wide 8 Try.f8 rfl rfl rfl rfl rfl rfl rfl ⟨rfl, rfl, rfl, rfl, rfl⟩ rfl rfl rfl rfl rfl (by kernel_rfl) Try.func8 (by kernel_rfl)
    (of_decide_eq_true (by kernel_rfl)) (by unfold Func.isWrapper; first | (rw [if_pos (by decide +kernel)]; kernel_rfl) | (rw [if_neg (by decide +kernel)]; exact ⟨rfl, rfl⟩))
    (fun os started H enc _ => lifted os started H enc)

theorem proved : Rows.RunNewestSaid := over
end Go.Proofs.Ytodfdklcioafmaa.runNewest
