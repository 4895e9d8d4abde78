/- For every row and keys: two ranges that stand together are the range of both. No condition. -/
import Derived.Test.YtfgnlnolgjapnaaPairIn
import Derived.Test.YtfgnlnolgjapnaaTableMath
import Derived.Deep.DeepCutAuto
namespace Go.Proofs.Ytfgnlnolgjapnaa.tableParts
set_option maxRecDepth 100000
open Go.ChangeShapes Go.WideShapes Go.ChangeAt Go.RowKit Prm
set_option linter.unusedVariables false

theorem OwnK.src {K : Kind Pr} {w : World} {base : Nat} {A : Option Addr} {n c : Nat} {l : List Pr} (h : OwnK K w base A n c l) : A = none → n = 0 ∧ c = 0 := fun e => by
  rcases h.parts with ⟨_, a, b, _⟩ | ⟨g, cur, e2, _⟩
  · exact ⟨a, b⟩
  · rw [e2] at e; cases e

set_option maxHeartbeats 4000000 in
theorem walk_no (A : Option Addr) (n c : Nat) (l : List Pr) (lo mid hi : ByteArray) (w : World) (hd : In_ pairK w A n c l) (hb : n * 32 ≤ 140737488351232) (hp : ∀ p ∈ l, PrIn p) (h0 : lo.size ≤ 140737488351232) (h1 : mid.size ≤ 140737488351232) (h2 : hi.size ≤ 140737488351232) (hr : right l = false) :
    Calls Try.prog 8 #[.agg #[.slice A n c, .string lo, .string mid, .string hi]] w fun e w' => e = .returned (.bool true) ∧ Q w w' := by
  have HD := Lib.hid hd
  have HM := Lib.hid hd.max
  have HK := Lib.hid (keys_in hp)
  have G0 := Lib.hid (fun W (h : In_ pairK W A n c l) => refRight_any A n c l W h.lst HM.out HK.out)
  rw [hr] at G0
  clear hr hd hp
  go_enter Try.func8, Try.ntmps8
  go_wp2_with fail
  refine (tshown_any _).mono ?_
  rintro e w1 ⟨rfl, q1⟩
  have Q1 := Lib.hid (((Q.refl w).alloc _).trans q1)
  clear q1
  go_wp2_with fail
  refine (G0.out _ (HD.out.q Q1.out)).mono ?_
  rintro e w2 ⟨rfl, q2⟩
  have Q2 := Lib.hid (Q1.out.trans q2)
  clear q2
  go_wp2
  all_goals go_ret
  all_goals exact ⟨by first | rfl | simp, Q2.out⟩
set_option maxHeartbeats 4000000 in
theorem walk_empty (A : Option Addr) (n c : Nat) (l : List Pr) (lo mid hi : ByteArray) (w : World) (hd : In_ pairK w A n c l) (hb : n * 32 ≤ 140737488351232) (hp : ∀ p ∈ l, PrIn p) (h0 : lo.size ≤ 140737488351232) (h1 : mid.size ≤ 140737488351232) (h2 : hi.size ≤ 140737488351232) (hr : right l = true) (he : mid = ⟨#[]⟩) :
    Calls Try.prog 8 #[.agg #[.slice A n c, .string lo, .string mid, .string hi]] w fun e w' => e = .returned (.bool true) ∧ Q w w' := by
  have HD := Lib.hid hd
  have HM := Lib.hid hd.max
  have HK := Lib.hid (keys_in hp)
  have G0 := Lib.hid (fun W (h : In_ pairK W A n c l) => refRight_any A n c l W h.lst HM.out HK.out)
  rw [hr] at G0
  subst he
  clear hr hd hp
  go_enter Try.func8, Try.ntmps8
  go_wp2_with fail
  refine (tshown_any _).mono ?_
  rintro e w1 ⟨rfl, q1⟩
  have Q1 := Lib.hid (((Q.refl w).alloc _).trans q1)
  clear q1
  go_wp2_with fail
  refine (G0.out _ (HD.out.q Q1.out)).mono ?_
  rintro e w2 ⟨rfl, q2⟩
  have Q2 := Lib.hid (Q1.out.trans q2)
  clear q2
  go_wp2
  all_goals go_ret
  all_goals exact ⟨by first | rfl | simp, Q2.out⟩
set_option maxHeartbeats 4000000 in
theorem walk_low (A : Option Addr) (n c : Nat) (l : List Pr) (lo mid hi : ByteArray) (w : World) (hd : In_ pairK w A n c l) (hb : n * 32 ≤ 140737488351232) (hp : ∀ p ∈ l, PrIn p) (h0 : lo.size ≤ 140737488351232) (h1 : mid.size ≤ 140737488351232) (h2 : hi.size ≤ 140737488351232) (hr : right l = true) (he : ¬ mid = ⟨#[]⟩) (hl : lt mid lo = true) :
    Calls Try.prog 8 #[.agg #[.slice A n c, .string lo, .string mid, .string hi]] w fun e w' => e = .returned (.bool true) ∧ Q w w' := by
  have HD := Lib.hid hd
  have HM := Lib.hid hd.max
  have HK := Lib.hid (keys_in hp)
  have G0 := Lib.hid (fun W (h : In_ pairK W A n c l) => refRight_any A n c l W h.lst HM.out HK.out)
  rw [hr] at G0
  obtain ⟨n1, n2, n3⟩ := empty_no he
  have e1 := lt_data mid lo
  rw [hl] at e1
  clear hr hd hp he hl
  go_enter Try.func8, Try.ntmps8
  go_wp2_with fail
  refine (tshown_any _).mono ?_
  rintro e w1 ⟨rfl, q1⟩
  have Q1 := Lib.hid (((Q.refl w).alloc _).trans q1)
  clear q1
  go_wp2_with fail
  refine (G0.out _ (HD.out.q Q1.out)).mono ?_
  rintro e w2 ⟨rfl, q2⟩
  have Q2 := Lib.hid (Q1.out.trans q2)
  clear q2
  go_wp2
  all_goals go_ret
  all_goals exact ⟨by first | rfl | simp, Q2.out⟩
set_option maxHeartbeats 4000000 in
theorem walk_high (A : Option Addr) (n c : Nat) (l : List Pr) (lo mid hi : ByteArray) (w : World) (hd : In_ pairK w A n c l) (hb : n * 32 ≤ 140737488351232) (hp : ∀ p ∈ l, PrIn p) (h0 : lo.size ≤ 140737488351232) (h1 : mid.size ≤ 140737488351232) (h2 : hi.size ≤ 140737488351232) (hr : right l = true) (he : ¬ mid = ⟨#[]⟩) (hl : lt mid lo = false) (hh : ¬ hi = ⟨#[]⟩) (hm : lt hi mid = true) :
    Calls Try.prog 8 #[.agg #[.slice A n c, .string lo, .string mid, .string hi]] w fun e w' => e = .returned (.bool true) ∧ Q w w' := by
  have HD := Lib.hid hd
  have HM := Lib.hid hd.max
  have HK := Lib.hid (keys_in hp)
  have G0 := Lib.hid (fun W (h : In_ pairK W A n c l) => refRight_any A n c l W h.lst HM.out HK.out)
  rw [hr] at G0
  obtain ⟨n1, n2, n3⟩ := empty_no he
  obtain ⟨m1, m2, m3⟩ := empty_no hh
  have e1 := lt_data mid lo
  rw [hl] at e1
  have e2 := lt_data hi mid
  rw [hm] at e2
  clear hr hd hp he hl hh hm
  go_enter Try.func8, Try.ntmps8
  go_wp2_with fail
  refine (tshown_any _).mono ?_
  rintro e w1 ⟨rfl, q1⟩
  have Q1 := Lib.hid (((Q.refl w).alloc _).trans q1)
  clear q1
  go_wp2_with fail
  refine (G0.out _ (HD.out.q Q1.out)).mono ?_
  rintro e w2 ⟨rfl, q2⟩
  have Q2 := Lib.hid (Q1.out.trans q2)
  clear q2
  go_wp2
  all_goals go_ret
  all_goals exact ⟨by first | rfl | simp, Q2.out⟩
set_option maxHeartbeats 4000000 in
theorem walk_one (A : Option Addr) (n c : Nat) (l : List Pr) (lo mid hi : ByteArray) (w : World) (hd : In_ pairK w A n c l) (hb : n * 32 ≤ 140737488351232) (hp : ∀ p ∈ l, PrIn p) (h0 : lo.size ≤ 140737488351232) (h1 : mid.size ≤ 140737488351232) (h2 : hi.size ≤ 140737488351232) (hr : right l = true) (he : ¬ mid = ⟨#[]⟩) (hl : lt mid lo = false) (hh : hi = ⟨#[]⟩) (hx : hi = ⟨#[]⟩ ∨ lt hi mid = false) :
    Calls Try.prog 8 #[.agg #[.slice A n c, .string lo, .string mid, .string hi]] w fun e w' => e = .returned (.bool true) ∧ Q w w' := by
  have HD := Lib.hid hd
  have HM := Lib.hid hd.max
  have HK := Lib.hid (keys_in hp)
  have G0 := Lib.hid (fun W (h : In_ pairK W A n c l) => refRight_any A n c l W h.lst HM.out HK.out)
  rw [hr] at G0
  have HL := Lib.hid hd.len
  have R1 := Lib.hid (fun W (h : In_ pairK W A n c l) => range_any lo mid (n : Int) A n c l W h (by omega))
  have R2 := Lib.hid (fun W (h : In_ pairK W A n c l) => range_any mid hi (n : Int) A n c l W h (by omega))
  have R3 := Lib.hid (fun W (h : In_ pairK W A n c l) => range_any lo hi (n : Int) A n c l W h (by omega))
  have L3 := Lib.hid (show (range l lo hi n).length ≤ n by
    unfold range; rw [List.length_take]; have := List.length_filter_le (fun p => btw lo hi p.key) l; have := HL.out; omega)
  have hE : range l lo mid n ++ range l mid hi n = range l lo hi n := by
    have := range_parts (l := l) (lo := lo) (mid := mid) (hi := hi) hr he hl hx
    rw [HL.out] at this; exact this
  have hEl : (range l lo mid n).length + (range l mid hi n).length = (range l lo hi n).length := by rw [← hE, List.length_append]
  generalize range l lo mid n = r1 at R1 hE hEl
  generalize range l mid hi n = r2 at R2 hE hEl
  generalize range l lo hi n = r3 at R3 L3 hE hEl
  have E := Lib.hid hE
  have EL := Lib.hid hEl
  have LM := Lib.hid (show r3.length ≤ maxLen from Nat.le_trans L3.out HM.out)
  obtain ⟨n1, n2, n3⟩ := empty_no he
  have e1 := lt_data mid lo
  rw [hl] at e1
  subst hh
  clear hr hd hp he hl hx hE hEl
  have b1 : (0 + r1.length) * 32 ≤ 140737488355328 := by have := EL.out; have := L3.out; omega
  have b2 : (r1.length + r2.length) * 32 ≤ 140737488355328 := by have := EL.out; have := L3.out; omega
  have b1 := Lib.hid b1
  have b2 := Lib.hid b2
  go_enter Try.func8, Try.ntmps8
  go_wp2_with fail
  refine (tshown_any _).mono ?_
  rintro e w1 ⟨rfl, q1⟩
  have Q1 := Lib.hid (((Q.refl w).alloc _).trans q1)
  clear q1
  go_wp2_with fail
  refine (G0.out _ (HD.out.q Q1.out)).mono ?_
  rintro e w2 ⟨rfl, q2⟩
  have Q2 := Lib.hid (Q1.out.trans q2)
  clear q2
  go_wp2_with fail
  refine (R1.out _ (HD.out.q Q2.out)).mono ?_
  rintro e w3 ⟨A3, c3, rfl, o3, q3⟩
  have Q3 := Lib.hid (Q2.out.trans q3)
  have O3 := Lib.hid o3
  have q3' := Lib.hid q3
  clear q3 o3
  go_wp2_with fail
  refine (R2.out _ (HD.out.q Q3.out)).mono ?_
  rintro e w4 ⟨A4, c4, rfl, o4, q4⟩
  have Q4 := Lib.hid (Q3.out.trans q4)
  have O4 := Lib.hid o4
  have q4' := Lib.hid q4
  clear q4 o4
  have S3 := Lib.hid (OwnK.src O3.out)
  have S4 := Lib.hid (OwnK.src O4.out)
  have T3 := Lib.hid (O3.out.lst.q q4'.out)
  go_upto_region 12 with (at_builtin
                          refine wpl_appK pairK rfl (.tmp 60) (.tmp 61) 22 rfl rfl w4.heap.size (some ⟨w4.heap.size, 0, none⟩) 0 0 [] rfl (OwnK.lit0 pairK w4 _ (Nat.le_refl _)) A3 r1.length c3 r1 rfl (T3.out.q ((Q.refl _).alloc _)) S3.out b1.out (by simp) ?_
                          intro A5 c5 w5 o5 b5)
  have q45 : Q w4 w5 := ((Q.refl w4).alloc _).below.trans b5
  have Q5 := Lib.hid (Q4.out.trans q45)
  have O5 := Lib.hid (show OwnK pairK w5 w4.heap.size A5 r1.length c5 r1 by simpa using o5)
  have T4 := Lib.hid (O4.out.lst.q q45)
  have hbs := Lib.hid (show w4.heap.size ≤ w5.heap.size from q45.size)
  clear o5 b5 q45
  go_upto_region 13 with (at_builtin
                          refine wpl_appK pairK rfl (.tmp 63) (.tmp 64) 22 rfl rfl w4.heap.size A5 r1.length c5 r1 (by first | rfl | simp [Act.eval]) O5.out A4 r2.length c4 r2 rfl T4.out S4.out b2.out hbs.out ?_
                          intro A6 c6 w6 o6 b6)
  have Q6 := Lib.hid (show Q w w6 from Q5.out.below.trans (b6.mono Q4.out.size))
  have O6 := Lib.hid (show Lst pairK w6 A6 (r1.length + r2.length) r3 by rw [← E.out]; exact o6.lst)
  clear o6 b6
  go_wp2_with fail
  refine (R3.out _ (HD.out.q Q6.out)).mono ?_
  rintro e w7 ⟨A7, c7, rfl, o7, q7⟩
  have Q7 := Lib.hid (Q6.out.trans q7)
  have O7 := Lib.hid o7
  have q7' := Lib.hid q7
  clear q7 o7
  go_wp2_with fail
  refine (refSame_any A6 A7 (r1.length + r2.length) c6 r3.length c7 r3 r3 _ (O6.out.q q7'.out) O7.out.lst (by rw [EL.out]; exact LM.out) LM.out).mono ?_
  rw [show decide (r3 = r3) = true from decide_eq_true rfl]
  rintro e w8 ⟨rfl, q8⟩
  have Q8 := Lib.hid (Q7.out.trans q8)
  clear q8
  go_wp2
  all_goals go_ret
  all_goals exact ⟨by first | rfl | simp, Q8.out⟩

set_option maxHeartbeats 4000000 in
theorem walk_two (A : Option Addr) (n c : Nat) (l : List Pr) (lo mid hi : ByteArray) (w : World) (hd : In_ pairK w A n c l) (hb : n * 32 ≤ 140737488351232) (hp : ∀ p ∈ l, PrIn p) (h0 : lo.size ≤ 140737488351232) (h1 : mid.size ≤ 140737488351232) (h2 : hi.size ≤ 140737488351232) (hr : right l = true) (he : ¬ mid = ⟨#[]⟩) (hl : lt mid lo = false) (hh : ¬ hi = ⟨#[]⟩) (hm : lt hi mid = false) (hx : hi = ⟨#[]⟩ ∨ lt hi mid = false) :
    Calls Try.prog 8 #[.agg #[.slice A n c, .string lo, .string mid, .string hi]] w fun e w' => e = .returned (.bool true) ∧ Q w w' := by
  have HD := Lib.hid hd
  have HM := Lib.hid hd.max
  have HK := Lib.hid (keys_in hp)
  have G0 := Lib.hid (fun W (h : In_ pairK W A n c l) => refRight_any A n c l W h.lst HM.out HK.out)
  rw [hr] at G0
  have HL := Lib.hid hd.len
  have R1 := Lib.hid (fun W (h : In_ pairK W A n c l) => range_any lo mid (n : Int) A n c l W h (by omega))
  have R2 := Lib.hid (fun W (h : In_ pairK W A n c l) => range_any mid hi (n : Int) A n c l W h (by omega))
  have R3 := Lib.hid (fun W (h : In_ pairK W A n c l) => range_any lo hi (n : Int) A n c l W h (by omega))
  have L3 := Lib.hid (show (range l lo hi n).length ≤ n by
    unfold range; rw [List.length_take]; have := List.length_filter_le (fun p => btw lo hi p.key) l; have := HL.out; omega)
  have hE : range l lo mid n ++ range l mid hi n = range l lo hi n := by
    have := range_parts (l := l) (lo := lo) (mid := mid) (hi := hi) hr he hl hx
    rw [HL.out] at this; exact this
  have hEl : (range l lo mid n).length + (range l mid hi n).length = (range l lo hi n).length := by rw [← hE, List.length_append]
  generalize range l lo mid n = r1 at R1 hE hEl
  generalize range l mid hi n = r2 at R2 hE hEl
  generalize range l lo hi n = r3 at R3 L3 hE hEl
  have E := Lib.hid hE
  have EL := Lib.hid hEl
  have LM := Lib.hid (show r3.length ≤ maxLen from Nat.le_trans L3.out HM.out)
  obtain ⟨n1, n2, n3⟩ := empty_no he
  have e1 := lt_data mid lo
  rw [hl] at e1
  obtain ⟨m1, m2, m3⟩ := empty_no hh
  have e2 := lt_data hi mid
  rw [hm] at e2
  have m4 : (hi.toList != []) = true := by simpa using m1
  clear hr hd hp he hl hh hm hx hE hEl
  have b1 : (0 + r1.length) * 32 ≤ 140737488355328 := by have := EL.out; have := L3.out; omega
  have b2 : (r1.length + r2.length) * 32 ≤ 140737488355328 := by have := EL.out; have := L3.out; omega
  have b1 := Lib.hid b1
  have b2 := Lib.hid b2
  go_enter Try.func8, Try.ntmps8
  go_wp2_with fail
  refine (tshown_any _).mono ?_
  rintro e w1 ⟨rfl, q1⟩
  have Q1 := Lib.hid (((Q.refl w).alloc _).trans q1)
  clear q1
  go_wp2_with fail
  refine (G0.out _ (HD.out.q Q1.out)).mono ?_
  rintro e w2 ⟨rfl, q2⟩
  have Q2 := Lib.hid (Q1.out.trans q2)
  clear q2
  go_wp2_with fail
  refine (R1.out _ (HD.out.q Q2.out)).mono ?_
  rintro e w3 ⟨A3, c3, rfl, o3, q3⟩
  have Q3 := Lib.hid (Q2.out.trans q3)
  have O3 := Lib.hid o3
  have q3' := Lib.hid q3
  clear q3 o3
  go_wp2_with fail
  refine (R2.out _ (HD.out.q Q3.out)).mono ?_
  rintro e w4 ⟨A4, c4, rfl, o4, q4⟩
  have Q4 := Lib.hid (Q3.out.trans q4)
  have O4 := Lib.hid o4
  have q4' := Lib.hid q4
  clear q4 o4
  have S3 := Lib.hid (OwnK.src O3.out)
  have S4 := Lib.hid (OwnK.src O4.out)
  have T3 := Lib.hid (O3.out.lst.q q4'.out)
  go_upto_region 12 with (at_builtin
                          refine wpl_appK pairK rfl (.tmp 60) (.tmp 61) 22 rfl rfl w4.heap.size (some ⟨w4.heap.size, 0, none⟩) 0 0 [] rfl (OwnK.lit0 pairK w4 _ (Nat.le_refl _)) A3 r1.length c3 r1 rfl (T3.out.q ((Q.refl _).alloc _)) S3.out b1.out (by simp) ?_
                          intro A5 c5 w5 o5 b5)
  have q45 : Q w4 w5 := ((Q.refl w4).alloc _).below.trans b5
  have Q5 := Lib.hid (Q4.out.trans q45)
  have O5 := Lib.hid (show OwnK pairK w5 w4.heap.size A5 r1.length c5 r1 by simpa using o5)
  have T4 := Lib.hid (O4.out.lst.q q45)
  have hbs := Lib.hid (show w4.heap.size ≤ w5.heap.size from q45.size)
  clear o5 b5 q45
  go_upto_region 13 with (at_builtin
                          refine wpl_appK pairK rfl (.tmp 63) (.tmp 64) 22 rfl rfl w4.heap.size A5 r1.length c5 r1 (by first | rfl | simp [Act.eval]) O5.out A4 r2.length c4 r2 rfl T4.out S4.out b2.out hbs.out ?_
                          intro A6 c6 w6 o6 b6)
  have Q6 := Lib.hid (show Q w w6 from Q5.out.below.trans (b6.mono Q4.out.size))
  have O6 := Lib.hid (show Lst pairK w6 A6 (r1.length + r2.length) r3 by rw [← E.out]; exact o6.lst)
  clear o6 b6
  go_wp2_with fail
  refine (R3.out _ (HD.out.q Q6.out)).mono ?_
  rintro e w7 ⟨A7, c7, rfl, o7, q7⟩
  have Q7 := Lib.hid (Q6.out.trans q7)
  have O7 := Lib.hid o7
  have q7' := Lib.hid q7
  clear q7 o7
  go_wp2_with fail
  refine (refSame_any A6 A7 (r1.length + r2.length) c6 r3.length c7 r3 r3 _ (O6.out.q q7'.out) O7.out.lst (by rw [EL.out]; exact LM.out) LM.out).mono ?_
  rw [show decide (r3 = r3) = true from decide_eq_true rfl]
  rintro e w8 ⟨rfl, q8⟩
  have Q8 := Lib.hid (Q7.out.trans q8)
  clear q8
  go_wp2
  all_goals go_ret
  all_goals exact ⟨by first | rfl | simp, Q8.out⟩

set_option maxHeartbeats 4000000 in
theorem walk (A : Option Addr) (n c : Nat) (l : List Pr) (lo mid hi : ByteArray) (w : World) (hd : In_ pairK w A n c l) (hb : n * 32 ≤ 140737488351232) (hp : ∀ p ∈ l, PrIn p) (h0 : lo.size ≤ 140737488351232) (h1 : mid.size ≤ 140737488351232) (h2 : hi.size ≤ 140737488351232) :
    Calls Try.prog 8 #[.agg #[.slice A n c, .string lo, .string mid, .string hi]] w fun e w' => e = .returned (.bool true) ∧ Q w w' := by
  have HD := Lib.hid hd
  have HM := Lib.hid hd.max
  have HK := Lib.hid (keys_in hp)
  have G0 := Lib.hid (fun W (h : In_ pairK W A n c l) => refRight_any A n c l W h.lst HM.out HK.out)
  cases hr : right l with
  | false => exact walk_no A n c l lo mid hi w hd hb hp h0 h1 h2 hr
  | true =>
    by_cases he : mid = ⟨#[]⟩
    · exact walk_empty A n c l lo mid hi w hd hb hp h0 h1 h2 hr he
    · cases hl : lt mid lo with
      | true => exact walk_low A n c l lo mid hi w hd hb hp h0 h1 h2 hr he hl
      | false =>
        by_cases hh : hi = ⟨#[]⟩
        · exact walk_one A n c l lo mid hi w hd hb hp h0 h1 h2 hr he hl hh (.inl hh)
        · cases hm : lt hi mid with
          | true => exact walk_high A n c l lo mid hi w hd hb hp h0 h1 h2 hr he hl hh hm
          | false => exact walk_two A n c l lo mid hi w hd hb hp h0 h1 h2 hr he hl hh hm (.inr hm)

theorem opened (W : World) (args : Array Value) (hn : args.size = 1) (h : ∀ (j : Nat) t v, Try.f8.params[j]? = some t → args[j]? = some v → RdV W t v) :
    Calls Try.prog 8 args W fun e W' => e = .returned (.bool true) ∧ Q W W' := by
  obtain ⟨v, rfl⟩ := args1 hn
  rw [Try.params8] at h
  obtain ⟨cs, rfl, hr⟩ := (h 0 50 v rfl rfl).struct Try.underlying50
  obtain ⟨hl, _⟩ := hr.struct Try.underlying50
  rw [show Try.prog.cellsOf 50 = 4 by kernel_rfl] at hl
  match cs, hl with
  | [x0, x1, x2, x3], _ =>
    obtain ⟨A0, n0, c0, l, e0, hd0, hb0, hp0⟩ := open_pairs (hr.field Try.underlying50 0 (ty := 22) 0 1 rfl (by kernel_rfl))
    obtain ⟨lo, e1, s1⟩ := (hr.field Try.underlying50 1 (ty := 9) 1 1 rfl (by kernel_rfl)).string Try.underlying9
    obtain ⟨mid, e2, s2⟩ := (hr.field Try.underlying50 2 (ty := 9) 2 1 rfl (by kernel_rfl)).string Try.underlying9
    obtain ⟨hi, e3, s3⟩ := (hr.field Try.underlying50 3 (ty := 9) 3 1 rfl (by kernel_rfl)).string Try.underlying9
    simp at e0 e1 e2 e3
    subst e0 e1 e2 e3
    exact walk A0 n0 c0 l lo mid hi W hd0 hb0 hp0 s1 s2 s3

set_option maxRecDepth 100000 in
theorem lifted (os : Os) (started : os.Started) (H : Type) (enc : TypeId × Value → H) :
    ReturnsInHanded {} Try.checked os 8 .any (Rows.tablePartsSpec.pre6 enc Try.prog Try.f8 Rows.tablePartsRow.domain false) (Rows.tablePartsSpec.post enc Try.prog Try.f8 false true false false) :=
  framed 1 Try.func8 (by rw [Try.params8]; rfl) rfl (by kernel_rfl) (by kernel_rfl) (by kernel_rfl)
    (fun H ds h => by match ds, h with | [d0], _ => exact ⟨rfl, rfl, rfl⟩)
    opened os started H enc
    (ChangeSpec.witness6 (enc := enc) (C := Try.checked) false ⟨#[], #[.agg #[.slice none 0 0, .string ByteArray.empty, .string ByteArray.empty, .string ByteArray.empty]], []⟩ 8 (by kernel_rfl) (by kernel_rfl) (by kernel_rfl) (by kernel_rfl))

theorem over : Rows.tablePartsRow.holds Try.pinned (OpenSpec.ofChange Rows.tablePartsSpec) :=
  OpenClaim.holds_of_wide 8 Try.f8 rfl rfl rfl rfl rfl rfl rfl ⟨rfl, rfl, rfl, rfl, rfl⟩ rfl rfl rfl rfl rfl (by kernel_rfl) Try.func8 (by kernel_rfl)
    (of_decide_eq_true (by kernel_rfl)) (by unfold Func.isWrapper; first | (rw [if_pos (by decide +kernel)]; kernel_rfl) | (rw [if_neg (by decide +kernel)]; exact ⟨rfl, rfl⟩))
    (fun os started H enc _ => lifted os started H enc)

theorem proved : Rows.TablePartsSaid := over
end Go.Proofs.Ytfgnlnolgjapnaa.tableParts
