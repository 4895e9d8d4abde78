/- Contracts: table.Apply, Put, Drop, Range, Right. -/
import Derived.Test.YtcclgepccahhbaaTable
namespace Go.Proofs.Ytcclgepccahhbaa
set_option maxRecDepth 100000
open Go.RowKit Prm
set_option linter.unusedVariables false
set_option linter.unusedSimpArgs false

theorem deed_act_put (x : Wr) (w : World) (h : x.del = false) :
    Calls Try.prog 41 #[.agg #[.string x.key, .string x.val, .bool x.del]] w fun e w' => e = .returned (.func (.func 47) #[x.v] #[]) ∧ Q w w' := by
  have := deed_act x w
  rw [h] at this
  exact this
theorem deed_act_drop (x : Wr) (w : World) (h : x.del = true) :
    Calls Try.prog 41 #[.agg #[.string x.key, .string x.val, .bool x.del]] w fun e w' => e = .returned (.func (.func 46) #[x.v] #[]) ∧ Q w w' := by
  have := deed_act x w
  rw [h] at this
  exact this

/-- what Apply has behind k writes. -/
def ApS (w : World) (l : List Pr) (ws : List Wr) (k : Nat) (v : Value) (wr : World) : Prop :=
  ∃ A1 c1, v = .slice A1 (apply l (ws.take k)).length c1 ∧ OwnK pairK wr w.heap.size A1 (apply l (ws.take k)).length c1 (apply l (ws.take k)) ∧ Q w wr

set_option maxHeartbeats 4000000 in
theorem apply_any (A A2 : Option Addr) (n c m c2 : Nat) (l : List Pr) (ws : List Wr) (w : World) (hd : In_ pairK w A n c l) (hw : Lst writeK w A2 m ws) (hb : (n + m) * 32 ≤ 140737488355328) :
    Calls Try.prog 32 #[.slice A n c, .slice A2 m c2] w fun e w' => RetL pairK w (apply l ws).length (apply l ws) e w' := by
  have HD := Lib.hid hd
  have HW := Lib.hid hw
  have HL := Lib.hid hd.len
  have HWL := Lib.hid hw.len
  clear hd hw
  go_enter Try.func32, Try.ntmps32
  go_wp2_with fail
  refine (clonePairs A n c l _ HD.out).mono ?_
  rintro e w1 ⟨A1, c1, rfl, o1, q1⟩
  have S0 := Lib.hid (show ApS w l ws 0 (.slice A1 n c1) w1 from ⟨A1, c1, by rw [← HL.out]; rfl, by rw [show (apply l (ws.take 0)).length = n from HL.out]; exact o1, q1⟩)
  clear o1 q1
  go_wp2
  go_loopw [0, 12] (fun v i wr => ∃ k : Nat, k ≤ m ∧ i = .int .i64 k ∧ ApS w l ws k v wr) (fun _ i _ => m - (intOf i).toNat)
  case atStart => exact ⟨0, Nat.zero_le _, rfl, S0.out⟩
  case round =>
    obtain ⟨k, hk, rfl, A3, c3, rfl, o3, q3⟩ := hrel
    have O3 := Lib.hid o3
    have Q3 := Lib.hid q3
    clear o3 q3
    by_cases hlt : k < m
    · have hkl : k < ws.length := by have := HWL.out; omega
      have hln : (apply l (ws.take k)).length ≤ n + k := by
        have h1 := apply_len l (ws.take k)
        have h2 := HL.out
        have h3 := List.length_take_le k ws
        omega
      have hsn := apply_snoc l ws hkl
      obtain ⟨ad, rfl, hab, x0, x1, x2⟩ := load_write (HW.out.q Q3.out) hlt hkl
      have HS := Lib.hid hsn
      have HN := Lib.hid (show ((apply l (ws.take k)).length + 1) * 32 ≤ 140737488355328 by omega)
      clear hsn hln
      have hkm : (k : Int) < (m : Int) := by omega
      by_cases hdl : ws[k].del = true
      · have hE := Lib.hid (show apply l (ws.take (k + 1)) = drop (apply l (ws.take k)) ws[k].key by rw [HS.out, act_drop hdl])
        have HDl := Lib.hid hdl
        clear hdl
        generalize ws[k] = x at x0 x1 x2 hE HDl
        go_wp2_with fail
        refine (deed_act_drop x _ HDl.out).mono ?_
        rintro e w4 ⟨rfl, q4⟩
        have Q4 := Lib.hid ((Q.refl wr).alloc (.cells #[.string x.key, .string x.val, .bool x.del] 24) |>.trans q4)
        clear q4
        go_wp2_with fail
        refine (deed_drop x w.heap.size A3 _ c3 _ _ (O3.out.q Q4.out) (Q3.out.trans Q4.out).size).mono ?_
        rintro e w5 ⟨A5, c5, rfl, o5, b5⟩
        have S5 := Lib.hid (show ApS w l ws (k + 1) (.slice A5 (drop (apply l (ws.take k)) x.key).length c5) w5 from ⟨A5, c5, by rw [hE.out], by rw [hE.out]; exact o5, (Q3.out.trans Q4.out).below.trans b5⟩)
        clear o5 b5
        go_wp2
        go_roundw
        case rel => exact ⟨k + 1, by omega, by go_num, S5.out⟩
        case measure => simp [intOf]; omega
      · have hdf : ws[k].del = false := by simpa using hdl
        have hE := Lib.hid (show apply l (ws.take (k + 1)) = put (apply l (ws.take k)) ⟨ws[k].key, ws[k].val⟩ by rw [HS.out, act_put hdf])
        have HDl := Lib.hid hdf
        clear hdl hdf
        generalize ws[k] = x at x0 x1 x2 hE HDl
        go_wp2_with fail
        refine (deed_act_put x _ HDl.out).mono ?_
        rintro e w4 ⟨rfl, q4⟩
        have Q4 := Lib.hid ((Q.refl wr).alloc (.cells #[.string x.key, .string x.val, .bool x.del] 24) |>.trans q4)
        clear q4
        go_wp2_with fail
        refine (deed_put x w.heap.size A3 _ c3 _ _ (O3.out.q Q4.out) HN.out (Q3.out.trans Q4.out).size).mono ?_
        rintro e w5 ⟨A5, c5, rfl, o5, b5⟩
        have S5 := Lib.hid (show ApS w l ws (k + 1) (.slice A5 (put (apply l (ws.take k)) ⟨x.key, x.val⟩).length c5) w5 from ⟨A5, c5, by rw [hE.out], by rw [hE.out]; exact o5, (Q3.out.trans Q4.out).below.trans b5⟩)
        clear o5 b5
        go_wp2
        go_roundw
        case rel => exact ⟨k + 1, by omega, by go_num, S5.out⟩
        case measure => simp [intOf]; omega
    · have hkm : k = m := by omega
      have HE := Lib.hid (show ws.take k = ws by rw [List.take_of_length_le (by rw [HWL.out]; omega)])
      clear hkm
      go_wp2
      go_ret
      exact ⟨A3, c3, by rw [HE.out]; rfl, by have := O3.out; rw [HE.out] at this; exact this, Q3.out⟩

end Go.Proofs.Ytcclgepccahhbaa
