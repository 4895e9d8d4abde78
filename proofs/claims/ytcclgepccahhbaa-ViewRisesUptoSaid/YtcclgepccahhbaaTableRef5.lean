/- Contracts: the document's answer for pairs: Put, Apply. -/
import Derived.Test.YtcclgepccahhbaaTableRef4
import Derived.StillTailTactics
namespace Go.Proofs.Ytcclgepccahhbaa
set_option maxRecDepth 100000
open Go.RowKit Prm
set_option linter.unusedVariables false
set_option linter.unusedSimpArgs false

theorem trefPut_any (key val : ByteArray) (A : Option Addr) (n c : Nat) (l : List Pr) (w : World) (hf : Lst pairK w A n l) (hb : (n + 1) * 32 ≤ 140737488355328) (hks : KeysIn l) (hky : key.size ≤ maxLen) :
    Calls Try.prog 43 #[.slice A n c, .string key, .string val] w fun e w' => RetL pairK w (put l ⟨key, val⟩).length (put l ⟨key, val⟩) e w' := by
  have hl := hf.len
  rcases idx_cases (hasK key) l 0 with ⟨hp, hall⟩ | ⟨k, hk, hp, hkn, hfirst⟩
  · have hx : ∃ i, ∃ hi : i ≤ l.length, (∀ h : i < l.length, aboveK key l[i] = true) ∧ ∀ j, ∀ hj : j < l.length, j < i → aboveK key l[j] = false := by
      rcases idx_cases (aboveK key) l 0 with ⟨_, halla⟩ | ⟨i, hi, _, hia, hfa⟩
      · exact ⟨l.length, Nat.le_refl _, fun h => absurd h (Nat.lt_irrefl _), fun j hj _ => halla _ (List.getElem_mem hj)⟩
      · exact ⟨i, Nat.le_of_lt hi, fun _ => hia, hfa⟩
    obtain ⟨i, hi, hia, hfa⟩ := hx
    have e : put l (⟨key, val⟩ : Pr) = insAt l i ⟨key, val⟩ := by rw [put_new (p := ⟨key, val⟩) hall]; exact ins_at (p := ⟨key, val⟩) hi hia hfa
    have e2 : (put l (⟨key, val⟩ : Pr)).length = n + 1 := by rw [e, insAt_len hi, hl]
    simp only [e2]
    rw [e]
    exact refPut_new key val A n c l w hf hb hks hky hall i hi hia hfa
  · have e : put l (⟨key, val⟩ : Pr) = l.set k ⟨key, val⟩ := put_has (p := ⟨key, val⟩) hk hkn hfirst
    have e2 : (put l (⟨key, val⟩ : Pr)).length = n := by rw [e, List.length_set, hl]
    simp only [e2]
    rw [e]
    exact refPut_has key val A n c l w hf hb k hk hkn hfirst

def WKeysIn (l : List Wr) : Prop := ∀ p ∈ l, p.key.size ≤ maxLen
theorem put_keys {l : List Pr} {p : Pr} (h : KeysIn l) (hp : p.key.size ≤ maxLen) : KeysIn (put l p) := by
  intro q hq
  have hi : ∀ (l : List Pr), KeysIn l → q ∈ ins p l → q.key.size ≤ maxLen := by
    intro l
    induction l with
    | nil => intro _ hq; simp [ins] at hq; subst hq; exact hp
    | cons a l ih =>
      intro h hq
      simp only [ins] at hq
      split at hq
      · rcases List.mem_cons.1 hq with rfl | hq
        · exact hp
        · exact h q hq
      · rcases List.mem_cons.1 hq with rfl | hq
        · exact h _ (by simp)
        · exact ih (fun x hx => h x (by simp [hx])) hq
  have hs : ∀ (l : List Pr), KeysIn l → q ∈ setF p l → q.key.size ≤ maxLen := by
    intro l
    induction l with
    | nil => intro _ hq; simp [setF] at hq
    | cons a l ih =>
      intro h hq
      simp only [setF] at hq
      split at hq
      · rcases List.mem_cons.1 hq with rfl | hq
        · exact hp
        · exact h q (by simp [hq])
      · rcases List.mem_cons.1 hq with rfl | hq
        · exact h _ (by simp)
        · exact ih (fun x hx => h x (by simp [hx])) hq
  unfold put at hq
  split at hq
  · exact hs l h hq
  · exact hi l h hq
theorem drop_keys {l : List Pr} {k : ByteArray} (h : KeysIn l) : KeysIn (drop l k) := fun q hq => h q (List.mem_filter.1 hq).1
theorem act_keys {l : List Pr} {x : Wr} (h : KeysIn l) (hx : x.key.size ≤ maxLen) : KeysIn (act l x) := by
  unfold act; split
  · exact drop_keys h
  · exact put_keys h hx
theorem apply_keys {ws : List Wr} : ∀ {l : List Pr}, KeysIn l → WKeysIn ws → KeysIn (apply l ws) := by
  induction ws with
  | nil => intro l h _; exact h
  | cons x ws ih => intro l h hw; exact ih (l := act l x) (act_keys h (hw x (by simp))) (fun y hy => hw y (by simp [hy]))

set_option maxHeartbeats 4000000 in
theorem refApply_any (A A2 : Option Addr) (n c m c2 : Nat) (l : List Pr) (ws : List Wr) (w : World) (hd : In_ pairK w A n c l) (hw : Lst writeK w A2 m ws) (hb : (n + m) * 32 ≤ 140737488355328) (hks : KeysIn l) (hwk : WKeysIn ws) :
    Calls Try.prog 33 #[.slice A n c, .slice A2 m c2] w fun e w' => RetL pairK w (apply l ws).length (apply l ws) e w' := by
  have HD := Lib.hid hd
  have HW := Lib.hid hw
  have HL := Lib.hid hd.len
  have HWL := Lib.hid hw.len
  have HKs := Lib.hid hks
  have HWk := Lib.hid hwk
  have HNil := Lib.hid hd.nil
  clear hd hw hks hwk
  go_enter Try.func33, Try.ntmps33
  go_wp2_with (at_builtin
               refine wpl_appK pairK rfl (.tmp 7) (.tmp 8) 31 rfl rfl w.heap.size (some ⟨w.heap.size, 0, none⟩) 0 0 [] rfl (OwnK.lit0 pairK w _ (Nat.le_refl _)) A n c l rfl (HD.out.lst.q ((Q.refl _).alloc _)) HNil.out (by have := HD.out.few; simpa using this) (by simp) ?_
               intro A1 c1 w1 o1 b1
               have S0 := Lib.hid (show ApS w l ws 0 (.slice A1 n c1) w1 from ⟨A1, c1, by rw [← HL.out]; rfl, by rw [show (apply l (ws.take 0)).length = n from HL.out]; show OwnK pairK w1 w.heap.size A1 n c1 l; simpa using o1, ((Q.refl w).alloc _).below.trans b1⟩)
               clear o1 b1)
  go_loopw [5, 6] (fun v i wr => ∃ k : Nat, k ≤ m ∧ i = .int .i64 k ∧ ApS w l ws k v wr) (fun _ i _ => m - (intOf i).toNat)
  case atStart => exact ⟨0, Nat.zero_le _, rfl, by first | exact S0.out | (rw [Nat.zero_add]; exact S0.out)⟩
  case round =>
    obtain ⟨k, hk, rfl, A3, c3, rfl, o3, q3⟩ := hrel
    have O3 := Lib.hid o3
    have Q3 := Lib.hid q3
    clear o3 q3
    by_cases hlt : k < m
    · have hkl : k < ws.length := by have := HWL.out; omega
      have hln : (apply l (ws.take k)).length ≤ n + k := by
        have h1 := apply_len l (ws.take k)
        have h2 := HL.out
        have h3 := List.length_take_le k ws
        omega
      have hsn := apply_snoc l ws hkl
      obtain ⟨ad, rfl, hab, x0, x1, x2⟩ := load_write (HW.out.q Q3.out) hlt hkl
      have HS := Lib.hid hsn
      have HN := Lib.hid (show ((apply l (ws.take k)).length + 1) * 32 ≤ 140737488355328 by omega)
      have HN0 := Lib.hid (show (apply l (ws.take k)).length * 32 ≤ 140737488355328 by omega)
      have HAk := Lib.hid (show KeysIn (apply l (ws.take k)) from apply_keys HKs.out fun x hx => HWk.out x (List.mem_of_mem_take hx))
      have HXk := Lib.hid (show ws[k].key.size ≤ maxLen from HWk.out _ (List.getElem_mem hkl))
      clear hsn hln
      have hkm : (k : Int) < (m : Int) := by omega
      by_cases hdl : ws[k].del = true
      · have hE := Lib.hid (show apply l (ws.take (k + 1)) = drop (apply l (ws.take k)) ws[k].key by rw [HS.out, act_drop hdl])
        generalize ws[k] = x at x0 x1 x2 hE hdl HXk
        rw [hdl] at x2
        clear hdl
        go_wp2_with fail
        refine (refDrop_any x.key A3 _ c3 _ _ (O3.out.lst) HN0.out).mono ?_
        rintro e w5 ⟨A5, c5, rfl, o5, q5⟩
        have S5 := Lib.hid (show ApS w l ws (k + 1) (.slice A5 (drop (apply l (ws.take k)) x.key).length c5) w5 from ⟨A5, c5, by rw [hE.out], by rw [hE.out]; exact o5.lower Q3.out.size, Q3.out.trans q5⟩)
        clear o5 q5
        go_wp2
        go_roundw
        case rel => exact ⟨k + 1, by omega, by go_num, S5.out⟩
        case measure => simp [intOf]; omega
      · have hdf : ws[k].del = false := by simpa using hdl
        have hE := Lib.hid (show apply l (ws.take (k + 1)) = put (apply l (ws.take k)) ⟨ws[k].key, ws[k].val⟩ by rw [HS.out, act_put hdf])
        generalize ws[k] = x at x0 x1 x2 hE hdf HXk
        rw [hdf] at x2
        clear hdl hdf
        go_wp2
        go_still_tail 11, (by kernel_rfl)
        have Q4 := Lib.hid ((Q.refl wr).drew)
        change wpList _ _ _ _ _ wr.drew
        generalize wr.drew = w4 at Q4 ⊢
        go_wp2_with fail
        refine (trefPut_any x.key x.val A3 _ c3 _ _ (O3.out.lst.q Q4.out) HN.out HAk.out HXk.out).mono ?_
        rintro e w5 ⟨A5, c5, rfl, o5, q5⟩
        have S5 := Lib.hid (show ApS w l ws (k + 1) (.slice A5 (put (apply l (ws.take k)) ⟨x.key, x.val⟩).length c5) w5 from ⟨A5, c5, by rw [hE.out], by rw [hE.out]; exact o5.lower (Q3.out.trans Q4.out).size, (Q3.out.trans Q4.out).trans q5⟩)
        clear o5 q5
        go_wp2
        go_roundw
        case rel => exact ⟨k + 1, by omega, by go_num, S5.out⟩
        case measure => simp [intOf]; omega
    · have hkm : k = m := by omega
      have HE := Lib.hid (show ws.take k = ws by rw [List.take_of_length_le (by rw [HWL.out]; omega)])
      clear hkm
      go_wp2
      go_ret
      exact ⟨A3, c3, by rw [HE.out]; rfl, by have := O3.out; rw [HE.out] at this; exact this, Q3.out⟩
end Go.Proofs.Ytcclgepccahhbaa
