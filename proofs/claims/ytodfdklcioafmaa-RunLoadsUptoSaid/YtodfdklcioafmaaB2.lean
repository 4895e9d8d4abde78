/- Bytes, DecMath, DecNum, SumShown, DecTakeMath, DecTake, DecTakeNum, SumOpen, WalMath, OwnRows, Boxes, DiskSync: merged. -/
import Derived.Test.YtodfdklcioafmaaB1
import Derived.Laws.IdiomStrings
import Derived.Laws.OwnMore
import Derived.Laws.Rows
import Derived.Laws.IdiomCopy
import Derived.OwnWalk
import Derived.Deep.Upon
import Derived.Lib.LazyBuf
/- Strings and bytes in memory. -/
namespace Go.Proofs.Ytodfdklcioafmaa
set_option maxRecDepth 100000
open Go.RowKit
set_option linter.unusedVariables false

theorem Blk.cell_new (w : World) (cs : Array Value) (t : TypeId) (i : Nat) : (w.alloc (.cells cs t)).cell? ⟨w.heap.size, i, none⟩ = cs[i]? :=
  cell_of_row (w.alloc (.cells cs t)) w.heap.size i cs t (0, 0) (heap_alloc_new w _)

theorem conv_row (W : World) (b o n cap : Nat) (l : List UInt8) (hn : l.length = n) (hc : ∀ k (h : k < l.length), W.cell? ⟨b, o + k, none⟩ = some (.int .u8 (l[k].toNat : Int))) :
    (convert 77 9 (.slice (some ⟨b, o, none⟩) n cap)).run Try.prog W = .ok (.string ⟨l.toArray⟩) W := by
  subst hn
  refine run_convert_bytes_back W 77 9 5 ⟨b, o, none⟩ cap l Try.underlying77 Try.underlying5 Try.underlying9 (fun j hj => ?_)
  have e : (⟨b, o, none⟩ : Addr).add j = ⟨b, o + j, none⟩ := by
    unfold Addr.add
    by_cases hz : j = 0
    · subst hz; rfl
    · rw [if_neg hz]
  rw [e]; exact hc j hj

theorem app_list (l : List UInt8) (s : ByteArray) : (⟨l.toArray⟩ : ByteArray) ++ s = ⟨(l ++ s.data.toList).toArray⟩ := by
  apply ByteArray.ext
  rw [ByteArray.data_append]
  simp
theorem app_lists (l m : List UInt8) : (⟨l.toArray⟩ : ByteArray) ++ ⟨m.toArray⟩ = ⟨(l ++ m).toArray⟩ := by rw [app_list]
theorem ret_str {a b : ByteArray} (h : a = b) : Ending.returned (.string a) = .returned (.string b) := by rw [h]
theorem str_eq {a b : ByteArray} (h : a = b) : Value.string a = .string b := by rw [h]

theorem size_list (s : ByteArray) : s.data.toList.length = s.size := by simp

/-- '[]byte(s)': a new row that holds the bytes, and may be written. -/
theorem to_bytes (W : World) (s : ByteArray) : ∃ cap W2, (convert 9 77 (.string s)).run Try.prog W = .ok (.slice (some ⟨W.heap.size, 0, none⟩) s.size cap) W2 ∧ Q W W2 ∧ W2.heap.size = W.heap.size + 1 ∧
    (∀ i (h : i < s.size), W2.cell? ⟨W.heap.size, i, none⟩ = some (.int .u8 (s[i].toNat : Int))) ∧ (∀ i, i < s.size → W2.frozen? ⟨W.heap.size, i, none⟩ = false) := by
  refine ⟨_, _, run_bytes_of_string W 9 77 5 s Try.underlying9 Try.underlying77 Try.underlying5, (Q.refl W).drew.alloc _, ?_, ?_, ?_⟩
  · show (W.heap.push _).size = _
    simp
  · intro i h
    have e := World.cell?_alloc_mark W.drew (bytesRow s (grownCap W s.size 0 5)) 5 ((bytesRow s (grownCap W s.size 0 5)).size, (bytesRow s (grownCap W s.size 0 5)).size + 1) i
    refine e.trans ?_
    unfold bytesRow
    have h1 : i < (s.data.map (fun b => Value.int .u8 b.toNat)).size := by simpa using h
    rw [Array.getElem?_append_left h1]
    simp only [Array.getElem?_map]
    have h2 : s.data[i]? = some s[i] := Array.getElem?_eq_getElem (by simpa using h)
    rw [h2]; rfl
  · intro i h
    have e := World.frozen?_alloc_mark W.drew (bytesRow s (grownCap W s.size 0 5)) 5 (bytesRow s (grownCap W s.size 0 5)).size ((bytesRow s (grownCap W s.size 0 5)).size + 1) i
    refine e.trans ?_
    have h1 : i < (bytesRow s (grownCap W s.size 0 5)).size := by
      unfold bytesRow; simp; omega
    have h2 : decide ((bytesRow s (grownCap W s.size 0 5)).size ≤ i) = false := by simp; omega
    rw [h2]; rfl

/-- a row with one byte written holds the list with it. -/
theorem cells_set (W : World) (g : Nat) (l : List UInt8) (k : Nat) (c : UInt8) (a : Int) (ha : (c.toNat : Int) = a) (hk : k < l.length)
    (hc : ∀ i (h : i < l.length), W.cell? ⟨g, i, none⟩ = some (.int .u8 (l[i].toNat : Int))) :
    ∀ i (h : i < (l.set k c).length), (W.setCell ⟨g, k, none⟩ (.int .u8 a)).cell? ⟨g, i, none⟩ = some (.int .u8 ((l.set k c)[i].toNat : Int)) := by
  intro i h
  by_cases e : k = i
  · subst e
    rw [World.cell?_setCell_same _ _ _ (hc k hk)]
    simp [← ha]
  · rw [World.cell?_setCell_other _ _ _ _ (by intro he; injection he with _ he; exact e he)]
    rw [hc i (by simpa using h)]
    simp [e]
end Go.Proofs.Ytodfdklcioafmaa

/- Plain mathematics of package dec: numbers and texts as bytes. Nothing of the program. -/
namespace Go.Proofs.Ytodfdklcioafmaa.Dm
set_option maxRecDepth 100000

def digit (n : Nat) : UInt8 := UInt8.ofNat (48 + n)
def dg (v : Nat) : List UInt8 := if v < 10 then [digit v] else dg (v / 10) ++ [digit (v % 10)]
def dgz (v : Nat) : List UInt8 := if v = 0 then [] else dg v
/-- a number's bytes. -/
def num (v : Nat) : List UInt8 := dg v ++ [59]

theorem digit_toNat (n : Nat) (h : n < 10) : (digit n).toNat = 48 + n := by
  unfold digit; simp only [UInt8.toNat_ofNat']; omega
theorem dg_split (v : Nat) : dg v = dgz (v / 10) ++ [digit (v % 10)] := by
  rw [dg]
  by_cases h : v < 10
  · rw [if_pos h]; unfold dgz; rw [if_pos (by omega)]
    rw [show v % 10 = v from by omega]; rfl
  · rw [if_neg h]; unfold dgz; rw [if_neg (by omega)]
theorem dgz_pos (v : Nat) (h : v ≠ 0) : dgz v = dg v := by unfold dgz; rw [if_neg h]
theorem dgz_zero : dgz 0 = [] := rfl
theorem dg_ne (v : Nat) : dg v ≠ [] := by rw [dg_split]; simp
theorem dg_pos (v : Nat) : 1 ≤ (dg v).length := by rw [dg_split]; simp

def isD (c : UInt8) : Bool := 48 ≤ c.toNat && c.toNat ≤ 57
def dv (c : UInt8) : Nat := c.toNat - 48
/-- what figures tell. -/
def val (l : List UInt8) : Nat := l.foldl (fun v c => 10 * v + dv c) 0

theorem val_snoc (l : List UInt8) (c : UInt8) : val (l ++ [c]) = 10 * val l + dv c := by simp [val]
theorem dv_digit (n : Nat) (h : n < 10) : dv (digit n) = n := by unfold dv; rw [digit_toNat n h]; omega
theorem isD_digit (n : Nat) (h : n < 10) : isD (digit n) = true := by unfold isD; rw [digit_toNat n h]; simp; omega
theorem isD_iff (c : UInt8) : isD c = true ↔ 48 ≤ c.toNat ∧ c.toNat ≤ 57 := by simp [isD]

theorem val_dg (v : Nat) : val (dg v) = v := by
  induction v using Nat.strongRecOn with
  | _ v ih =>
    rw [dg]
    by_cases h : v < 10
    · rw [if_pos h]; simp [val, dv_digit v h]
    · rw [if_neg h, val_snoc, ih (v / 10) (by omega), dv_digit _ (by omega)]; omega
theorem all_dg (v : Nat) : ∀ c ∈ dg v, isD c = true := by
  induction v using Nat.strongRecOn with
  | _ v ih =>
    rw [dg]
    by_cases h : v < 10
    · rw [if_pos h]; intro c hc; simp at hc; subst hc; exact isD_digit v h
    · rw [if_neg h]; intro c hc
      rcases List.mem_append.1 hc with hc | hc
      · exact ih (v / 10) (by omega) c hc
      · simp at hc; subst hc; exact isD_digit _ (by omega)
/-- no leading nought but of 0 itself. -/
theorem head_dg (v : Nat) (h : 10 ≤ v) : ∀ c r, dg v = c :: r → c.toNat ≠ 48 := by
  induction v using Nat.strongRecOn with
  | _ v ih =>
    intro c r e
    rw [dg, if_neg (by omega)] at e
    by_cases h2 : v / 10 < 10
    · rw [dg, if_pos h2] at e
      simp at e
      rw [← e.1, digit_toNat _ h2]; omega
    · obtain ⟨c', r', e'⟩ : ∃ c' r', dg (v / 10) = c' :: r' := by
        cases hd : dg (v / 10) with
        | nil => exact absurd hd (dg_ne _)
        | cons a b => exact ⟨a, b, rfl⟩
      rw [e'] at e
      simp at e
      rw [← e.1]
      exact ih (v / 10) (by omega) (by omega) c' r' e'

theorem dg_length_lt (j : Nat) : ∀ v, v < 10 ^ j → 1 ≤ j → (dg v).length ≤ j := by
  induction j with
  | zero => intro v h h1; omega
  | succ j ih =>
    intro v h _
    rw [dg]
    by_cases h2 : v < 10
    · rw [if_pos h2]; simp
    · rw [if_neg h2]
      rw [Nat.pow_succ] at h
      have hj : 1 ≤ j := by
        rcases Nat.eq_zero_or_pos j with e | e
        · subst e; simp at h; omega
        · exact e
      have := ih (v / 10) (by omega) hj
      simp; omega
theorem num_length (v : Nat) (h : v < 18446744073709551616) : (num v).length ≤ 21 := by
  have := dg_length_lt 20 v (by omega) (by omega)
  unfold num; simp; omega
end Go.Proofs.Ytodfdklcioafmaa.Dm

/- Contracts of package dec's Num and of the document's own. -/
namespace Go.Proofs.Ytodfdklcioafmaa
set_option maxRecDepth 100000
open Go.RowKit
set_option linter.unusedVariables false

theorem slice21 (W : World) (b j : Nat) (h0 : 1 ≤ j) (h1 : j ≤ 20) :
    (Instr.sliceAt 120 (.pointer (some ⟨b, 0, none⟩)) (some (.int .i64 ((j : Int) - 1))) none none).run Try.prog W = .ok (.slice (some ⟨b, j - 1, none⟩) (22 - j) (22 - j)) W := by
  have hl : Try.prog.arrayLen 120 = 21 := by kernel_rfl
  have he : Try.prog.elem 120 = 5 := by kernel_rfl
  have hs : (sizeOf 5).run Try.prog W = .ok 1 W := by kernel_rfl
  rw [run_sliceAt_array_l W 120 _ (by rw [hl, he]; exact Try.underlying120) .i64 _ (by omega) (by rw [hl]; omega), he, hs, hl]
  have e : ((j : Int) - 1).toNat = j - 1 := by omega
  simp only [Result.andThen, slicedAt, e]
  rw [if_neg (by omega), show 21 - (j - 1) = 22 - j from by omega]
  unfold Addr.add
  by_cases hz : (j - 1) * 1 = 0
  · rw [if_pos hz, show j - 1 = 0 from by omega]
  · rw [if_neg hz]; simp

/-- the row behind a store of one figure more. -/
theorem row_more (cs : Array Value) (j m : Nat) (t : List UInt8) (h1 : 1 ≤ j) (h2 : j ≤ 20) (h3 : cs.size = 21) (h4 : t.length = 21 - j)
    (h8 : ∀ k (h : k < t.length), cs[j + k]? = some (.int .u8 (t[k].toNat : Int))) :
    ∀ k (h : k < (Dm.digit (m % 10) :: t).length), (cs.setIfInBounds (j - 1) (.int .u8 (48 + (m : Int) % 10)))[j - 1 + k]? = some (.int .u8 ((Dm.digit (m % 10) :: t)[k].toNat : Int)) := by
  intro k h
  cases k with
  | zero =>
    have e : ((Dm.digit (m % 10)).toNat : Int) = 48 + (m : Int) % 10 := by rw [Dm.digit_toNat _ (by omega)]; omega
    simp only [Nat.add_zero, List.getElem_cons_zero, e]
    rw [Array.getElem?_setIfInBounds_self_of_lt (by omega)]
  | succ k =>
    simp only [List.getElem_cons_succ]
    rw [Array.getElem?_setIfInBounds_ne (by omega), ← h8 k (by simpa using h)]
    congr 1; omega

set_option maxHeartbeats 400000 in
theorem num_nat (v : Nat) (w : World) (h0 : v < 18446744073709551616) :
    Calls Try.prog 48 #[.int .u64 v] w fun e w' => e = .returned (.string ⟨(Dm.num v).toArray⟩) ∧ Q w w' := by
  go_enter Try.func48, Try.ntmps48
  go_wp2
  go_loopw [0, 4] (fun u i wr => ∃ (m j : Nat) (t : List UInt8) (cs : Array Value), u = .int .u64 m ∧ i = .int .i64 j ∧ w.alloc (.cells cs 120) = wr ∧ 1 ≤ j ∧ j ≤ 20 ∧ cs.size = 21 ∧ t.length = 21 - j ∧ m < 10 ^ j ∧ m < 18446744073709551616 ∧ Dm.num v = Dm.dg m ++ t ∧ ∀ k (h : k < t.length), cs[j + k]? = some (.int .u8 (t[k].toNat : Int))) (fun u _ _ => (intOf u).toNat)
  case atStart => exact ⟨v, 20, [59], _, rfl, rfl, rfl, by omega, by omega, rfl, rfl, by omega, h0, rfl, by intro k h; simp at h; subst h; rfl⟩
  case round =>
    obtain ⟨m, j, t, cs, rfl, rfl, rfl, h1, h2, h3, h4, h5, h6, h7, h8⟩ := hrel
    have hr := row_more cs j m t h1 h2 h3 h4 h8
    obtain ⟨x, hx⟩ : ∃ x, cs[j - 1]? = some x := ⟨_, Array.getElem?_eq_getElem (by omega)⟩
    have hsl := fun W : World => slice21 W w.heap.size j h1 h2
    have hsp := Dm.dg_split m
    have H3 := Lib.hid h3
    have H4 := Lib.hid h4
    have H5 := Lib.hid h5
    have H7 := Lib.hid h7
    have HR := Lib.hid hr
    have HS := Lib.hid hsp
    clear h3 h4 h5 h7 h8 hr hsp
    by_cases hz : m / 10 = 0
    · have hb : ((m : Int) / 10 == 0) = true := by simp; omega
      have hcv := conv_row (w.alloc (.cells (cs.setIfInBounds (j - 1) (.int .u8 (48 + (m : Int) % 10))) 120)) w.heap.size (j - 1) (22 - j) (22 - j) (Dm.digit (m % 10) :: t) (by simp [H4.out]; omega) (by
        intro k h
        rw [← HR.out k h]
        exact Blk.cell_new _ _ _ _)
      have hfin : Dm.num v = Dm.digit (m % 10) :: t := by rw [H7.out, HS.out, hz]; simp [Dm.dgz_zero]
      rw [← hfin] at hcv
      have HF := Lib.hid hfin
      have HZ := Lib.hid hz
      clear hfin hz
      go_wp2
      go_ret
      exact ⟨rfl, (Q.refl _).alloc _⟩
    · have hb : ((m : Int) / 10 == 0) = false := by simp; omega
      have HZ := Lib.hid hz
      clear hz
      go_wp2
      have h5 := H5.out
      have hz := HZ.out
      obtain ⟨j, rfl⟩ : ∃ j', j = j' + 1 := ⟨j - 1, by omega⟩
      rw [Nat.pow_succ] at h5
      have hj : 1 ≤ j := by
        rcases Nat.eq_zero_or_pos j with e | e
        · subst e; simp at h5; omega
        · exact e
      go_roundw
      case rel => exact ⟨m / 10, j, Dm.digit (m % 10) :: t, _, by go_num, by go_num, rfl, hj, by omega, by simpa using H3.out, by simp [H4.out]; omega, by omega, by omega, by rw [H7.out, HS.out, Dm.dgz_pos _ hz]; simp, HR.out⟩
      case measure => simp [intOf]; omega

theorem conv_one (W : World) (m : Nat) : (convert 77 9 (.slice (some ⟨W.heap.size, 0, none⟩) 1 1)).run Try.prog (W.alloc (.cells #[.int .u8 (48 + (m : Int) % 10)] 5)) = .ok (.string ⟨[Dm.digit (m % 10)].toArray⟩) (W.alloc (.cells #[.int .u8 (48 + (m : Int) % 10)] 5)) := by
  refine conv_row _ _ _ _ _ [Dm.digit (m % 10)] rfl (fun k h => ?_)
  have hk : k = 0 := by simpa using h
  subst hk
  have e : ((Dm.digit (m % 10)).toNat : Int) = 48 + (m : Int) % 10 := by rw [Dm.digit_toNat _ (by omega)]; omega
  rw [Nat.add_zero, Blk.cell_new]
  simp only [List.getElem_cons_zero, e]
  rfl

/-- as the walks ask for them. -/
theorem num_any (a : Int) (w : World) (h0 : 0 ≤ a) (h1 : a < 18446744073709551616) :
    Calls Try.prog 48 #[.int .u64 a] w fun e w' => e = .returned (.string ⟨(Dm.num a.toNat).toArray⟩) ∧ Q w w' := by
  obtain ⟨n, rfl⟩ := Int.eq_ofNat_of_zero_le h0
  exact num_nat n w (by omega)
set_option maxHeartbeats 400000 in
theorem text_any (s : ByteArray) (w : World) (hs : s.size ≤ 4611686018427387904) :
    Calls Try.prog 49 #[.string s] w fun e w' => e = .returned (.string ⟨(Dm.num s.size ++ s.data.toList).toArray⟩) ∧ Q w w' := by
  have hn := Dm.num_length s.size (by omega)
  go_enter Try.func49, Try.ntmps49
  go_wp2_with fail
  refine (num_any _ _ (by omega) (by omega)).mono ?_
  rintro e w1 ⟨rfl, q1⟩
  go_wp2_with fail
  go_ret
  exact ⟨ret_str (app_list _ _), q1⟩

end Go.Proofs.Ytodfdklcioafmaa

/- Contracts of Seal, the document's own, and the examples. -/
namespace Go.Proofs.Ytodfdklcioafmaa
set_option maxRecDepth 100000
open Go.RowKit
set_option linter.unusedVariables false

/-- a text with its sum. -/
def sld (l : List UInt8) : List UInt8 := Dm.num l.length ++ l ++ Dm.num (Sm.adler l).toNat
theorem sld_length (l : List UInt8) (h : l.length ≤ 4611686018427387904) : (sld l).length ≤ l.length + 42 := by
  have h1 := Dm.num_length l.length (by omega)
  have h2 := Sm.adler_range l
  have h3 := Dm.num_length (Sm.adler l).toNat (by omega)
  unfold sld; simp only [List.length_append]; omega

set_option maxHeartbeats 400000 in
theorem seal_any (s : ByteArray) (w : World) (hs : s.size ≤ 4611686018427387800) :
    Calls Try.prog 50 #[.string s] w fun e w' => e = .returned (.string ⟨(sld s.data.toList).toArray⟩) ∧ Q w w' := by
  have h2 := Sm.adler_range s.data.toList
  have h1 := Dm.num_length s.size (by omega)
  have h3 := Dm.num_length (Sm.adler s.data.toList).toNat (by omega)
  go_enter Try.func50, Try.ntmps50
  go_wp2_with fail
  refine (text_any _ _ (by omega)).mono ?_
  rintro e w1 ⟨rfl, q1⟩
  go_wp2_with fail
  refine (of_any _ _ (by unfold maxLen; omega)).mono ?_
  rintro e w2 ⟨rfl, q2⟩
  go_wp2_with fail
  refine (num_any _ _ (by omega) (by omega)).mono ?_
  rintro e w3 ⟨rfl, q3⟩
  go_wp2_with fail
  go_ret
  exact ⟨ret_str (by unfold sld; rw [size_list]; exact app_lists _ _), q1.trans (q2.trans q3)⟩

theorem ex_nil : Sm.adler [] = 1 := by decide
theorem ex_a : Sm.adler [97] = 6422626 := by decide
theorem ex_sld : sld [97] = [49, 59, 97, 54, 52, 50, 50, 54, 50, 54, 59] := by
  unfold sld Dm.num
  rw [ex_a]
  have e1 : Dm.dg 1 = [49] := by rw [Dm.dg]; rfl
  have f0 : Dm.dg 6 = [54] := by rw [Dm.dg]; rfl
  have f1 : Dm.dg 64 = [54, 52] := by rw [Dm.dg, if_neg (by omega), show 64 / 10 = 6 from rfl, f0]; rfl
  have f2 : Dm.dg 642 = [54, 52, 50] := by rw [Dm.dg, if_neg (by omega), show 642 / 10 = 64 from rfl, f1]; rfl
  have f3 : Dm.dg 6422 = [54, 52, 50, 50] := by rw [Dm.dg, if_neg (by omega), show 6422 / 10 = 642 from rfl, f2]; rfl
  have f4 : Dm.dg 64226 = [54, 52, 50, 50, 54] := by rw [Dm.dg, if_neg (by omega), show 64226 / 10 = 6422 from rfl, f3]; rfl
  have f5 : Dm.dg 642262 = [54, 52, 50, 50, 54, 50] := by rw [Dm.dg, if_neg (by omega), show 642262 / 10 = 64226 from rfl, f4]; rfl
  have f6 : Dm.dg 6422626 = [54, 52, 50, 50, 54, 50, 54] := by rw [Dm.dg, if_neg (by omega), show 6422626 / 10 = 642262 from rfl, f5]; rfl
  rw [show (6422626 : Int).toNat = 6422626 from rfl, f6, show ([97] : List UInt8).length = 1 from rfl, e1]; rfl

theorem of_empty (w : World) : Calls Try.prog 82 #[.string ⟨#[]⟩] w fun e w' => e = .returned (.int .u32 1) ∧ Q w w' := of_any ⟨#[]⟩ w (by decide)
theorem of_a (w : World) : Calls Try.prog 82 #[.string ⟨#[97]⟩] w fun e w' => e = .returned (.int .u32 6422626) ∧ Q w w' := by
  have h := of_any ⟨#[97]⟩ w (by decide)
  rw [show (⟨#[97]⟩ : ByteArray).data.toList = [97] from rfl, ex_a] at h
  exact h
theorem seal_a (w : World) : Calls Try.prog 50 #[.string ⟨#[97]⟩] w fun e w' => e = .returned (.string ⟨#[49, 59, 97, 54, 52, 50, 50, 54, 50, 54, 59]⟩) ∧ Q w w' := by
  have h := seal_any ⟨#[97]⟩ w (by decide)
  rw [show (⟨#[97]⟩ : ByteArray).data.toList = [97] from rfl, ex_sld] at h
  exact h

end Go.Proofs.Ytodfdklcioafmaa

/- Plain mathematics of package dec: what is taken. Nothing of the program. -/
namespace Go.Proofs.Ytodfdklcioafmaa.Dm
set_option maxRecDepth 100000

/-! ### Taking a number -/
def maxU : Nat := 18446744073709551615
theorem maxU_eq : maxU = 18446744073709551615 := rfl
/-- the figures at the beginning of a text, and what stands behind them. -/
def figs (l : List UInt8) : List UInt8 := l.takeWhile isD
def rest (l : List UInt8) : List UInt8 := l.dropWhile isD
/-- figures that no number's bytes begin with. -/
def bad (l : List UInt8) : Bool := (decide (1 < (figs l).length) && l.head? == some 48) || decide (maxU < val (figs l))
/-- what is taken: the number, what stands behind it, and the errno. -/
def tnum (l : List UInt8) : Nat × List UInt8 × Nat :=
  if bad l = true then (0, [], 3)
  else if rest l = [] then (0, [], 2)
  else if (rest l).head? ≠ some 59 ∨ figs l = [] then (0, [], 3)
  else (val (figs l), (rest l).tail, 0)

theorem figs_rest (l : List UInt8) : figs l ++ rest l = l := List.takeWhile_append_dropWhile
theorem figs_len (l : List UInt8) : (figs l).length ≤ l.length := by
  have := congrArg List.length (figs_rest l)
  rw [List.length_append] at this; omega
theorem rest_eq (l : List UInt8) : rest l = l.drop (figs l).length := by
  have h := List.drop_left (l₁ := figs l) (l₂ := rest l)
  rw [figs_rest] at h; exact h.symm
theorem figs_eq (l : List UInt8) : figs l = l.take (figs l).length := by
  have h := List.take_left (l₁ := figs l) (l₂ := rest l)
  rw [figs_rest] at h; exact h.symm
theorem figs_all (l : List UInt8) : ∀ c ∈ figs l, isD c = true := List.all_eq_true.1 List.all_takeWhile

/-- how far the figures go: n of them, and then the end or another byte. -/
theorem figs_of (l : List UInt8) (n : Nat) (h1 : n ≤ l.length) (h2 : ∀ i (h : i < n), isD (l[i]'(by omega)) = true) (h3 : n = l.length ∨ ∃ h : n < l.length, isD l[n] = false) :
    figs l = l.take n := by
  induction l generalizing n with
  | nil => simp [figs]
  | cons c l ih =>
    cases n with
    | zero =>
      rcases h3 with h3 | ⟨_, h3⟩
      · simp at h3
      · simp at h3; simp [figs, h3]
    | succ n =>
      have hc : isD c = true := h2 0 (by omega)
      have := ih n (by simpa using h1) (fun i h => by have := h2 (i + 1) (by omega); simpa using this) (by
        rcases h3 with h3 | ⟨a, h3⟩
        · left; simpa using h3
        · right; exact ⟨by simpa using a, by simpa using h3⟩)
      unfold figs at this ⊢
      rw [List.takeWhile_cons, if_pos hc, this]; simp

theorem val_foldl (l : List UInt8) : ∀ a : Nat, l.foldl (fun v c => 10 * v + dv c) a = a * 10 ^ l.length + val l := by
  induction l with
  | nil => intro a; simp [val]
  | cons c l ih =>
    intro a
    simp only [List.foldl_cons, val, List.length_cons]
    rw [ih, ih (10 * 0 + dv c), Nat.pow_succ]
    grind
theorem val_append (a b : List UInt8) : val (a ++ b) = val a * 10 ^ b.length + val b := by
  show (a ++ b).foldl _ 0 = _
  rw [List.foldl_append, val_foldl]; rfl
theorem val_le_append (a b : List UInt8) : val a ≤ val (a ++ b) := by
  rw [val_append]
  have h1 : 1 ≤ 10 ^ b.length := Nat.pow_pos (by omega)
  have h2 : val a * 1 ≤ val a * 10 ^ b.length := Nat.mul_le_mul_left _ h1
  omega
theorem val_cons (c : UInt8) (l : List UInt8) : val (c :: l) = dv c * 10 ^ l.length + val l := by
  show l.foldl _ (10 * 0 + dv c) = _
  rw [val_foldl]; simp
/-- figures that don't begin with nought, and are more than twenty, tell a number that is too great. -/
theorem val_big (l : List UInt8) (c : UInt8) (r : List UInt8) (e : l = c :: r) (hc : isD c = true) (h0 : c.toNat ≠ 48) (hl : 20 < l.length) : maxU < val l := by
  subst e
  rw [val_cons]
  have h1 : 1 ≤ dv c := by rw [isD_iff] at hc; unfold dv; omega
  have h2 : 10 ^ 20 ≤ 10 ^ r.length := Nat.pow_le_pow_right (by omega) (by simp at hl; omega)
  have h3 : 1 * 10 ^ r.length ≤ dv c * 10 ^ r.length := Nat.mul_le_mul_right _ h1
  unfold maxU
  omega

/-! ### Taking a text -/
def ttext (l : List UInt8) (most : Int) : List UInt8 × List UInt8 × Nat :=
  if (tnum l).2.2 ≠ 0 then ([], [], (tnum l).2.2)
  else if most < 0 ∨ most < ((tnum l).1 : Int) then ([], [], 4)
  else if (tnum l).2.1.length < (tnum l).1 then ([], [], 2)
  else ((tnum l).2.1.take (tnum l).1, (tnum l).2.1.drop (tnum l).1, 0)

theorem tnum_len (l : List UInt8) : (tnum l).2.1.length ≤ l.length := by
  have h := congrArg List.length (figs_rest l)
  rw [List.length_append] at h
  unfold tnum
  split
  · simp
  · split
    · simp
    · split
      · simp
      · simp; omega
theorem tnum_le (l : List UInt8) : (tnum l).1 ≤ maxU := by
  unfold tnum
  split
  · simp
  · rename_i hb
    split
    · simp
    · split
      · simp
      · simp only [bad, Bool.or_eq_true, Bool.and_eq_true, decide_eq_true_eq, not_or] at hb
        simp only; omega
theorem tnum_err (l : List UInt8) : (tnum l).2.2 = 0 ∨ (tnum l).2.2 = 2 ∨ (tnum l).2.2 = 3 := by
  unfold tnum
  split
  · simp
  · split
    · simp
    · split <;> simp

/-! ### What was written is taken -/
theorem figs_num (v : Nat) (r : List UInt8) : figs (num v ++ r) = dg v ∧ rest (num v ++ r) = 59 :: r := by
  have h59 : isD 59 = false := by decide
  have e : num v ++ r = dg v ++ 59 :: r := by simp [num]
  have h1 : figs (num v ++ r) = dg v := by
    rw [e]; unfold figs
    rw [List.takeWhile_append_of_pos (all_dg v)]
    simp [h59]
  refine ⟨h1, ?_⟩
  rw [rest_eq, h1, e]; simp
theorem head_num (v : Nat) (h : 1 < (dg v).length) : ∀ r, (dg v ++ r).head? ≠ some 48 := by
  intro r
  have hv : 10 ≤ v := by
    rcases Nat.lt_or_ge v 10 with a | a
    · rw [dg, if_pos a] at h; simp at h
    · exact a
  cases hd : dg v with
  | nil => exact absurd hd (dg_ne v)
  | cons c t =>
    have := head_dg v hv c t hd
    simp
    intro e; subst e; exact this (by decide)
theorem tnum_num (v : Nat) (r : List UInt8) (hv : v ≤ maxU) : tnum (num v ++ r) = (v, r, 0) := by
  obtain ⟨h1, h2⟩ := figs_num v r
  have hb : bad (num v ++ r) = false := by
    unfold bad
    rw [h1, val_dg]
    by_cases hl : 1 < (dg v).length
    · have := head_num v hl (59 :: r)
      rw [show num v ++ r = dg v ++ 59 :: r from by simp [num], beq_eq_false_iff_ne.2 this]
      simp; omega
    · rw [decide_eq_false hl]; simp; omega
  unfold tnum
  rw [hb, h1, h2, val_dg]
  simp [dg_ne v]
/-- no beginning of it is. -/
theorem tnum_cut (v : Nat) (hv : v ≤ maxU) (k : Nat) (hk : k < (num v).length) : tnum ((num v).take k) = (0, [], 2) := by
  have hk' : k ≤ (dg v).length := by simp [num] at hk; omega
  have e : (num v).take k = (dg v).take k := by
    unfold num; rw [List.take_append_of_le_length hk']
  rw [e]
  have hall : ∀ c ∈ (dg v).take k, isD c = true := fun c hc => all_dg v c (List.mem_of_mem_take hc)
  have h1 : figs ((dg v).take k) = (dg v).take k := by
    have := figs_of ((dg v).take k) ((dg v).take k).length (Nat.le_refl _) (fun i h => hall _ (List.getElem_mem _)) (.inl rfl)
    rw [this, List.take_length]
  have h2 : rest ((dg v).take k) = [] := by rw [rest_eq, h1]; simp
  have hb : bad ((dg v).take k) = false := by
    unfold bad
    rw [h1]
    have hle : val ((dg v).take k) ≤ v := by
      have := val_le_append ((dg v).take k) ((dg v).drop k)
      rw [List.take_append_drop, val_dg] at this; exact this
    have hd : decide (maxU < val ((dg v).take k)) = false := by simp; omega
    rw [hd, Bool.or_false]
    by_cases hl : 1 < ((dg v).take k).length
    · have hl' : 1 < (dg v).length := by rw [List.length_take] at hl; omega
      have := head_num v hl' []
      rw [List.append_nil] at this
      have e2 : ((dg v).take k).head? = (dg v).head? := by
        cases hd2 : dg v with
        | nil => simp
        | cons c t => cases k with
          | zero => simp at hl
          | succ k => simp
      rw [e2, beq_eq_false_iff_ne.2 this, Bool.and_false]
    · rw [decide_eq_false hl, Bool.false_and]
  unfold tnum
  rw [hb, h2]; simp

theorem ttext_text (s r : List UInt8) (most : Int) (h : s.length ≤ maxU) (hm : (s.length : Int) ≤ most) : ttext (num s.length ++ (s ++ r)) most = (s, r, 0) := by
  unfold ttext
  rw [tnum_num _ _ h]
  simp only [List.length_append]
  rw [if_neg (by simp), if_neg (by omega), if_neg (by omega)]
  simp
theorem ttext_big (s r : List UInt8) (most : Int) (h : s.length ≤ maxU) (hm : most < (s.length : Int)) : ttext (num s.length ++ (s ++ r)) most = ([], [], 4) := by
  unfold ttext
  rw [tnum_num _ _ h]
  rw [if_neg (by simp), if_pos (.inr hm)]
theorem ttext_cut (s : List UInt8) (most : Int) (h : s.length ≤ maxU) (hm : (s.length : Int) ≤ most) (k : Nat) (hk : k < (num s.length ++ s).length) : ttext ((num s.length ++ s).take k) most = ([], [], 2) := by
  rcases Nat.lt_or_ge k (num s.length).length with a | a
  · rw [List.take_append_of_le_length (by omega)]
    unfold ttext
    rw [tnum_cut _ h k a]
    simp
  · rw [List.take_append, List.take_of_length_le a]
    unfold ttext
    rw [tnum_num _ _ h]
    rw [List.length_append] at hk
    rw [if_neg (by simp), if_neg (by simp; omega), if_pos (by simp only [List.length_take]; omega)]

/-- figures that stand there are among the figures. -/
theorem figs_ge (l : List UInt8) (m : Nat) (h1 : m ≤ l.length) (h2 : ∀ i (h : i < m), isD (l[i]'(by omega)) = true) : ∃ t, figs l = l.take m ++ t := by
  have hall : ∀ c ∈ l.take m, isD c = true := by
    intro c hc
    obtain ⟨i, hi, rfl⟩ := List.mem_iff_getElem.1 hc
    rw [List.length_take] at hi
    rw [List.getElem_take]
    exact h2 i (by omega)
  refine ⟨(l.drop m).takeWhile isD, ?_⟩
  unfold figs
  conv => lhs; rw [← List.take_append_drop m l]
  rw [List.takeWhile_append_of_pos hall]
theorem bad_zero (l : List UInt8) (k : Nat) (h0 : 0 < k) (h1 : k < l.length) (h2 : ∀ i (h : i < k + 1), isD (l[i]'(by omega)) = true) (h3 : l.head? = some 48) : bad l = true := by
  obtain ⟨t, ht⟩ := figs_ge l (k + 1) h1 h2
  have hl : 1 < (figs l).length := by rw [ht, List.length_append, List.length_take]; omega
  unfold bad; rw [decide_eq_true hl, h3]; rfl
theorem bad_big (l : List UInt8) (k : Nat) (h1 : k < l.length) (h2 : ∀ i (h : i < k + 1), isD (l[i]'(by omega)) = true) (h3 : maxU < val (l.take (k + 1))) : bad l = true := by
  obtain ⟨t, ht⟩ := figs_ge l (k + 1) h1 h2
  have hv : maxU < val (figs l) := by rw [ht]; exact Nat.lt_of_lt_of_le h3 (val_le_append _ _)
  unfold bad; rw [decide_eq_true hv, Bool.or_true]
theorem bad_not (l : List UInt8) (k : Nat) (e : figs l = l.take k) (hk : k ≤ l.length) (h1 : 1 < k → l.head? ≠ some 48) (h2 : val (l.take k) ≤ maxU) : bad l = false := by
  unfold bad
  rw [e, decide_eq_false (show ¬ maxU < val (l.take k) by omega), Bool.or_false, List.length_take, Nat.min_eq_left hk]
  by_cases h : 1 < k
  · rw [beq_eq_false_iff_ne.2 (h1 h), Bool.and_false]
  · rw [decide_eq_false h, Bool.false_and]
end Go.Proofs.Ytodfdklcioafmaa.Dm

/- Contracts of package dec's TakeNum, TakeText and of the document's own. -/
namespace Go.Proofs.Ytodfdklcioafmaa
set_option maxRecDepth 100000
open Go.RowKit
set_option linter.unusedVariables false

theorem take_snoc' (s : ByteArray) (k : Nat) (h : k < s.size) : s.data.toList.take (k + 1) = s.data.toList.take k ++ [s[k]] := by
  rw [List.take_succ_eq_append_getElem (by simpa using h)]; rfl
theorem get_list (s : ByteArray) (k : Nat) (h : k < s.data.toList.length) : s.data.toList[k] = s[k]'(by rw [← size_list]; exact h) := rfl
theorem head_list (s : ByteArray) (h : 0 < s.size) : s.data.toList.head? = some s[0] := by
  rw [List.head?_eq_getElem?, List.getElem?_eq_getElem (by rw [size_list]; exact h)]; rfl

def figV (l : List UInt8) : Value := if Dm.bad l = true then .tuple #[.int .u64 0, .int .i64 0, .bool false] else .tuple #[.int .u64 (Dm.val (Dm.figs l)), .int .i64 ((Dm.figs l).length : Int), .bool true]

theorem figV_end (l : List UInt8) (k : Nat) (hk : k ≤ l.length) (hd : ∀ i (h : i < k) (h' : i < l.length), Dm.isD l[i] = true) (h3 : k = l.length ∨ ∃ h : k < l.length, Dm.isD l[k] = false)
    (hv : Dm.val (l.take k) ≤ Dm.maxU) (hz : 1 < k → l.head? ≠ some 48) : figV l = .tuple #[.int .u64 (Dm.val (l.take k)), .int .i64 (k : Int), .bool true] := by
  have e := Dm.figs_of l k hk (fun i h => hd i h (by omega)) h3
  have hb := Dm.bad_not l k e hk hz hv
  unfold figV
  rw [hb, e, if_neg (by simp), List.length_take, Nat.min_eq_left hk]
theorem figV_bad (l : List UInt8) (h : Dm.bad l = true) : figV l = .tuple #[.int .u64 0, .int .i64 0, .bool false] := by unfold figV; rw [if_pos h]

set_option maxHeartbeats 400000 in
theorem figures_any (s : ByteArray) (w : World) (hs : s.size ≤ maxLen) :
    Calls Try.prog 109 #[.string s] w fun e w' => e = .returned (figV s.data.toList) ∧ w = w' := by
  unfold maxLen at hs
  go_enter Try.func109, Try.ntmps109
  go_wp2
  go_step3
  go_wp2
  go_step3
  go_wp2
  go_loop [2, 3] (fun v n => ∃ k : Nat, k ≤ s.size ∧ n = .int .i64 k ∧ v = .int .u64 (Dm.val (s.data.toList.take k)) ∧ Dm.val (s.data.toList.take k) ≤ Dm.maxU ∧ (∀ i (h : i < k) (h' : i < s.data.toList.length), Dm.isD s.data.toList[i] = true) ∧ (1 < k → s.data.toList.head? ≠ some 48)) (fun _ n => s.size - (intOf n).toNat)
  case atStart => exact ⟨0, Nat.zero_le _, rfl, rfl, Nat.zero_le _, fun i h => absurd h (by omega), fun h => absurd h (by omega)⟩
  case round =>
    obtain ⟨k, hk, rfl, rfl, hv, hd, hz⟩ := hrel
    have HD := Lib.hid hd
    have HZ := Lib.hid hz
    clear hd hz
    have hv' : Dm.val (s.data.toList.take k) ≤ 18446744073709551615 := hv
    by_cases hlt : k < s.size
    · have hts := take_snoc' s k hlt
      have e1 := Dm.val_snoc (s.data.toList.take k) s[k]
      rw [← hts] at e1
      have H1 := Lib.hid e1
      clear e1 hts hv
      generalize hA : Dm.val (s.data.toList.take k) = A at *
      have HA := Lib.hid hA
      clear hA
      have hkl : k < s.data.toList.length := by rw [size_list]; exact hlt
      by_cases c0 : s[k].toNat < 48
      · have hfin := figV_end s.data.toList k (by omega) HD.out (.inr ⟨hkl, by rw [get_list]; unfold Dm.isD; rw [decide_eq_false (show ¬ 48 ≤ s[k].toNat by omega)]; rfl⟩) (by rw [HA.out]; exact hv') HZ.out
        rw [HA.out] at hfin
        have HF := Lib.hid hfin
        clear hfin
        go_wp2
        rw [HF.out]
        go_ret3
        exact ⟨rfl, rfl⟩
      have c0' : 48 ≤ s[k].toNat := by omega
      clear c0
      by_cases c1 : 57 < s[k].toNat
      · have hfin := figV_end s.data.toList k (by omega) HD.out (.inr ⟨hkl, by rw [get_list]; unfold Dm.isD; rw [decide_eq_false (show ¬ s[k].toNat ≤ 57 by omega), Bool.and_false]⟩) (by rw [HA.out]; exact hv') HZ.out
        rw [HA.out] at hfin
        have HF := Lib.hid hfin
        clear hfin
        go_wp2
        rw [HF.out]
        go_ret3
        exact ⟨rfl, rfl⟩
      have c1' : s[k].toNat ≤ 57 := by omega
      clear c1
      have hd' : ∀ i (h : i < k + 1) (h' : i < s.data.toList.length), Dm.isD s.data.toList[i] = true := by
        intro i h h'
        rcases Nat.lt_or_ge i k with a | a
        · exact HD.out i a h'
        · obtain rfl : i = k := by omega
          rw [get_list, Dm.isD_iff]; omega
      have HD' := Lib.hid hd'
      clear hd'
      by_cases c2 : 0 < k ∧ s[0].toNat = 48
      · obtain ⟨c2, c3⟩ := c2
        have hfin := figV_bad s.data.toList (Dm.bad_zero s.data.toList k c2 hkl (fun i h => HD'.out i h (by omega)) (by rw [head_list s (by omega)]; congr 1; exact UInt8.toNat_inj.1 c3))
        have HF := Lib.hid hfin
        have hb : ((s[0].toNat : Int) == 48) = true := by simp; omega
        clear hfin c3
        go_wp2
        (try rw [Exit.noGoto_ret])
        go_ret3
        exact ⟨by rw [HF.out]; rfl, rfl⟩
      have hdv : Dm.dv s[k] = s[k].toNat - 48 := rfl
      have HDV := Lib.hid hdv
      clear hdv
      have C2 := Lib.hid c2
      clear c2
      by_cases c4 : 18446744073709551615 < 10 * A + (s[k].toNat - 48)
      · have hfin := figV_bad s.data.toList (Dm.bad_big s.data.toList k hkl (fun i h => HD'.out i h (by omega)) (by rw [H1.out, HDV.out]; exact c4))
        have HF := Lib.hid hfin
        clear hfin
        have c4' : (18446744073709551615 - ((s[k].toNat : Int) - 48)) / 10 < (A : Int) := by omega
        clear c4
        by_cases c5 : k = 0
        · subst c5
          go_wp2
          (try rw [Exit.noGoto_ret])
          go_ret3
          exact ⟨by rw [HF.out]; rfl, rfl⟩
        · have c5' : 0 < k := by omega
          have hb : ((s[0].toNat : Int) == 48) = false := by
            have := C2.out
            simp; omega
          clear c5
          go_wp2
          (try rw [Exit.noGoto_ret])
          go_ret3
          exact ⟨by rw [HF.out]; rfl, rfl⟩
      have c4' : (A : Int) ≤ (18446744073709551615 - ((s[k].toNat : Int) - 48)) / 10 := by omega
      have c6 : (A : Int) * 10 + ((s[k].toNat : Int) - 48) ≤ 18446744073709551615 := by omega
      have hnew : ((10 * A + (s[k].toNat - 48) : Nat) : Int) = (A : Int) * 10 + ((s[k].toNat : Int) - 48) := by omega
      have HN := Lib.hid hnew
      have C4 := Lib.hid c4
      clear c4 hnew
      by_cases c5 : k = 0
      · subst c5
        go_wp2
        go_round
        case rel => exact ⟨0 + 1, by omega, by go_num, by rw [H1.out, HDV.out, HN.out], by rw [H1.out, HDV.out]; have := C4.out; unfold Dm.maxU; omega, HD'.out, fun h => absurd h (by omega)⟩
        case measure => simp [intOf]; omega
      · have c5' : 0 < k := by omega
        have hb : ((s[0].toNat : Int) == 48) = false := by
          have := C2.out
          simp; omega
        clear c5
        have hh : 1 < k + 1 → s.data.toList.head? ≠ some 48 := by
          intro _ e
          rw [head_list s (by omega)] at e
          injection e with e
          have := C2.out
          rw [e] at this
          exact this ⟨c5', by decide⟩
        have HH := Lib.hid hh
        clear hh
        go_wp2
        go_round
        case rel => exact ⟨k + 1, by omega, by go_num, by rw [H1.out, HDV.out, HN.out], by rw [H1.out, HDV.out]; have := C4.out; unfold Dm.maxU; omega, HD'.out, HH.out⟩
        case measure => simp [intOf]; omega
    · have hfin := figV_end s.data.toList k (by rw [size_list]; exact hk) HD.out (.inl (by rw [size_list]; omega)) hv HZ.out
      have HF := Lib.hid hfin
      clear hfin
      generalize Dm.val (s.data.toList.take k) = A at *
      go_wp2
      rw [HF.out]
      go_ret3
      exact ⟨rfl, rfl⟩
end Go.Proofs.Ytodfdklcioafmaa

/- Contracts of package dec's TakeNum, above, TakeText. -/
namespace Go.Proofs.Ytodfdklcioafmaa
set_option maxRecDepth 100000
open Go.RowKit
set_option linter.unusedVariables false

theorem extract_list (s : ByteArray) (a b : Nat) : s.extract a b = ⟨((s.data.toList.take b).drop a).toArray⟩ := by
  apply ByteArray.ext
  rw [ByteArray.data_extract]
  apply Array.ext'
  simp [List.extract_eq_take_drop, List.drop_take]

def tnR (r : Nat × List UInt8 × Nat) : Value := .tuple #[.int .u64 (r.1 : Int), .string ⟨r.2.1.toArray⟩, .int .i64 (r.2.2 : Int)]

set_option maxHeartbeats 400000 in
theorem takeNum_any (s : ByteArray) (w : World) (hs : s.size ≤ maxLen) :
    Calls Try.prog 84 #[.string s] w fun e w' => e = .returned (tnR (Dm.tnum s.data.toList)) ∧ Q w w' := by
  by_cases hb : Dm.bad s.data.toList = true
  · have hf := figV_bad _ hb
    have ht : Dm.tnum s.data.toList = (0, [], 3) := by unfold Dm.tnum; rw [if_pos hb]
    have HF := Lib.hid hf
    have HT := Lib.hid ht
    clear hf ht hb
    go_enter Try.func84, Try.ntmps84
    go_wp2_with fail
    refine (figures_any _ _ hs).mono ?_
    rintro e w1 ⟨rfl, rfl⟩
    rw [HF.out]
    go_wp2_with fail
    go_ret3
    exact ⟨by rw [HT.out]; rfl, Q.refl _⟩
  have hf : figV s.data.toList = .tuple #[.int .u64 (Dm.val (Dm.figs s.data.toList)), .int .i64 ((Dm.figs s.data.toList).length : Int), .bool true] := by unfold figV; rw [if_neg hb]
  have hle : (Dm.figs s.data.toList).length ≤ s.size := by have := Dm.figs_len s.data.toList; rw [size_list] at this; exact this
  have hrest := Dm.rest_eq s.data.toList
  have htn : Dm.tnum s.data.toList = if Dm.rest s.data.toList = [] then (0, [], 2) else if (Dm.rest s.data.toList).head? ≠ some 59 ∨ Dm.figs s.data.toList = [] then (0, [], 3) else (Dm.val (Dm.figs s.data.toList), (Dm.rest s.data.toList).tail, 0) := by
    unfold Dm.tnum; rw [if_neg hb]
  have HF := Lib.hid hf
  have HR := Lib.hid hrest
  have HT := Lib.hid htn
  have hnil : Dm.figs s.data.toList = [] ↔ (Dm.figs s.data.toList).length = 0 := List.length_eq_zero_iff.symm
  have HNIL := Lib.hid hnil
  have hval : Dm.val (Dm.figs s.data.toList) ≤ 18446744073709551615 := by
    have : Dm.bad s.data.toList = false := by simpa using hb
    unfold Dm.bad at this
    simp only [Bool.or_eq_false_iff, decide_eq_false_iff_not] at this
    have h2 := this.2
    unfold Dm.maxU at h2; omega
  clear hf hrest htn hb hnil
  generalize hN : (Dm.figs s.data.toList).length = n at *
  generalize hV : Dm.val (Dm.figs s.data.toList) = v at *
  unfold maxLen at hs
  by_cases c0 : n = s.size
  · have ht : Dm.tnum s.data.toList = (0, [], 2) := by
      rw [HT.out, if_pos (by rw [HR.out]; exact List.drop_of_length_le (by rw [size_list]; omega))]
    have HT2 := Lib.hid ht
    have hbeq : ((n : Int) == (s.size : Int)) = true := by simp; omega
    clear hN hV c0 ht
    go_enter Try.func84, Try.ntmps84
    go_wp2_with fail
    refine (figures_any _ _ (by unfold maxLen; omega)).mono ?_
    rintro e w1 ⟨rfl, rfl⟩
    rw [HF.out]
    go_wp2_with fail
    go_ret3
    exact ⟨by rw [HT2.out]; rfl, Q.refl _⟩
  have hlt : n < s.size := by omega
  have hbeq : ((n : Int) == (s.size : Int)) = false := by simp; omega
  have hrs : Dm.rest s.data.toList = s[n] :: s.data.toList.drop (n + 1) := by
    rw [HR.out, List.drop_eq_getElem_cons (by rw [size_list]; exact hlt)]; rfl
  have HRS := Lib.hid hrs
  clear hN hV c0 hrs
  by_cases c1 : s[n].toNat = 59
  · have h59 : s[n] = 59 := UInt8.toNat_inj.1 (by rw [c1]; rfl)
    have hne : ((s[n].toNat : Int) != 59) = false := by simp; omega
    clear c1
    by_cases c2 : n = 0
    · have ht : Dm.tnum s.data.toList = (0, [], 3) := by
        rw [HT.out, HRS.out, if_neg (by simp), if_pos (.inr (HNIL.out.2 c2))]
      have HT2 := Lib.hid ht
      have h0 : ((n : Int) == 0) = true := by simp; omega
      clear ht c2 h59
      go_enter Try.func84, Try.ntmps84
      go_wp2_with fail
      refine (figures_any _ _ (by unfold maxLen; omega)).mono ?_
      rintro e w1 ⟨rfl, rfl⟩
      rw [HF.out]
      go_wp2_with fail
      go_ret3
      exact ⟨by rw [HT2.out]; rfl, Q.refl _⟩
    · have ht : Dm.tnum s.data.toList = (v, s.data.toList.drop (n + 1), 0) := by
        rw [HT.out, HRS.out, if_neg (by simp), if_neg (by rw [h59]; simp; exact fun e => c2 (HNIL.out.1 e))]; rfl
      have HT2 := Lib.hid ht
      have h0 : ((n : Int) == 0) = false := by simp; omega
      have he := extract_list s (n + 1) s.size
      rw [List.take_of_length_le (by rw [size_list]; omega)] at he
      have HE := Lib.hid he
      have e1 : IntKind.i64.wrap ((n : Int) + 1) = (n : Int) + 1 := IntWalk.i64_in _ (by omega)
      have e2 : 0 ≤ (n : Int) + 1 := by omega
      have e3 : ((n : Int) + 1).toNat = n + 1 := by omega
      have e4 : (n : Int) + 1 ≤ (s.size : Int) := by omega
      clear ht c2 h59 he
      go_enter Try.func84, Try.ntmps84
      go_wp2_with fail
      refine (figures_any _ _ (by unfold maxLen; omega)).mono ?_
      rintro e w1 ⟨rfl, rfl⟩
      rw [HF.out]
      go_wp2_with fail
      go_quiet (fail)
      go_wp2_with fail
      go_ret3
      refine ⟨?_, (Q.refl _).drewN _⟩
      rw [HT2.out]; unfold tnR
      simp only [← HE.out]; rfl
  · have h59 : s[n] ≠ 59 := fun e => c1 (by rw [e]; rfl)
    have ht : Dm.tnum s.data.toList = (0, [], 3) := by
      rw [HT.out, HRS.out, if_neg (by simp), if_pos (.inl (by simpa using h59))]
    have hne : ((s[n].toNat : Int) != 59) = true := by simp; omega
    have HT2 := Lib.hid ht
    clear ht c1 h59
    go_enter Try.func84, Try.ntmps84
    go_wp2_with fail
    refine (figures_any _ _ (by unfold maxLen; omega)).mono ?_
    rintro e w1 ⟨rfl, rfl⟩
    rw [HF.out]
    go_wp2_with fail
    go_ret3
    exact ⟨by rw [HT2.out]; rfl, Q.refl _⟩

set_option maxHeartbeats 400000 in
theorem above_yes (v b : Int) (w : World) (h0 : 0 ≤ v) (h1 : v ≤ 18446744073709551615) (h2 : -9223372036854775808 ≤ b) (h3 : b ≤ 9223372036854775807) (h : b < 0 ∨ b < v) :
    Calls Try.prog 108 #[.int .u64 v, .int .i64 b] w fun e w' => e = .returned (.bool true) ∧ w = w' := by
  by_cases c : b < 0
  · have d : decide (b < 0) = true := by simpa using c
    clear h
    go_enter Try.func108, Try.ntmps108
    go_wp2
    go_ret
    exact ⟨rfl, rfl⟩
  · have c' : 0 ≤ b := by omega
    have d : decide (b < 0) = false := by simpa using c'
    have e : b < v := by omega
    have d2 : decide (b < v) = true := by simpa using e
    clear h c
    go_enter Try.func108, Try.ntmps108
    go_wp2
    go_ret
    exact ⟨rfl, rfl⟩
set_option maxHeartbeats 400000 in
theorem above_no (v b : Int) (w : World) (h0 : 0 ≤ v) (h1 : v ≤ 18446744073709551615) (h2 : 0 ≤ b) (h3 : b ≤ 9223372036854775807) (h : v ≤ b) :
    Calls Try.prog 108 #[.int .u64 v, .int .i64 b] w fun e w' => e = .returned (.bool false) ∧ w = w' := by
  have d : decide (b < 0) = false := by simpa using h2
  have d2 : decide (b < v) = false := by simpa using h
  go_enter Try.func108, Try.ntmps108
  go_wp2
  go_ret
  exact ⟨rfl, rfl⟩

def ttR (r : List UInt8 × List UInt8 × Nat) : Value := .tuple #[.string ⟨r.1.toArray⟩, .string ⟨r.2.1.toArray⟩, .int .i64 (r.2.2 : Int)]

set_option maxHeartbeats 400000 in
theorem takeText_any (s : ByteArray) (most : Int) (w : World) (hs : s.size ≤ maxLen) (hm0 : -9223372036854775808 ≤ most) (hm1 : most ≤ 9223372036854775807) :
    Calls Try.prog 83 #[.string s, .int .i64 most] w fun e w' => e = .returned (ttR (Dm.ttext s.data.toList most)) ∧ Q w w' := by
  have hlen := Dm.tnum_len s.data.toList
  have hle := Dm.tnum_le s.data.toList
  have hcall := takeNum_any s w hs
  have htx : Dm.ttext s.data.toList most = if (Dm.tnum s.data.toList).2.2 ≠ 0 then ([], [], (Dm.tnum s.data.toList).2.2) else if most < 0 ∨ most < ((Dm.tnum s.data.toList).1 : Int) then ([], [], 4) else if (Dm.tnum s.data.toList).2.1.length < (Dm.tnum s.data.toList).1 then ([], [], 2)
    else ((Dm.tnum s.data.toList).2.1.take (Dm.tnum s.data.toList).1, (Dm.tnum s.data.toList).2.1.drop (Dm.tnum s.data.toList).1, 0) := rfl
  have herr := Dm.tnum_err s.data.toList
  generalize Dm.tnum s.data.toList = x at *
  obtain ⟨n, r, er⟩ := x
  obtain ⟨R, hR⟩ : ∃ R : ByteArray, R = ⟨r.toArray⟩ := ⟨_, rfl⟩
  have hsz : R.size = r.length := by rw [hR]; show r.toArray.size = _; simp
  have hl : R.data.toList = r := by rw [hR]
  unfold tnR at hcall
  simp only at hlen hle hcall htx herr
  rw [← hR] at hcall
  have hRle : R.size ≤ s.size := by rw [hsz]; rw [size_list] at hlen; exact hlen
  unfold maxLen at hs
  unfold Dm.maxU at hle
  have HC := Lib.hid hcall
  have HT := Lib.hid htx
  have HSZ := Lib.hid hsz
  have HL := Lib.hid hl
  clear hcall htx hsz hl hR hlen
  by_cases c0 : er = 0
  · subst c0
    clear herr
    by_cases c1 : most < 0 ∨ most < (n : Int)
    · have ht : Dm.ttext s.data.toList most = ([], [], 4) := by rw [HT.out, if_neg (by simp), if_pos c1]
      have HT2 := Lib.hid ht
      have C1 := Lib.hid c1
      clear ht c1
      go_enter Try.func83, Try.ntmps83
      go_wp2_with fail
      refine HC.out.mono ?_
      rintro e w1 ⟨rfl, q1⟩
      go_wp2_with fail
      refine (above_yes _ _ _ (by omega) (by omega) hm0 hm1 C1.out).mono ?_
      rintro e w2 ⟨rfl, rfl⟩
      go_wp2_with fail
      go_ret3
      exact ⟨by rw [HT2.out]; rfl, q1⟩
    have c1' : 0 ≤ most := by omega
    have c1'' : (n : Int) ≤ most := by omega
    by_cases c2 : R.size < n
    · have ht : Dm.ttext s.data.toList most = ([], [], 2) := by rw [HT.out, if_neg (by simp), if_neg c1, if_pos (by rw [← HSZ.out]; exact c2)]
      have HT2 := Lib.hid ht
      clear ht c1
      go_enter Try.func83, Try.ntmps83
      go_wp2_with fail
      refine HC.out.mono ?_
      rintro e w1 ⟨rfl, q1⟩
      go_wp2_with fail
      refine (above_no _ _ _ (by omega) (by omega) c1' hm1 c1'').mono ?_
      rintro e w2 ⟨rfl, rfl⟩
      go_wp2_with fail
      refine (above_yes _ _ _ (by omega) (by omega) (by omega) (by omega) (by omega)).mono ?_
      rintro e w2 ⟨rfl, rfl⟩
      go_wp2_with fail
      go_ret3
      exact ⟨by rw [HT2.out]; rfl, q1⟩
    have c2' : n ≤ R.size := by omega
    have ht : Dm.ttext s.data.toList most = (r.take n, r.drop n, 0) := by rw [HT.out, if_neg (by simp), if_neg c1, if_neg (by rw [← HSZ.out]; exact c2)]
    have he1 := extract_list R 0 n
    have he2 := extract_list R n R.size
    rw [List.take_of_length_le (by rw [size_list]; omega), HL.out] at he2
    rw [HL.out, List.drop_zero] at he1
    have HT2 := Lib.hid ht
    have HE1 := Lib.hid he1
    have HE2 := Lib.hid he2
    have e4 : (n : Int) ≤ (R.size : Int) := by omega
    clear ht c1 c2 he1 he2
    go_enter Try.func83, Try.ntmps83
    go_wp2_with fail
    refine HC.out.mono ?_
    rintro e w1 ⟨rfl, q1⟩
    go_wp2_with fail
    refine (above_no _ _ _ (by omega) (by omega) c1' hm1 c1'').mono ?_
    rintro e w2 ⟨rfl, rfl⟩
    go_wp2_with fail
    refine (above_no _ _ _ (by omega) (by omega) (by omega) (by omega) (by omega)).mono ?_
    rintro e w2 ⟨rfl, rfl⟩
    go_wp2_with fail
    go_quiet (fail)
    go_wp2_with fail
    go_ret3
    refine ⟨?_, q1.drewN _⟩
    rw [HT2.out]; unfold ttR
    simp only [← HE1.out, ← HE2.out]; rfl
  · have ht : Dm.ttext s.data.toList most = ([], [], er) := by rw [HT.out, if_pos c0]
    have HT2 := Lib.hid ht
    have hne : ((er : Int) != 0) = true := by simp; omega
    clear ht c0 herr
    go_enter Try.func83, Try.ntmps83
    go_wp2_with fail
    refine HC.out.mono ?_
    rintro e w1 ⟨rfl, q1⟩
    go_wp2_with fail
    go_ret3
    exact ⟨by rw [HT2.out]; rfl, q1⟩
end Go.Proofs.Ytodfdklcioafmaa

/- The contract of sum.Open. -/
namespace Go.Proofs.Ytodfdklcioafmaa
set_option maxRecDepth 100000
open Go.RowKit
set_option linter.unusedVariables false

def topen2 (s : List UInt8) (x : Nat × List UInt8 × Nat) : List UInt8 × List UInt8 × Nat :=
  if x.2.2 ≠ 0 then ([], [], x.2.2) else if (x.1 : Int) ≠ Sm.adler s then ([], [], 10) else (s, x.2.1, 0)
def topen1 (x : List UInt8 × List UInt8 × Nat) : List UInt8 × List UInt8 × Nat :=
  if x.2.2 ≠ 0 then ([], [], x.2.2) else topen2 x.1 (Dm.tnum x.2.1)
/-- what is opened: the text, what stands behind it, the errno. -/
def topen (l : List UInt8) (most : Int) : List UInt8 × List UInt8 × Nat := topen1 (Dm.ttext l most)

theorem ttext_len (l : List UInt8) (most : Int) : (Dm.ttext l most).1.length ≤ l.length ∧ (Dm.ttext l most).2.1.length ≤ l.length := by
  have h := Dm.tnum_len l
  unfold Dm.ttext
  split
  · simp
  · split
    · simp
    · split
      · simp
      · simp; omega
theorem ttext_err (l : List UInt8) (most : Int) : (Dm.ttext l most).2.2 ≤ 4 := by
  have h := Dm.tnum_err l
  unfold Dm.ttext
  split
  · simp only; omega
  · split
    · simp
    · split <;> simp

/-- a list of bytes as a text. -/
theorem bytes_of (r : List UInt8) : ∃ R : ByteArray, R = ⟨r.toArray⟩ ∧ R.size = r.length ∧ R.data.toList = r := ⟨_, rfl, by show r.toArray.size = _; simp, rfl⟩

set_option maxHeartbeats 400000 in
theorem sopen_any (f : ByteArray) (most : Int) (w : World) (hs : f.size ≤ maxLen) (hm0 : -9223372036854775808 ≤ most) (hm1 : most ≤ 9223372036854775807) :
    Calls Try.prog 52 #[.string f, .int .i64 most] w fun e w' => e = .returned (ttR (topen f.data.toList most)) ∧ Q w w' := by
  have hcall := takeText_any f most w hs hm0 hm1
  have hlen := ttext_len f.data.toList most
  have herr := ttext_err f.data.toList most
  rw [size_list] at hlen
  have htx : topen f.data.toList most = topen1 (Dm.ttext f.data.toList most) := rfl
  generalize topen f.data.toList most = out at *
  subst htx
  generalize Dm.ttext f.data.toList most = x at *
  obtain ⟨t, r, er⟩ := x
  obtain ⟨S, hS, hSs, hSl⟩ := bytes_of t
  obtain ⟨R, hR, hRs, hRl⟩ := bytes_of r
  unfold ttR at hcall
  simp only at hlen hcall herr
  rw [← hS, ← hR] at hcall
  rw [← hSs, ← hRs] at hlen
  obtain ⟨hl1, hl2⟩ := hlen
  have HC := Lib.hid hcall
  have HSL := Lib.hid hSl
  have HRL := Lib.hid hRl
  have HS := Lib.hid hS
  clear hcall hSl hRl hS hR hSs hRs
  by_cases c0 : er = 0
  · subst c0
    clear herr
    have ho : topen1 (t, r, 0) = topen2 t (Dm.tnum r) := by unfold topen1; rw [if_neg (by simp)]
    rw [ho]
    have hcall2 := fun W => takeNum_any R W (Nat.le_trans hl2 hs)
    have hle := Dm.tnum_le r
    have hlen := Dm.tnum_len r
    have herr := Dm.tnum_err r
    rw [HRL.out] at hcall2
    generalize Dm.tnum r = y at *
    obtain ⟨v, r2, er2⟩ := y
    obtain ⟨R2, hR2, hR2s, hR2l⟩ := bytes_of r2
    unfold tnR at hcall2
    simp only at hle hlen herr hcall2
    rw [← hR2] at hcall2
    have HR2 := Lib.hid hR2
    have HC2 := Lib.hid hcall2
    clear ho hcall2 hR2 hR2s hR2l hlen
    unfold Dm.maxU at hle
    by_cases c1 : er2 = 0
    · subst c1
      clear herr
      have hof := fun W => of_any S W (Nat.le_trans hl1 hs)
      rw [HSL.out] at hof
      have hr := Sm.adler_range t
      have HOF := Lib.hid hof
      clear hof
      unfold maxLen at hs
      by_cases c2 : (v : Int) = Sm.adler t
      · have hfin : topen2 t (v, r2, 0) = (t, r2, 0) := by unfold topen2; rw [if_neg (by simp), if_neg (by simpa using c2)]
        have hbn : ((v : Int) != Sm.adler t) = false := by simpa using c2
        have HF := Lib.hid hfin
        clear hfin c2
        generalize Sm.adler t = ad at *
        go_enter Try.func52, Try.ntmps52
        go_wp2_with fail
        refine HC.out.mono ?_
        rintro e w1 ⟨rfl, q1⟩
        go_wp2_with fail
        refine (HC2.out _).mono ?_
        rintro e w2 ⟨rfl, q2⟩
        go_wp2_with fail
        refine (HOF.out _).mono ?_
        rintro e w3 ⟨rfl, q3⟩
        go_wp2_with fail
        go_ret3
        refine ⟨?_, q1.trans (q2.trans q3)⟩
        rw [HF.out]; unfold ttR
        simp only [← HR2.out, ← HS.out]; rfl
      · have hfin : topen2 t (v, r2, 0) = ([], [], 10) := by unfold topen2; rw [if_neg (by simp), if_pos (by simpa using c2)]
        have hbn : ((v : Int) != Sm.adler t) = true := by simpa using c2
        have HF := Lib.hid hfin
        clear hfin c2
        generalize Sm.adler t = ad at *
        go_enter Try.func52, Try.ntmps52
        go_wp2_with fail
        refine HC.out.mono ?_
        rintro e w1 ⟨rfl, q1⟩
        go_wp2_with fail
        refine (HC2.out _).mono ?_
        rintro e w2 ⟨rfl, q2⟩
        go_wp2_with fail
        refine (HOF.out _).mono ?_
        rintro e w3 ⟨rfl, q3⟩
        go_wp2_with fail
        go_ret3
        exact ⟨by rw [HF.out]; rfl, q1.trans (q2.trans q3)⟩
    · have hfin : topen2 t (v, r2, er2) = ([], [], er2) := by unfold topen2; rw [if_pos c1]
      have hne : ((er2 : Int) != 0) = true := by simp; omega
      have HF := Lib.hid hfin
      clear hfin c1 herr
      go_enter Try.func52, Try.ntmps52
      go_wp2_with fail
      refine HC.out.mono ?_
      rintro e w1 ⟨rfl, q1⟩
      go_wp2_with fail
      refine (HC2.out _).mono ?_
      rintro e w2 ⟨rfl, q2⟩
      go_wp2_with fail
      go_ret3
      exact ⟨by rw [HF.out]; rfl, q1.trans q2⟩
  · have ho : topen1 (t, r, er) = ([], [], er) := by unfold topen1; rw [if_pos c0]
    have hne : ((er : Int) != 0) = true := by simp; omega
    have HF := Lib.hid ho
    clear ho c0 herr
    go_enter Try.func52, Try.ntmps52
    go_wp2_with fail
    refine HC.out.mono ?_
    rintro e w1 ⟨rfl, q1⟩
    go_wp2_with fail
    go_ret3
    exact ⟨by rw [HF.out]; rfl, q1⟩

/-! ### What was sealed is opened -/
theorem adler_maxU (l : List UInt8) : (Sm.adler l).toNat ≤ Dm.maxU := by have := Sm.adler_range l; unfold Dm.maxU; omega
theorem topen_sld (s more : List UInt8) (most : Int) (h : s.length ≤ Dm.maxU) (hm : (s.length : Int) ≤ most) : topen (sld s ++ more) most = (s, more, 0) := by
  have e : sld s ++ more = Dm.num s.length ++ (s ++ (Dm.num (Sm.adler s).toNat ++ more)) := by simp [sld]
  have hr := Sm.adler_range s
  unfold topen
  rw [e, Dm.ttext_text s _ most h hm]
  unfold topen1
  rw [if_neg (by simp)]
  simp only
  rw [Dm.tnum_num _ _ (adler_maxU s)]
  unfold topen2
  rw [if_neg (by simp), if_neg (by simp only [ne_eq, Decidable.not_not]; omega)]
theorem topen_big (s : List UInt8) (most : Int) (h : s.length ≤ Dm.maxU) (hm : most < (s.length : Int)) : topen (sld s) most = ([], [], 4) := by
  have e : sld s = Dm.num s.length ++ (s ++ Dm.num (Sm.adler s).toNat) := by simp [sld]
  unfold topen
  rw [e, Dm.ttext_big s _ most h hm]
  unfold topen1
  rw [if_pos (by simp)]
theorem topen_cut (s : List UInt8) (most : Int) (h : s.length ≤ Dm.maxU) (hm : (s.length : Int) ≤ most) (k : Nat) (hk : k < (sld s).length) : topen ((sld s).take k) most = ([], [], 2) := by
  unfold topen
  rcases Nat.lt_or_ge k (Dm.num s.length ++ s).length with a | a
  · have e : (sld s).take k = (Dm.num s.length ++ s).take k := by
      unfold sld; rw [List.take_append_of_le_length (by omega)]
    rw [e, Dm.ttext_cut s most h hm k a]
    unfold topen1
    rw [if_pos (by simp)]
  · have e : (sld s).take k = Dm.num s.length ++ (s ++ (Dm.num (Sm.adler s).toNat).take (k - (Dm.num s.length ++ s).length)) := by
      unfold sld; rw [List.take_append, List.take_of_length_le a]; simp
    rw [e, Dm.ttext_text s _ most h hm]
    unfold topen1
    rw [if_neg (by simp)]
    simp only
    have hk2 : k - (Dm.num s.length ++ s).length < (Dm.num (Sm.adler s).toNat).length := by
      unfold sld at hk; rw [List.length_append] at hk; omega
    rw [Dm.tnum_cut _ (adler_maxU s) _ hk2]
    unfold topen2
    rw [if_pos (by simp)]
end Go.Proofs.Ytodfdklcioafmaa

/- Records in bytes, in plain mathematics: what is opened is what was sealed; what is scanned; a segment's name. -/
namespace Go.Proofs.Ytodfdklcioafmaa
set_option maxRecDepth 100000
set_option linter.unusedVariables false

namespace Dm
theorem digit_dv (c : UInt8) (h : isD c = true) : digit (dv c) = c := by
  rw [isD_iff] at h
  unfold digit dv
  rw [show 48 + (c.toNat - 48) = c.toNat by omega]
  exact UInt8.ofNat_toNat
theorem val_pos (c : UInt8) (l : List UInt8) (hc : isD c = true) (h0 : c.toNat ≠ 48) : 0 < val (c :: l) := by
  rw [val_cons]
  have h1 : 1 ≤ dv c := by rw [isD_iff] at hc; unfold dv; omega
  have h2 : 0 < 10 ^ l.length := Nat.pow_pos (by omega)
  have := Nat.mul_pos h1 h2
  omega
/-- figures without a leading nought are their number's. -/
theorem dg_val : ∀ (n : Nat) (l : List UInt8), l.length = n → l ≠ [] → (∀ c ∈ l, isD c = true) → (1 < l.length → l.head? ≠ some 48) → dg (val l) = l
  | 0, l, hl, hne, _, _ => absurd (List.length_eq_zero_iff.1 hl) hne
  | n + 1, l, hl, hne, hd, hh => by
    obtain ⟨a, c, rfl⟩ : ∃ a c, l = a ++ [c] := ⟨l.dropLast, l.getLast hne, (List.dropLast_concat_getLast hne).symm⟩
    have hc : isD c = true := hd c (by simp)
    have hdc : dv c < 10 := by rw [isD_iff] at hc; unfold dv; omega
    rw [val_snoc, dg_split, show (10 * val a + dv c) / 10 = val a by omega, show (10 * val a + dv c) % 10 = dv c by omega, digit_dv c hc]
    congr 1
    cases a with
    | nil => rfl
    | cons x r =>
      have hh' := hh (by simp)
      have hx : x ≠ 48 := by simpa using hh'
      have hx' : x.toNat ≠ 48 := fun e => hx (UInt8.toNat_inj.1 e)
      have hp := val_pos x r (hd x (by simp)) hx'
      rw [dgz_pos _ (by omega)]
      exact dg_val n (x :: r) (by simp at hl ⊢; omega) (by simp) (fun d h => hd d (List.mem_append_left _ h)) (fun _ => by simpa using hx)

theorem tnum_inv {l r : List UInt8} {v : Nat} (h : tnum l = (v, r, 0)) : l = num v ++ r ∧ v ≤ maxU := by
  unfold tnum at h
  split at h
  · simp at h
  rename_i hb
  split at h
  · simp at h
  rename_i hr
  split at h
  · simp at h
  rename_i hf
  simp only [Prod.mk.injEq, and_true] at h
  obtain ⟨h1, h2⟩ := h
  simp only [not_or, Decidable.not_not, ne_eq] at hf
  obtain ⟨hf1, hf2⟩ := hf
  simp only [bad, Bool.or_eq_true, Bool.and_eq_true, decide_eq_true_eq, not_or, not_and, beq_iff_eq] at hb
  obtain ⟨hb1, hb2⟩ := hb
  have e : figs l ++ rest l = l := figs_rest l
  have er : rest l = 59 :: r := by
    cases hq : rest l with
    | nil => exact absurd hq hr
    | cons x t =>
      rw [hq] at hf1 h2
      simp only [List.head?_cons, Option.some.injEq] at hf1
      simp only [List.tail_cons] at h2
      rw [hf1, h2]
  have ed : dg v = figs l := by
    rw [← h1]
    refine dg_val _ (figs l) rfl hf2 (figs_all l) fun hl => ?_
    have hh := hb1 hl
    intro hq
    refine hh ?_
    cases hfl : figs l with
    | nil => exact absurd hfl hf2
    | cons x t =>
      rw [hfl] at hq e
      rw [← e]
      simpa using hq
  refine ⟨?_, by omega⟩
  rw [← e, er, num, ed]; simp

theorem ttext_inv {l s r : List UInt8} {most : Int} (h : ttext l most = (s, r, 0)) : l = num s.length ++ (s ++ r) ∧ s.length ≤ maxU ∧ (s.length : Int) ≤ most := by
  unfold ttext at h
  split at h
  · rename_i h0
    simp only [Prod.mk.injEq] at h
    exact absurd h.2.2 h0
  rename_i h0
  split at h
  · simp at h
  rename_i h1
  split at h
  · simp at h
  rename_i h2
  simp only [Prod.mk.injEq, and_true] at h
  obtain ⟨e1, e2⟩ := h
  have h3 : (tnum l).2.2 = 0 := by simpa using h0
  have ht : tnum l = ((tnum l).1, (tnum l).2.1, 0) := by rw [← h3]
  obtain ⟨i1, i2⟩ := tnum_inv ht
  have hl : s.length = (tnum l).1 := by rw [← e1, List.length_take]; omega
  refine ⟨?_, by omega, by omega⟩
  rw [hl, ← e1, ← e2, List.take_append_drop]; exact i1
end Dm

/-- what is opened was sealed so. -/
theorem topen_inv {l s r : List UInt8} {most : Int} (h : topen l most = (s, r, 0)) : l = sld s ++ r ∧ s.length ≤ Dm.maxU ∧ (s.length : Int) ≤ most := by
  unfold topen topen1 at h
  split at h
  · rename_i h0
    simp only [Prod.mk.injEq] at h
    exact absurd h.2.2 h0
  rename_i h0
  unfold topen2 at h
  split at h
  · rename_i h1
    simp only [Prod.mk.injEq] at h
    exact absurd h.2.2 h1
  rename_i h1
  split at h
  · simp at h
  rename_i h2
  simp only [Prod.mk.injEq, and_true] at h
  obtain ⟨e1, e2⟩ := h
  have h3 : (Dm.ttext l most).2.2 = 0 := by simpa using h0
  have ht : Dm.ttext l most = ((Dm.ttext l most).1, (Dm.ttext l most).2.1, 0) := by rw [← h3]
  obtain ⟨i1, i2, i3⟩ := Dm.ttext_inv ht
  have h4 : (Dm.tnum (Dm.ttext l most).2.1).2.2 = 0 := by simpa using h1
  have hn : Dm.tnum (Dm.ttext l most).2.1 = ((Dm.tnum (Dm.ttext l most).2.1).1, (Dm.tnum (Dm.ttext l most).2.1).2.1, 0) := by rw [← h4]
  obtain ⟨j1, j2⟩ := Dm.tnum_inv hn
  rw [e1] at i1 i2 i3
  refine ⟨?_, i2, i3⟩
  have hv : (Sm.adler s).toNat = (Dm.tnum (Dm.ttext l most).2.1).1 := by rw [← e1]; simp only [ne_eq, Decidable.not_not] at h2; omega
  rw [e2] at j1
  rw [i1]
  conv => lhs; rw [j1]
  unfold sld
  rw [hv]; simp
theorem topen_err {l : List UInt8} {most : Int} (h : (topen l most).2.2 = 0) : l = sld (topen l most).1 ++ (topen l most).2.1 ∧ (topen l most).1.length ≤ Dm.maxU ∧ ((topen l most).1.length : Int) ≤ most := by
  refine topen_inv ?_
  rw [← h]

theorem sld_four (s : List UInt8) : 4 ≤ (sld s).length := by
  unfold sld Dm.num
  have := Dm.dg_pos s.length
  have := Dm.dg_pos (Sm.adler s).toNat
  simp only [List.length_append, List.length_cons, List.length_nil]; omega
/-- no beginning of a sealed text is opened, whatever the bound. -/
theorem topen_pre (s : List UInt8) (hs : s.length ≤ Dm.maxU) (k : Nat) (hk : k < (sld s).length) (most : Int) : (topen ((sld s).take k) most).2.2 ≠ 0 := by
  intro h
  obtain ⟨h1, h2, h3⟩ := topen_err h
  generalize topen ((sld s).take k) most = x at h1 h2 h3
  have e : sld s = sld x.1 ++ (x.2.1 ++ (sld s).drop k) := by
    conv => lhs; rw [← List.take_append_drop k (sld s), h1]
    simp
  have a1 := topen_sld x.1 (x.2.1 ++ (sld s).drop k) Dm.maxU h2 (by omega)
  have a2 := topen_sld s [] Dm.maxU hs (by omega)
  rw [List.append_nil, e, a1] at a2
  simp only [Prod.mk.injEq, and_true] at a2
  have a3 := congrArg List.length a2.2
  simp only [List.length_append, List.length_drop, List.length_nil] at a3
  omega

/-! ### Scanning -/
def scnF : Nat → List UInt8 → List (List UInt8) × List UInt8
  | 0, l => ([], l)
  | n + 1, l => if (topen l 2048).2.2 = 0 then ((topen l 2048).1 :: (scnF n (topen l 2048).2.1).1, (scnF n (topen l 2048).2.1).2) else ([], l)
/-- the records at the beginning of bytes, and what stands behind them. -/
def scn (l : List UInt8) : List (List UInt8) × List UInt8 := scnF l.length l
def flat (rs : List (List UInt8)) : List UInt8 := (rs.map sld).flatten
theorem flat_nil : flat [] = [] := rfl
theorem flat_cons (r : List UInt8) (rs : List (List UInt8)) : flat (r :: rs) = sld r ++ flat rs := by simp [flat]
theorem flat_app (a b : List (List UInt8)) : flat (a ++ b) = flat a ++ flat b := by simp [flat]
theorem flat_four (rs : List (List UInt8)) : rs.length * 4 ≤ (flat rs).length := by
  induction rs with
  | nil => simp
  | cons r rs ih => rw [flat_cons, List.length_append, List.length_cons]; have := sld_four r; omega
structure Scd (l : List UInt8) (rs : List (List UInt8)) (t : List UInt8) : Prop where
  eq : l = flat rs ++ t
  le : ∀ r ∈ rs, r.length ≤ 2048
  no : (topen t 2048).2.2 ≠ 0
theorem open_one (r : List UInt8) (t : List UInt8) (h : r.length ≤ 2048) : topen (sld r ++ t) 2048 = (r, t, 0) := topen_sld r t 2048 (by unfold Dm.maxU; omega) (by omega)
theorem scnF_eq : ∀ (rs : List (List UInt8)) (n : Nat) (l t : List UInt8), rs.length ≤ n → Scd l rs t → scnF n l = (rs, t)
  | [], 0, l, t, _, h => by have := h.eq; simp [flat_nil] at this; subst this; rfl
  | [], n + 1, l, t, _, h => by
    have e := h.eq; simp [flat_nil] at e; subst e
    unfold scnF; rw [if_neg h.no]
  | r :: rs, 0, l, t, hn, h => by simp at hn
  | r :: rs, n + 1, l, t, hn, h => by
    have e := h.eq
    rw [flat_cons, List.append_assoc] at e
    have ho := open_one r (flat rs ++ t) (h.le r (by simp))
    rw [← e] at ho
    have hi := scnF_eq rs n (flat rs ++ t) t (by simp at hn; omega) ⟨rfl, fun x hx => h.le x (List.mem_cons_of_mem _ hx), h.no⟩
    unfold scnF
    rw [ho]
    simp [hi]
theorem Scd.scn {l t : List UInt8} {rs : List (List UInt8)} (h : Scd l rs t) : scn l = (rs, t) := by
  refine scnF_eq rs l.length l t ?_ h
  have h1 := congrArg List.length h.eq
  have h2 := flat_four rs
  rw [List.length_append] at h1
  omega
theorem topen_nil : (topen [] 2048).2.2 ≠ 0 := by decide
theorem scdF : ∀ (n : Nat) (l : List UInt8), l.length ≤ n → Scd l (scnF n l).1 (scnF n l).2
  | 0, l, h => by
    have : l = [] := List.length_eq_zero_iff.1 (by omega)
    subst this
    exact ⟨rfl, by simp [scnF], topen_nil⟩
  | n + 1, l, h => by
    by_cases h0 : (topen l 2048).2.2 = 0
    · obtain ⟨h1, h2, h3⟩ := topen_err h0
      have e : scnF (n + 1) l = ((topen l 2048).1 :: (scnF n (topen l 2048).2.1).1, (scnF n (topen l 2048).2.1).2) := by rw [scnF, if_pos h0]
      rw [e]
      generalize topen l 2048 = x at h1 h2 h3 h0
      have h4 := congrArg List.length h1
      have h5 := sld_four x.1
      rw [List.length_append] at h4
      have ih := scdF n x.2.1 (by omega)
      refine ⟨?_, fun r hr => ?_, ih.no⟩
      · rw [flat_cons, List.append_assoc, ← ih.eq]; exact h1
      · rcases List.mem_cons.1 hr with rfl | hr
        · omega
        · exact ih.le r hr
    · have e : scnF (n + 1) l = ([], l) := by rw [scnF, if_neg h0]
      rw [e]
      exact ⟨rfl, by simp, h0⟩
theorem scd (l : List UInt8) : Scd l (scn l).1 (scn l).2 := scdF _ l (Nat.le_refl _)
theorem scn_yes {l s r : List UInt8} (h : topen l 2048 = (s, r, 0)) : scn l = (s :: (scn r).1, (scn r).2) := by
  obtain ⟨h1, h2, h3⟩ := topen_inv h
  have hr := scd r
  refine Scd.scn ⟨?_, fun x hx => ?_, hr.no⟩
  · rw [flat_cons, List.append_assoc, ← hr.eq]; exact h1
  · rcases List.mem_cons.1 hx with rfl | hx
    · omega
    · exact hr.le x hx
theorem scn_no {l : List UInt8} (h : (topen l 2048).2.2 ≠ 0) : scn l = ([], l) := Scd.scn ⟨rfl, by simp, h⟩
theorem scn_le (l : List UInt8) : (scn l).2.length ≤ l.length := by
  have := congrArg List.length (scd l).eq
  rw [List.length_append] at this; omega
/-- how many bytes were scanned. -/
def used (l : List UInt8) : Nat := l.length - (scn l).2.length
theorem used_flat (l : List UInt8) : used l = (flat (scn l).1).length := by
  have := congrArg List.length (scd l).eq
  rw [List.length_append] at this; unfold used; omega
theorem used_le (l : List UInt8) : used l ≤ l.length := by unfold used; omega
theorem take_used (l : List UInt8) : l.take (used l) = flat (scn l).1 := by
  rw [used_flat]
  conv => lhs; arg 2; rw [(scd l).eq]
  exact List.take_left' rfl
/-- records ahead of whatever bytes. -/
theorem scn_app (rs : List (List UInt8)) (h : ∀ r ∈ rs, r.length ≤ 2048) (b : List UInt8) : scn (flat rs ++ b) = (rs ++ (scn b).1, (scn b).2) := by
  have hb := scd b
  refine Scd.scn ⟨?_, fun x hx => ?_, hb.no⟩
  · rw [flat_app, List.append_assoc, ← hb.eq]
  · rcases List.mem_append.1 hx with hx | hx
    · exact h x hx
    · exact hb.le x hx
theorem scn_flat (rs : List (List UInt8)) (h : ∀ r ∈ rs, r.length ≤ 2048) : scn (flat rs) = (rs, []) := by
  have := scn_app rs h []
  rw [List.append_nil, scn_no topen_nil] at this
  simpa using this
/-- a beginning of a sealed text. -/
def Part (q : List UInt8) : Prop := ∃ r : List UInt8, r.length ≤ Dm.maxU ∧ ∃ k, k < (sld r).length ∧ q = (sld r).take k
theorem Part.nil : Part [] := ⟨[], by simp, 0, by have := sld_four []; omega, rfl⟩
theorem Part.pre {q p : List UInt8} (h : Part q) (hp : p <+: q) : Part p := by
  obtain ⟨r, hr, k, hk, rfl⟩ := h
  obtain ⟨t, ht⟩ := hp
  have hl := congrArg List.length ht
  rw [List.length_append, List.length_take] at hl
  refine ⟨r, hr, p.length, by omega, ?_⟩
  have e : p = ((sld r).take k).take p.length := by rw [← ht]; simp
  rw [List.take_take, Nat.min_eq_left (by omega)] at e
  exact e
theorem Part.no {q : List UInt8} (h : Part q) : (topen q 2048).2.2 ≠ 0 := by
  obtain ⟨r, hr, k, hk, rfl⟩ := h
  exact topen_pre r hr k hk 2048
theorem scn_part (rs : List (List UInt8)) (h : ∀ r ∈ rs, r.length ≤ 2048) {q : List UInt8} (hq : Part q) : scn (flat rs ++ q) = (rs, q) := by
  rw [scn_app rs h q, scn_no hq.no]; simp
/-- a beginning of records and a part of one is so, too. -/
theorem pre_part : ∀ (rs : List (List UInt8)) (q p : List UInt8), (∀ r ∈ rs, r.length ≤ 2048) → Part q → p <+: flat rs ++ q → ∃ us q', us <+: rs ∧ Part q' ∧ p = flat us ++ q'
  | [], q, p, _, hq, hp => by
    rw [flat_nil, List.nil_append] at hp
    exact ⟨[], p, List.prefix_refl _, hq.pre hp, by simp [flat_nil]⟩
  | r :: rs, q, p, hr, hq, hp => by
    rw [flat_cons, List.append_assoc] at hp
    rcases Nat.lt_or_ge p.length (sld r).length with a | a
    · refine ⟨[], p, List.nil_prefix, ⟨r, by have := hr r (by simp); unfold Dm.maxU; omega, p.length, a, ?_⟩, by simp [flat_nil]⟩
      exact List.prefix_iff_eq_take.1 (List.prefix_of_prefix_length_le hp (List.prefix_append _ _) (by omega))
    · have h1 : sld r <+: p := List.prefix_of_prefix_length_le (List.prefix_append _ _) hp a
      obtain ⟨p', rfl⟩ := h1
      have h2 : p' <+: flat rs ++ q := (List.prefix_append_right_inj _).1 hp
      obtain ⟨us, q', u1, u2, u3⟩ := pre_part rs q p' (fun x hx => hr x (List.mem_cons_of_mem _ hx)) hq h2
      refine ⟨r :: us, q', ?_, u2, by rw [flat_cons, List.append_assoc, ← u3]⟩
      exact (List.prefix_cons_inj r).2 u1

/-! ### Names -/
def segOk (seg : Int) : Prop := 1 ≤ seg ∧ seg ≤ 1000000
instance (seg : Int) : Decidable (segOk seg) := by unfold segOk; infer_instance
/-- a segment's name. -/
def nam (seg : Int) : List UInt8 := if segOk seg then 119 :: Dm.dg seg.toNat else []
def namB (seg : Int) : ByteArray := ⟨(nam seg).toArray⟩
def freshB : ByteArray := ⟨#[119, 46, 110, 101, 119]⟩
theorem nam_ok {seg : Int} (h : segOk seg) : nam seg = 119 :: Dm.dg seg.toNat := if_pos h
theorem nam_no {seg : Int} (h : ¬ segOk seg) : nam seg = [] := if_neg h
theorem namB_no {seg : Int} (h : ¬ segOk seg) : namB seg = ⟨#[]⟩ := by unfold namB; rw [nam_no h]
theorem nam_inj {a b : Int} (ha : segOk a) (hb : segOk b) (h : nam a = nam b) : a = b := by
  rw [nam_ok ha, nam_ok hb] at h
  have h1 := congrArg Dm.val (List.cons.inj h).2
  rw [Dm.val_dg, Dm.val_dg] at h1
  have h2 := ha.1; have h3 := hb.1
  omega
theorem namB_list (a : Int) : (namB a).data.toList = nam a := rfl
theorem namB_inj {a b : Int} (ha : segOk a) (hb : segOk b) (h : namB a = namB b) : a = b := nam_inj ha hb (by rw [← namB_list, ← namB_list, h])
theorem namB_size (a : Int) : (namB a).size = (nam a).length := by show (nam a).toArray.size = _; simp
theorem nam_len {a : Int} (h : segOk a) : 2 ≤ (nam a).length ∧ (nam a).length ≤ 8 := by
  rw [nam_ok h]
  have h1 := Dm.dg_pos a.toNat
  have h2 := Dm.dg_length_lt 7 a.toNat (by have := h.2; omega) (by omega)
  simp only [List.length_cons]; omega
theorem namB_ok {a : Int} (h : segOk a) : 2 ≤ (namB a).size ∧ (namB a).size ≤ 8 := by rw [namB_size]; exact nam_len h
theorem namB_fresh {a : Int} (h : segOk a) : namB a ≠ freshB := by
  intro e
  have e1 : nam a = [119, 46, 110, 101, 119] := by rw [← namB_list, e]; rfl
  rw [nam_ok h] at e1
  have e2 := (List.cons.inj e1).2
  have := Dm.all_dg a.toNat 46 (by rw [e2]; simp)
  exact absurd this (by decide)
theorem namB_emp {a : Int} (h : segOk a) : namB a ≠ ⟨#[]⟩ := by
  intro e
  have := (namB_ok h).1
  rw [e] at this
  exact absurd this (by decide)
end Go.Proofs.Ytodfdklcioafmaa

/- Rows of the call's own, whatever their elements: many cells written at once, a row cut short. -/
namespace Go.Proofs.Ytodfdklcioafmaa
set_option maxRecDepth 100000
open Go.RowKit
set_option linter.unusedVariables false

theorem owns_setCells {e : TypeId} {sz base g n c : Nat} : ∀ (vs : List Value) (o : Nat) (w : World) (xs : List Value), w.ownsRow base e sz (.slice (some ⟨g, 0, none⟩) n c) n xs → o + vs.length ≤ xs.length →
    (w.setCells g o vs).ownsRow base e sz (.slice (some ⟨g, 0, none⟩) n c) n (xs.take o ++ vs ++ xs.drop (o + vs.length))
  | [], o, w, xs, h, hl => by simpa [World.setCells] using h
  | v :: r, o, w, xs, h, hl => by
    simp only [List.length_cons] at hl
    have h1 := (World.ownsRow.stored h o v).1
    have h2 := owns_setCells r (o + 1) (w.setCell ⟨g, o, none⟩ v) (xs.set o v) h1 (by simp; omega)
    have e : (xs.set o v).take (o + 1) ++ r ++ (xs.set o v).drop (o + 1 + r.length) = xs.take o ++ (v :: r) ++ xs.drop (o + (v :: r).length) := by
      have ho : o < xs.length := by omega
      rw [List.take_succ_eq_append_getElem (by simpa using ho), List.take_set_of_le (Nat.le_refl _), List.getElem_set_self, List.drop_set_of_lt (by omega), List.length_cons]
      simp [Nat.add_assoc, Nat.add_comm 1]
    rw [e] at h2
    exact h2
theorem owns_short {e : TypeId} {sz base g n c m : Nat} {w : World} {xs : List Value} (h : w.ownsRow base e sz (.slice (some ⟨g, 0, none⟩) n c) n xs) (hm : m ≤ n) :
    w.ownsRow base e sz (.slice (some ⟨g, 0, none⟩) m c) m (xs.take (m * sz)) := by
  have hmn : m * sz ≤ n * sz := Nat.mul_le_mul_right _ hm
  rcases h.2 with ⟨e0, h0⟩ | ⟨g', cap, cur, e0, hg, hh, hc, hmx, hs, ht⟩
  · cases e0
  · injection e0 with e1 e2 e3
    refine ⟨by rw [List.length_take, h.1]; omega, .inr ⟨g', cap, cur, by rw [e1, e3], hg, hh, by omega, hmx, hs, ?_⟩⟩
    rw [← ht, List.take_take, Nat.min_eq_left hmn]

/-- nothing that was there has turned but block g. -/
theorem only_refl (a : World) (g : Nat) : a.grownBy a (some g) := ⟨rfl, rfl, rfl, Nat.le_refl _, fun _ _ _ => rfl⟩
theorem only_drew {a w : World} {g : Nat} (h : a.grownBy w (some g)) : a.grownBy w.drew (some g) := ⟨h.os, h.tape, h.output, h.size, h.block⟩
theorem only_set {a w : World} {g : Nat} (h : a.grownBy w (some g)) (o : Nat) (u : Value) : a.grownBy (w.setCell ⟨g, o, none⟩ u) (some g) :=
  ⟨h.os, h.tape, h.output, by simpa [World.setCell] using h.size, fun i hi hne => (Below.heap_setCell w ⟨g, o, none⟩ u i (by rintro rfl; exact hne rfl)).trans (h.block i hi hne)⟩
theorem only_sets {a : World} {g : Nat} : ∀ (vs : List Value) (o : Nat) (w : World), a.grownBy w (some g) → a.grownBy (w.setCells g o vs) (some g)
  | [], o, w, h => h
  | v :: r, o, w, h => only_sets r (o + 1) _ (only_set h o v)
theorem only_q {a b : World} {g : Nat} (h : Q a b) : a.grownBy b (some g) := ⟨h.below.os, h.below.tape, h.below.output, h.below.size, fun i hi _ => h.below.block i hi⟩
theorem only_new {a w : World} {g : Nat} (h : a.grownBy w (some g)) {p : Addr} (hp : a.heap.size ≤ p.block) (u : Value) : a.grownBy (w.setCell p u) (some g) :=
  ⟨h.os, h.tape, h.output, by simpa [World.setCell] using h.size, fun i hi hne => (Below.heap_setCell w p u i (by omega)).trans (h.block i hi hne)⟩
theorem only_below {a w : World} {g B : Nat} (h : a.grownBy w (some g)) (hb : B ≤ g) (hB : B ≤ a.heap.size) : Below B a w :=
  ⟨h.os, h.tape, h.output, h.size, fun i hi => h.block i (by omega) (by intro e; injection e; omega)⟩
theorem only_cell {a w : World} {g : Nat} (h : a.grownBy w (some g)) {p : Addr} (hp : p.block < a.heap.size) (hne : p.block ≠ g) : w.cell? p = a.cell? p := World.cell?_of_block (h.block p.block hp (fun e => hne (by injection e)))
end Go.Proofs.Ytodfdklcioafmaa

/- Boxes: what lies in a block of three or four cells, and may be written. -/
namespace Go.Proofs.Ytodfdklcioafmaa
set_option maxRecDepth 100000
open Go.RowKit Dkm
set_option linter.unusedVariables false

/-- the cells of block b hold these values, and may be written. -/
def Bx (w : World) (b : Nat) (vs : List Value) : Prop := ∀ j v, vs[j]? = some v → w.cell? ⟨b, j, none⟩ = some v ∧ w.frozen? ⟨b, j, none⟩ = false

theorem Bx.new (w : World) (cs : List Value) (t : TypeId) : Bx (w.alloc (.cells cs.toArray t)) w.heap.size cs := fun j v h => by
  have e := heap_alloc_new w (.cells cs.toArray t)
  exact ⟨(cell_of_row _ _ j _ t (0, 0) e).trans (by simpa using h), frozen_of_row _ _ j _ t e⟩
theorem Bx.lt {w : World} {b : Nat} {v : Value} {vs : List Value} (h : Bx w b (v :: vs)) : b < w.heap.size := block_lt_of_cell (h 0 v rfl).1
theorem Bx.below {w w' : World} {b B : Nat} {vs : List Value} (h : Bx w b vs) (hb : Below B w w') (hB : b < B) : Bx w' b vs := fun j v hj =>
  ⟨(hb.cell (p := ⟨b, j, none⟩) hB).trans (h j v hj).1, (hb.frozen (p := ⟨b, j, none⟩) hB).trans (h j v hj).2⟩
theorem Bx.q {w w' : World} {b : Nat} {vs : List Value} (h : Bx w b vs) (hq : Q w w') : Bx w' b vs := fun j v hj => by
  have hb : b < w.heap.size := block_lt_of_cell (h j v hj).1
  exact ⟨(hq.below.cell (p := ⟨b, j, none⟩) hb).trans (h j v hj).1, (hq.below.frozen (p := ⟨b, j, none⟩) hb).trans (h j v hj).2⟩
theorem Bx.alloc {w : World} {b : Nat} {vs : List Value} (h : Bx w b vs) (o : Obj) : Bx (w.alloc o) b vs := h.q ((Q.refl _).alloc o)
theorem Bx.drew {w : World} {b : Nat} {vs : List Value} (h : Bx w b vs) : Bx w.drew b vs := h
theorem Bx.far {w : World} {b : Nat} {vs : List Value} (h : Bx w b vs) {p : Addr} (hp : p.block ≠ b) (u : Value) : Bx (w.setCell p u) b vs := fun j v hj =>
  ⟨(World.cell?_setCell_other _ _ _ _ (by rintro rfl; exact hp rfl)).trans (h j v hj).1, by rw [World.frozen?_setCell]; exact (h j v hj).2⟩
theorem Bx.set {w : World} {b : Nat} {vs : List Value} (h : Bx w b vs) {k : Nat} (hk : k < vs.length) (u : Value) : Bx (w.setCell ⟨b, k, none⟩ u) b (vs.set k u) := fun j v hj => by
  rw [World.frozen?_setCell]
  by_cases e : k = j
  · subst e
    rw [World.cell?_setCell_same _ _ _ (h k _ (List.getElem?_eq_getElem hk)).1]
    simp only [List.getElem?_set_self hk] at hj
    exact ⟨hj, (h k _ (List.getElem?_eq_getElem hk)).2⟩
  · rw [World.cell?_setCell_other _ _ _ _ (by intro he; injection he with _ he; exact e he)]
    rw [List.getElem?_set_ne e] at hj
    exact h j v hj
theorem Bx.put4 {w : World} {b : Nat} {x y z u : Value} (h : Bx w b [x, y, z, u]) (x' y' z' u' : Value) : Bx ((((w.setCell ⟨b, 0, none⟩ x').setCell ⟨b, 1, none⟩ y').setCell ⟨b, 2, none⟩ z').setCell ⟨b, 3, none⟩ u') b [x', y', z', u'] :=
  (((h.set (k := 0) (by simp) x').set (k := 1) (by simp) y').set (k := 2) (by simp) z').set (k := 3) (by simp) u'
theorem Bx.far4 {w : World} {b c : Nat} {vs : List Value} (h : Bx w b vs) (hc : c ≠ b) (x' y' z' u' : Value) : Bx ((((w.setCell ⟨c, 0, none⟩ x').setCell ⟨c, 1, none⟩ y').setCell ⟨c, 2, none⟩ z').setCell ⟨c, 3, none⟩ u') b vs :=
  (((h.far (p := ⟨c, 0, none⟩) hc x').far (p := ⟨c, 1, none⟩) hc y').far (p := ⟨c, 2, none⟩) hc z').far (p := ⟨c, 3, none⟩) hc u'
theorem Bx.get3 {w : World} {b : Nat} {x y z : Value} (h : Bx w b [x, y, z]) : (w.cell? ⟨b, 0, none⟩ = some x ∧ w.cell? ⟨b, 1, none⟩ = some y ∧ w.cell? ⟨b, 2, none⟩ = some z) ∧ w.frozen? ⟨b, 0, none⟩ = false ∧ w.frozen? ⟨b, 1, none⟩ = false ∧ w.frozen? ⟨b, 2, none⟩ = false :=
  ⟨⟨(h 0 _ rfl).1, (h 1 _ rfl).1, (h 2 _ rfl).1⟩, (h 0 _ rfl).2, (h 1 _ rfl).2, (h 2 _ rfl).2⟩
theorem Bx.get4 {w : World} {b : Nat} {x y z u : Value} (h : Bx w b [x, y, z, u]) : (w.cell? ⟨b, 0, none⟩ = some x ∧ w.cell? ⟨b, 1, none⟩ = some y ∧ w.cell? ⟨b, 2, none⟩ = some z ∧ w.cell? ⟨b, 3, none⟩ = some u) ∧
    w.frozen? ⟨b, 0, none⟩ = false ∧ w.frozen? ⟨b, 1, none⟩ = false ∧ w.frozen? ⟨b, 2, none⟩ = false ∧ w.frozen? ⟨b, 3, none⟩ = false :=
  ⟨⟨(h 0 _ rfl).1, (h 1 _ rfl).1, (h 2 _ rfl).1, (h 3 _ rfl).1⟩, (h 0 _ rfl).2, (h 1 _ rfl).2, (h 2 _ rfl).2, (h 3 _ rfl).2⟩
theorem Own.set4 {w : World} {base : Nat} {A : Option Addr} {n c : Nat} {l : List Fil} (h : Own w base A n c l) {b : Nat} (hp : b < base) (x y z u : Value) : Own ((((w.setCell ⟨b, 0, none⟩ x).setCell ⟨b, 1, none⟩ y).setCell ⟨b, 2, none⟩ z).setCell ⟨b, 3, none⟩ u) base A n c l :=
  (((h.setCell (p := ⟨b, 0, none⟩) hp x).setCell (p := ⟨b, 1, none⟩) hp y).setCell (p := ⟨b, 2, none⟩) hp z).setCell (p := ⟨b, 3, none⟩) hp u

/-- Two boxes of disks: the variable's and the result's. -/
theorem two_new (w : World) (x y z u x' y' z' u' : Value) (t : TypeId) :
    Bx ((w.alloc (.cells #[x, y, z, u] t)).alloc (.cells #[x', y', z', u'] t)) w.heap.size [x, y, z, u] ∧ Bx ((w.alloc (.cells #[x, y, z, u] t)).alloc (.cells #[x', y', z', u'] t)) (w.heap.size + 1) [x', y', z', u'] := by
  refine ⟨(Bx.new w [x, y, z, u] t).alloc _, ?_⟩
  have := Bx.new (w.alloc (.cells #[x, y, z, u] t)) [x', y', z', u'] t
  simpa using this
theorem size_two (w : World) (o o' : Obj) : ((w.alloc o).alloc o').heap.size = w.heap.size + 2 := by simp

end Go.Proofs.Ytodfdklcioafmaa

/- Contracts: open, change, Sync, Arm, New. -/
namespace Go.Proofs.Ytodfdklcioafmaa
set_option maxRecDepth 100000
open Go.RowKit Dkm
set_option linter.unusedVariables false

/-- a disk, and why not, in memory of the call's own. -/
def RetDE (w : World) (d : Dk) (er : Int) (e : Ending) (w' : World) : Prop :=
  ∃ A' n' c', e = .returned (.tuple #[dkv A' n' c' d.room d.fuse d.off, .int .i64 er]) ∧ Own w' w.heap.size A' n' c' d.fs ∧ Q w w'

set_option maxHeartbeats 1000000 in
theorem open_any (nm : ByteArray) (A : Option Addr) (n c : Nat) (room fuse : Int) (off : Bool) (l : List Fil) (w : World) (hf : Files w A n l) (hn : n ≤ maxLen) :
    Calls Try.prog 61 #[dkv A n c room fuse off, .string nm] w fun e w' => e = .returned (.tuple #[(opn nm l).1.val, .int .i64 (opn nm l).2]) ∧ Q w w' := by
  have HF := Lib.hid hf
  have HN := Lib.hid hn
  have HL := Lib.hid hf.len
  unfold maxLen at hn
  clear hf
  rcases plc_cases nm l with ⟨hp, hall⟩ | ⟨k, hk, hp, hkn, hfirst⟩
  · rw [opn_none hall, HL.out]
    have HP := Lib.hid hp
    clear hp hall
    go_enter Try.func61, Try.ntmps61
    go_wp2_with fail
    refine (place nm A n c room fuse off l _ (HF.out.q (((Q.refl _).alloc _).alloc _)) HN.out).mono ?_
    rintro e w1 ⟨rfl, q1⟩
    rw [HP.out]
    obtain ⟨e0, e1, e2, e3⟩ := box4 q1 (b := w.heap.size) (x := .slice A n c) (y := .int .i64 room) (z := .int .i64 fuse) (u := .bool off) (by simp) (by simp) (by simp) (by simp)
    obtain ⟨r0, r1, r2⟩ := box3 q1 (b := w.heap.size + 1) (x := .string ⟨#[]⟩) (y := .string ⟨#[]⟩) (z := .string ⟨#[]⟩) (by simp) (by simp) (by simp)
    obtain ⟨hc, hz⟩ := bcell q1.below
    clear hc
    go_wp2
    go_region
    all_goals (try go_wp2)
    all_goals exact bodyPost_ret (v := .tuple #[Fil.val ⟨nm, ⟨#[]⟩, ⟨#[]⟩⟩, .int .i64 n]) (by simp [results, Try.results61, go_sem, r0, r1, r2]) rfl ⟨rfl, ((((Q.refl _).alloc _).alloc _).trans q1).drew.set3 (by simp) _ _ _⟩
  · rw [opn_at hk hkn hfirst]
    have hkn' : k < n := by have := HL.out; omega
    have HP := Lib.hid hp
    clear hp hkn hfirst
    go_enter Try.func61, Try.ntmps61
    go_wp2_with fail
    refine (place nm A n c room fuse off l _ (HF.out.q (((Q.refl _).alloc _).alloc _)) HN.out).mono ?_
    rintro e w1 ⟨rfl, q1⟩
    rw [HP.out]
    obtain ⟨ad, rfl, hb, c0, c1, c2⟩ := (HF.out.q ((((Q.refl _).alloc _).alloc _).trans q1)).load hkn' hk
    obtain ⟨e0, e1, e2, e3⟩ := box4 q1 (b := w.heap.size) (x := .slice (some ad) n c) (y := .int .i64 room) (z := .int .i64 fuse) (u := .bool off) (by simp) (by simp) (by simp) (by simp)
    obtain ⟨r0, r1, r2⟩ := box3 q1 (b := w.heap.size + 1) (x := .string ⟨#[]⟩) (y := .string ⟨#[]⟩) (z := .string ⟨#[]⟩) (by simp) (by simp) (by simp)
    obtain ⟨hc, hz⟩ := bcell q1.below
    clear hc
    go_wp2
    exact bodyPost_ret (v := .tuple #[(l[k]).val, .int .i64 k]) (by simp [results, Try.results61, go_sem, r0, r1, r2]) rfl ⟨rfl, ((((Q.refl _).alloc _).alloc _).trans q1).set3 (by simp) _ _ _⟩

theorem change_none (A : Option Addr) (n c : Nat) (room fuse at_ : Int) (w : World) (h1 : at_ < 0) :
    Calls Try.prog 59 #[dkv A n c room fuse false, .int .i64 at_] w fun e w' => e = .returned (.tuple #[dkv A n c room (fuse) false, .int .i64 7]) ∧ Q w w' := by
  go_enter Try.func59, Try.ntmps59
  go_wp2
  exact bodyPost_ret (v := .tuple #[dkv A n c room (fuse) false, .int .i64 7]) (by simp [results, Try.results59, go_sem]) rfl ⟨rfl, ((Q.refl _).alloc _).alloc _⟩

theorem change_zero (A : Option Addr) (n c : Nat) (room fuse at_ : Int) (w : World) (h1 : 0 ≤ at_) (h2 : fuse = 0) :
    Calls Try.prog 59 #[dkv A n c room fuse false, .int .i64 at_] w fun e w' => e = .returned (.tuple #[dkv A n c room (0) true, .int .i64 6]) ∧ Q w w' := by
  subst h2
  go_enter Try.func59, Try.ntmps59
  go_wp2
  exact bodyPost_ret (v := .tuple #[dkv A n c room (0) true, .int .i64 6]) (by simp [results, Try.results59, go_sem]) rfl ⟨rfl, ((Q.refl _).alloc _).alloc _⟩

theorem change_pos (A : Option Addr) (n c : Nat) (room fuse at_ : Int) (w : World) (h1 : 0 ≤ at_) (h2 : 0 < fuse) (h3 : fuse ≤ 9223372036854775807) :
    Calls Try.prog 59 #[dkv A n c room fuse false, .int .i64 at_] w fun e w' => e = .returned (.tuple #[dkv A n c room (fuse - 1) false, .int .i64 0]) ∧ Q w w' := by
  have hz : (fuse == 0) = false := by simp; omega
  go_enter Try.func59, Try.ntmps59
  go_wp2
  exact bodyPost_ret (v := .tuple #[dkv A n c room (fuse - 1) false, .int .i64 0]) (by simp [results, Try.results59, go_sem]) rfl ⟨rfl, ((Q.refl _).alloc _).alloc _⟩

theorem change_neg (A : Option Addr) (n c : Nat) (room fuse at_ : Int) (w : World) (h1 : 0 ≤ at_) (h2 : fuse < 0) :
    Calls Try.prog 59 #[dkv A n c room fuse false, .int .i64 at_] w fun e w' => e = .returned (.tuple #[dkv A n c room (fuse) false, .int .i64 0]) ∧ Q w w' := by
  have hz : (fuse == 0) = false := by simp; omega
  go_enter Try.func59, Try.ntmps59
  go_wp2
  exact bodyPost_ret (v := .tuple #[dkv A n c room (fuse) false, .int .i64 0]) (by simp [results, Try.results59, go_sem]) rfl ⟨rfl, ((Q.refl _).alloc _).alloc _⟩

theorem change_off1 (A : Option Addr) (n c : Nat) (room fuse at_ : Int) (w : World) (h1 : at_ < 0) :
    Calls Try.prog 59 #[dkv A n c room fuse true, .int .i64 at_] w fun e w' => e = .returned (.tuple #[dkv A n c room (fuse) true, .int .i64 6]) ∧ Q w w' := by
  go_enter Try.func59, Try.ntmps59
  go_wp2
  exact bodyPost_ret (v := .tuple #[dkv A n c room (fuse) true, .int .i64 6]) (by simp [results, Try.results59, go_sem]) rfl ⟨rfl, ((Q.refl _).alloc _).alloc _⟩

theorem change_off2 (A : Option Addr) (n c : Nat) (room fuse at_ : Int) (w : World) (h1 : 0 ≤ at_) :
    Calls Try.prog 59 #[dkv A n c room fuse true, .int .i64 at_] w fun e w' => e = .returned (.tuple #[dkv A n c room (fuse) true, .int .i64 6]) ∧ Q w w' := by
  go_enter Try.func59, Try.ntmps59
  go_wp2
  exact bodyPost_ret (v := .tuple #[dkv A n c room (fuse) true, .int .i64 6]) (by simp [results, Try.results59, go_sem]) rfl ⟨rfl, ((Q.refl _).alloc _).alloc _⟩


theorem change_any (A : Option Addr) (n c : Nat) (room fuse : Int) (off : Bool) (at_ : Int) (w : World) (hf : fuse ≤ 9223372036854775807) :
    Calls Try.prog 59 #[dkv A n c room fuse off, .int .i64 at_] w fun e w' => e = .returned (.tuple #[dkv A n c room (chg at_ fuse off).1 (chg at_ fuse off).2.1, .int .i64 (chg at_ fuse off).2.2]) ∧ Q w w' := by
  cases off
  · by_cases h1 : at_ < 0
    · rw [show chg at_ fuse false = (fuse, false, 7) by simp [chg, h1]]
      exact change_none A n c room fuse at_ w h1
    · rcases Int.lt_trichotomy fuse 0 with h2 | h2 | h2
      · rw [show chg at_ fuse false = (fuse, false, 0) by unfold chg; rw [if_neg (by simp; omega), if_neg (by simp; omega), if_neg (by omega)]]
        exact change_neg A n c room fuse at_ w (by omega) h2
      · subst h2
        rw [show chg at_ 0 false = (0, true, 6) by unfold chg; rw [if_neg (by simp; omega), if_pos (by simp)]]
        exact change_zero A n c room 0 at_ w (by omega) rfl
      · rw [show chg at_ fuse false = (fuse - 1, false, 0) by unfold chg; rw [if_neg (by simp; omega), if_neg (by simp; omega), if_pos h2]]
        exact change_pos A n c room fuse at_ w (by omega) h2 hf
  · rw [show chg at_ fuse true = (fuse, true, 6) by simp [chg]]
    by_cases h1 : at_ < 0
    · exact change_off1 A n c room fuse at_ w h1
    · exact change_off2 A n c room fuse at_ w (by omega)

set_option maxHeartbeats 2000000 in
theorem sync_off (nm : ByteArray) (A : Option Addr) (n c : Nat) (room fuse : Int) (l : List Fil) (w : World) (hd : Dsk w A n c l) (p : Int) (hp : plc nm l 0 = p) :
    Calls Try.prog 31 #[dkv A n c room fuse true, .string nm] w fun e w' => RetDE w ⟨l, room, fuse, true⟩ 6 e w' := by
  have HD := Lib.hid hd
  have HN := Lib.hid hd.max
  have HP := Lib.hid hp
  clear hd hp
  go_enter Try.func31, Try.ntmps31
  go_wp2_with fail
  have B0 := two_new w (.slice A n c) (.int .i64 room) (.int .i64 fuse) (.bool true) (.slice none 0 0) (.int .i64 0) (.int .i64 0) (.bool false) 24
  refine (own_any A n c room fuse true l _ (HD.out.q (((Q.refl _).alloc _).alloc _))).mono ?_
  rintro e w1 ⟨A1, c1, rfl, ho, q1⟩
  rw [size_two] at ho
  have HO := Lib.hid (ho.set4 (b := w.heap.size) (by omega) (.slice A1 n c1) (.int .i64 room) (.int .i64 fuse) (.bool true))
  have D1 := Lib.hid ((B0.1.q q1).put4 (.slice A1 n c1) (.int .i64 room) (.int .i64 fuse) (.bool true))
  have R1 := Lib.hid ((B0.2.q q1).far4 (c := w.heap.size) (by omega) (.slice A1 n c1) (.int .i64 room) (.int .i64 fuse) (.bool true))
  have Q1 := Lib.hid ((((((Q.refl w).alloc _).alloc _).trans q1)).set4 (b := w.heap.size) (Nat.le_refl _) (.slice A1 n c1) (.int .i64 room) (.int .i64 fuse) (.bool true))
  obtain ⟨⟨e0, e1, e2, e3⟩, f0, f1, f2, f3⟩ := (B0.1.q q1).get4
  clear B0 q1 ho
  go_wp2_with fail
  refine (place nm A1 n c1 room fuse true l _ HO.out.files HN.out).mono ?_
  rintro e w2 ⟨rfl, q2⟩
  rw [HP.out]
  have HO2 := Lib.hid (HO.out.q q2)
  have Q2 := Lib.hid (Q1.out.trans q2)
  have z0 : w.heap.size < w2.heap.size := (D1.out.q q2).lt
  have z1 : w.heap.size + 1 < w2.heap.size := (R1.out.q q2).lt
  have z2 : w.heap.size ≠ w2.heap.size := by omega
  have z3 : w.heap.size + 1 ≠ w2.heap.size := by omega
  have D2 := Lib.hid (D1.out.q q2)
  have R2 := Lib.hid (R1.out.q q2)
  obtain ⟨⟨d0, d1, d2, d3⟩, g0, g1, g2, g3⟩ := (D1.out.q q2).get4
  obtain ⟨⟨s0, s1, s2, s3⟩, h0, h1, h2, h3⟩ := (R1.out.q q2).get4
  clear q2 e0 e1 e2 e3 f0 f1 f2 f3
  go_wp2
  refine bodyPost_ret (v := .tuple #[dkv A1 n c1 room fuse true, .int .i64 6]) (by simp [results, Try.results31, go_sem, s0, s1, s2, s3]) rfl ⟨A1, n, c1, rfl, (HO2.out.set4 (b := w.heap.size + 1) (by omega) _ _ _ _).lower (by omega), Q2.out.set4 (b := w.heap.size + 1) (by omega) _ _ _ _⟩

set_option maxHeartbeats 2000000 in
theorem sync_none (nm : ByteArray) (A : Option Addr) (n c : Nat) (room fuse : Int) (l : List Fil) (w : World) (hd : Dsk w A n c l) (hp : plc nm l 0 = -1) :
    Calls Try.prog 31 #[dkv A n c room fuse false, .string nm] w fun e w' => RetDE w ⟨l, room, fuse, false⟩ 7 e w' := by
  have HD := Lib.hid hd
  have HN := Lib.hid hd.max
  have HP := Lib.hid hp
  clear hd hp
  go_enter Try.func31, Try.ntmps31
  go_wp2_with fail
  have B0 := two_new w (.slice A n c) (.int .i64 room) (.int .i64 fuse) (.bool false) (.slice none 0 0) (.int .i64 0) (.int .i64 0) (.bool false) 24
  refine (own_any A n c room fuse false l _ (HD.out.q (((Q.refl _).alloc _).alloc _))).mono ?_
  rintro e w1 ⟨A1, c1, rfl, ho, q1⟩
  rw [size_two] at ho
  have HO := Lib.hid (ho.set4 (b := w.heap.size) (by omega) (.slice A1 n c1) (.int .i64 room) (.int .i64 fuse) (.bool false))
  have D1 := Lib.hid ((B0.1.q q1).put4 (.slice A1 n c1) (.int .i64 room) (.int .i64 fuse) (.bool false))
  have R1 := Lib.hid ((B0.2.q q1).far4 (c := w.heap.size) (by omega) (.slice A1 n c1) (.int .i64 room) (.int .i64 fuse) (.bool false))
  have Q1 := Lib.hid ((((((Q.refl w).alloc _).alloc _).trans q1)).set4 (b := w.heap.size) (Nat.le_refl _) (.slice A1 n c1) (.int .i64 room) (.int .i64 fuse) (.bool false))
  obtain ⟨⟨e0, e1, e2, e3⟩, f0, f1, f2, f3⟩ := (B0.1.q q1).get4
  clear B0 q1 ho
  go_wp2_with fail
  refine (place nm A1 n c1 room fuse false l _ HO.out.files HN.out).mono ?_
  rintro e w2 ⟨rfl, q2⟩
  rw [HP.out]
  have HO2 := Lib.hid (HO.out.q q2)
  have Q2 := Lib.hid (Q1.out.trans q2)
  have z0 : w.heap.size < w2.heap.size := (D1.out.q q2).lt
  have z1 : w.heap.size + 1 < w2.heap.size := (R1.out.q q2).lt
  have z2 : w.heap.size ≠ w2.heap.size := by omega
  have z3 : w.heap.size + 1 ≠ w2.heap.size := by omega
  have D2 := Lib.hid (D1.out.q q2)
  have R2 := Lib.hid (R1.out.q q2)
  obtain ⟨⟨d0, d1, d2, d3⟩, g0, g1, g2, g3⟩ := (D1.out.q q2).get4
  obtain ⟨⟨s0, s1, s2, s3⟩, h0, h1, h2, h3⟩ := (R1.out.q q2).get4
  clear q2 e0 e1 e2 e3 f0 f1 f2 f3
  go_wp2
  refine bodyPost_ret (v := .tuple #[dkv A1 n c1 room fuse false, .int .i64 7]) (by simp [results, Try.results31, go_sem, s0, s1, s2, s3]) rfl ⟨A1, n, c1, rfl, (HO2.out.set4 (b := w.heap.size + 1) (by omega) _ _ _ _).lower (by omega), Q2.out.set4 (b := w.heap.size + 1) (by omega) _ _ _ _⟩

set_option maxHeartbeats 2000000 in
theorem sync_at (nm : ByteArray) (A : Option Addr) (n c : Nat) (room fuse : Int) (l : List Fil) (w : World) (hd : Dsk w A n c l) (k : Nat) (hk : k < l.length) (hp : plc nm l 0 = k) (hs : l[k].sf.size + l[k].wt.size ≤ maxLen) :
    Calls Try.prog 31 #[dkv A n c room fuse false, .string nm] w fun e w' => RetDE w ⟨l.set k ⟨l[k].nm, l[k].sf ++ l[k].wt, ⟨#[]⟩⟩, room, fuse, false⟩ 0 e w' := by
  unfold maxLen at hs
  have hkn : k < n := by have := hd.len; omega
  have hnm := hd.max
  unfold maxLen at hnm
  have HD := Lib.hid hd
  have HN := Lib.hid hd.max
  have HP := Lib.hid hp
  clear hd hp
  go_enter Try.func31, Try.ntmps31
  go_wp2_with fail
  have B0 := two_new w (.slice A n c) (.int .i64 room) (.int .i64 fuse) (.bool false) (.slice none 0 0) (.int .i64 0) (.int .i64 0) (.bool false) 24
  refine (own_any A n c room fuse false l _ (HD.out.q (((Q.refl _).alloc _).alloc _))).mono ?_
  rintro e w1 ⟨A1, c1, rfl, ho, q1⟩
  rw [size_two] at ho
  have HO := Lib.hid (ho.set4 (b := w.heap.size) (by omega) (.slice A1 n c1) (.int .i64 room) (.int .i64 fuse) (.bool false))
  have D1 := Lib.hid ((B0.1.q q1).put4 (.slice A1 n c1) (.int .i64 room) (.int .i64 fuse) (.bool false))
  have R1 := Lib.hid ((B0.2.q q1).far4 (c := w.heap.size) (by omega) (.slice A1 n c1) (.int .i64 room) (.int .i64 fuse) (.bool false))
  have Q1 := Lib.hid ((((((Q.refl w).alloc _).alloc _).trans q1)).set4 (b := w.heap.size) (Nat.le_refl _) (.slice A1 n c1) (.int .i64 room) (.int .i64 fuse) (.bool false))
  obtain ⟨⟨e0, e1, e2, e3⟩, f0, f1, f2, f3⟩ := (B0.1.q q1).get4
  clear B0 q1 ho
  go_wp2_with fail
  refine (place nm A1 n c1 room fuse false l _ HO.out.files HN.out).mono ?_
  rintro e w2 ⟨rfl, q2⟩
  rw [HP.out]
  have HO2 := Lib.hid (HO.out.q q2)
  have Q2 := Lib.hid (Q1.out.trans q2)
  have z0 : w.heap.size < w2.heap.size := (D1.out.q q2).lt
  have z1 : w.heap.size + 1 < w2.heap.size := (R1.out.q q2).lt
  have z2 : w.heap.size ≠ w2.heap.size := by omega
  have z3 : w.heap.size + 1 ≠ w2.heap.size := by omega
  have D2 := Lib.hid (D1.out.q q2)
  have R2 := Lib.hid (R1.out.q q2)
  obtain ⟨⟨d0, d1, d2, d3⟩, g0, g1, g2, g3⟩ := (D1.out.q q2).get4
  obtain ⟨⟨s0, s1, s2, s3⟩, h0, h1, h2, h3⟩ := (R1.out.q q2).get4
  clear q2 e0 e1 e2 e3 f0 f1 f2 f3
  obtain ⟨ad, rfl, hb, c0, c1', c2⟩ := HO2.out.files.load hkn hk
  go_wp2_with fail
  refine (set_mid (w.heap.size + 2) (some ad) n c1 k ⟨l[k].nm, l[k].sf ++ l[k].wt, ⟨#[]⟩⟩ l _ (HO2.out.alloc _) hkn).mono ?_
  rintro e w3 ⟨rfl, ho3, b3⟩
  have HO3 := Lib.hid ho3
  have Q3 := Lib.hid (show Q w w3 from (Q2.out.alloc _).below.trans (b3.mono (by omega)))
  have D3 := (D2.out.alloc _).below b3 (by omega)
  have R3 := (R2.out.alloc _).below b3 (by omega)
  clear ho3 b3 d0 d1 d2 d3 g0 g1 g2 g3 s0 s1 s2 s3 h0 h1 h2 h3 c0 c1' c2
  obtain ⟨⟨d0, d1, d2, d3⟩, g0, g1, g2, g3⟩ := D3.get4
  obtain ⟨⟨s0, s1, s2, s3⟩, h0, h1, h2, h3⟩ := R3.get4
  clear D3 R3
  go_wp2
  refine bodyPost_ret (v := .tuple #[dkv (some ad) n c1 room fuse false, .int .i64 0]) (by simp [results, Try.results31, go_sem, s0, s1, s2, s3]) rfl ⟨some ad, n, c1, rfl, ((HO3.out.setCell (p := ⟨w.heap.size, 0, none⟩) (by simp) _).set4 (b := w.heap.size + 1) (by omega) _ _ _ _).lower (by omega), (Q3.out.setCell (p := ⟨w.heap.size, 0, none⟩) (Nat.le_refl _) _).set4 (b := w.heap.size + 1) (by omega) _ _ _ _⟩

/-- what Sync makes of a disk. -/
theorem sync_any (nm : ByteArray) (A : Option Addr) (n c : Nat) (d : Dk) (w : World) (hd : Dsk w A n c d.fs) (hs : ∀ f ∈ d.fs, f.sf.size + f.wt.size ≤ maxLen) :
    Calls Try.prog 31 #[dkv A n c d.room d.fuse d.off, .string nm] w fun e w' => RetDE w (syn d nm).1 (syn d nm).2 e w' := by
  obtain ⟨l, room, fuse, off⟩ := d
  cases off
  · rcases plc_cases nm l with ⟨hp, hall⟩ | ⟨k, hk, hp, hkn, hfirst⟩
    · rw [syn_none hall]
      exact sync_none nm A n c room fuse l w hd hp
    · rw [syn_at hk hkn hfirst]
      exact sync_at nm A n c room fuse l w hd k hk hp (hs _ (List.getElem_mem hk))
  · exact sync_off nm A n c room fuse l w hd _ rfl
end Go.Proofs.Ytodfdklcioafmaa
