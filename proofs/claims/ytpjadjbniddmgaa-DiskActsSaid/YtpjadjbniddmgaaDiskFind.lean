/- Contracts: the place of a file, and the file, in the program and in the document's answer. -/
import Derived.Test.YtpjadjbniddmgaaFiles
namespace Go.Proofs.Ytpjadjbniddmgaa
open Go.RowKit Dkm
set_option linter.unusedVariables false

theorem bcell {W w1 : World} (hb : Below W.heap.size W w1) : (∀ b o, b < W.heap.size → w1.cell? ⟨b, o, none⟩ = W.cell? ⟨b, o, none⟩) ∧ (∀ b o, b < W.heap.size → w1.frozen? ⟨b, o, none⟩ = W.frozen? ⟨b, o, none⟩) :=
  ⟨fun b o h => hb.cell (p := ⟨b, o, none⟩) h, fun b o h => hb.frozen (p := ⟨b, o, none⟩) h⟩

theorem same_str (a b : ByteArray) : (a.toList == b.toList) = decide (a = b) := by
  by_cases h : a = b
  · subst h; simp
  · have : ¬ a.toList = b.toList := fun e => h (by
      have e1 : a.data.toList = b.data.toList := by simpa [ByteArray.toList_eq] using e
      exact ByteArray.ext (Array.ext' e1))
    simp [h, this]

theorem place1 (f : Fil) (nm : ByteArray) (B : Nat) (w : World) (hB : B < w.heap.size) (hc : w.cell? ⟨B, 0, none⟩ = some (.string nm)) :
    Calls Try.prog 48 #[f.val, .pointer (some ⟨B, 0, none⟩)] w fun e w' => e = .returned (.bool (decide (f.nm = nm))) ∧ Q w w' := by
  obtain ⟨a, b, c⟩ := f
  go_enter Try.func48, Try.ntmps48
  go_wp2
  go_ret
  exact ⟨ret_bool (same_str a nm), (Q.refl _).alloc _⟩

set_option maxHeartbeats 1000000 in
theorem indexFunc (nm : ByteArray) (B : Nat) (A : Option Addr) (n c : Nat) (l : List Fil) (w : World) (hB : B < w.heap.size) (hc : w.cell? ⟨B, 0, none⟩ = some (.string nm)) (hf : Files w A n l) (hn : n ≤ maxLen) :
    Calls Try.prog 47 #[.slice A n c, .func (.func 48) #[] #[.pointer (some ⟨B, 0, none⟩)]] w fun e w' => e = .returned (.int .i64 (plc nm l 0)) ∧ Q w w' := by
  unfold maxLen at hn
  have HC := Lib.hid hc
  have HF := Lib.hid hf
  clear hc hf
  go_enter Try.func47, Try.ntmps47
  go_wp2
  go_loopw [8] (fun i wr => ∃ k : Nat, k ≤ n ∧ i = .int .i64 k ∧ Q w wr ∧ plc nm l 0 = plc nm (l.drop k) k) (fun i _ => n - (intOf i).toNat)
  case atStart => exact ⟨0, Nat.zero_le _, rfl, Q.refl _, rfl⟩
  case round =>
    obtain ⟨k, hk, rfl, hq, hp⟩ := hrel
    have HP := Lib.hid hp
    clear hp
    by_cases hlt : k < n
    · have hlen := HF.out.len
      have hkl : k < l.length := by omega
      obtain ⟨ad, rfl, hb, c0, c1, c2⟩ := (HF.out.q hq).load hlt hkl
      clear hlen
      have hcell : Hid (wr.cell? ⟨B, 0, none⟩ = some (.string nm)) := Lib.hid ((hq.below.cell (p := ⟨B, 0, none⟩) hB).trans HC.out)
      go_wp2_with fail
      refine (place1 l[k] nm B _ (Nat.lt_of_lt_of_le hB hq.size) hcell.out).mono ?_
      rintro e w1 ⟨rfl, q1⟩
      by_cases hh : l[k].nm = nm
      · have hd : decide (l[k].nm = nm) = true := by simpa using hh
        go_wp2
        go_ret
        exact ⟨ret_int (by rw [HP.out, plc_drop _ _ _ hkl, if_pos hh]), hq.trans q1⟩
      · have hd : decide (l[k].nm = nm) = false := by simpa using hh
        go_wp2
        go_roundw
        case rel => exact ⟨k + 1, by omega, by go_num, hq.trans q1, by rw [HP.out, plc_drop _ _ _ hkl, if_neg hh]⟩
        case measure => simp [intOf]; omega
    · have hlen := HF.out.len
      have HL := Lib.hid hlen
      clear hlen
      go_wp2
      go_ret
      exact ⟨ret_int (by rw [HP.out, plc_end _ _ _ (by have := HL.out; omega)]), hq⟩

abbrev dkv (A : Option Addr) (n c : Nat) (room fuse : Int) (off : Bool) : Value := .agg #[.slice A n c, .int .i64 room, .int .i64 fuse, .bool off]

set_option maxHeartbeats 1000000 in
theorem place (nm : ByteArray) (A : Option Addr) (n c : Nat) (room fuse : Int) (off : Bool) (l : List Fil) (w : World) (hf : Files w A n l) (hn : n ≤ maxLen) :
    Calls Try.prog 40 #[dkv A n c room fuse off, .string nm] w fun e w' => e = .returned (.int .i64 (plc nm l 0)) ∧ Q w w' := by
  have HF := Lib.hid hf
  clear hf
  go_enter Try.func40, Try.ntmps40
  go_wp2_with fail
  refine (indexFunc nm (w.heap.size + 1) A n c l _ (by simp) (by simp) (HF.out.q (((Q.refl _).alloc _).alloc _)) hn).mono ?_
  rintro e w1 ⟨rfl, q1⟩
  go_wp2
  go_ret
  exact ⟨rfl, (((Q.refl _).alloc _).alloc _).trans q1⟩

set_option maxHeartbeats 1000000 in
theorem ref_at (nm : ByteArray) (A : Option Addr) (n c : Nat) (room fuse : Int) (off : Bool) (l : List Fil) (w : World) (hf : Files w A n l) (hn : n ≤ maxLen) :
    Calls Try.prog 38 #[dkv A n c room fuse off, .string nm] w fun e w' => e = .returned (.int .i64 (plc nm l 0)) ∧ Q w w' := by
  unfold maxLen at hn
  have HF := Lib.hid hf
  clear hf
  go_enter Try.func38, Try.ntmps38
  go_wp2
  go_loop [5] (fun i => ∃ k : Nat, k ≤ n ∧ i = .int .i64 k ∧ plc nm l 0 = plc nm (l.drop k) k) (fun i => n - (intOf i).toNat)
  case atStart => exact ⟨0, Nat.zero_le _, rfl, rfl⟩
  case round =>
    obtain ⟨k, hk, rfl, hp⟩ := hrel
    have HP := Lib.hid hp
    have HL := Lib.hid HF.out.len
    clear hp
    by_cases hlt : k < n
    · have hkl : k < l.length := by have := HL.out; omega
      obtain ⟨ad, rfl, hb, c0, c1, c2⟩ := (HF.out.q ((Q.refl _).alloc (.cells #[.slice A n c, .int .i64 room, .int .i64 fuse, .bool off] 24))).load hlt hkl
      clear c1 c2
      by_cases hh : l[k].nm = nm
      · have hd : (l[k].nm.toList == nm.toList) = true := by rw [same_str]; simpa using hh
        have HH := Lib.hid hh
        clear hh
        go_wp2
        go_ret
        exact ⟨ret_int (by rw [HP.out, plc_drop _ _ _ hkl, if_pos HH.out]), (Q.refl _).alloc _⟩
      · have hd : (l[k].nm.toList == nm.toList) = false := by rw [same_str]; simpa using hh
        have HH := Lib.hid hh
        clear hh
        go_wp2
        go_round
        case rel => exact ⟨k + 1, by omega, by go_num, by rw [HP.out, plc_drop _ _ _ hkl, if_neg HH.out]⟩
        case measure => simp [intOf]; omega
    · go_wp2
      go_ret
      exact ⟨ret_int (by rw [HP.out, plc_end _ _ _ (by have := HL.out; omega)]), (Q.refl _).alloc _⟩

theorem named_any (nm : ByteArray) (w : World) :
    Calls Try.prog 35 #[.string nm] w fun e w' => e = .returned (.bool (nmOk nm)) ∧ w = w' := by
  by_cases h0 : nm.size = 0
  · obtain rfl : nm = ⟨#[]⟩ := ByteArray.ext (by apply Array.eq_empty_of_size_eq_zero; simpa using h0)
    have h : nmOk ⟨#[]⟩ = false := by decide
    rw [h]
    go_enter Try.func35, Try.ntmps35
    go_wp2
    go_ret
    exact ⟨rfl, rfl⟩
  · have h1 : nm.toList ≠ [] := by
      intro e
      have : nm.data.toList = [] := by simpa [ByteArray.toList_eq] using e
      have e2 : nm.data = #[] := by simpa using this
      exact h0 (by show nm.data.size = 0; rw [e2]; rfl)
    have h2 : nm.toList.isEmpty = false := by simpa using h1
    have h3 : (nm.toList == []) = false := by simpa using h1
    by_cases h4 : nm.size ≤ 16
    · have h : nmOk nm = true := by unfold nmOk; simp; omega
      rw [h]; clear h
      go_enter Try.func35, Try.ntmps35
      go_wp2
      go_ret
      exact ⟨ret_bool (by simp; omega), rfl⟩
    · have h : nmOk nm = false := by unfold nmOk; simp; omega
      rw [h]; clear h
      go_enter Try.func35, Try.ntmps35
      go_wp2
      go_ret
      exact ⟨ret_bool (by simp; omega), rfl⟩
theorem size_any (f : Fil) (w : World) (h : f.sf.size + f.wt.size ≤ maxLen) :
    Calls Try.prog 36 #[f.val] w fun e w' => e = .returned (.int .i64 ((f.sf.size + f.wt.size : Nat) : Int)) ∧ Q w w' := by
  unfold maxLen at h
  obtain ⟨a, b, c⟩ := f
  simp only at h
  go_enter Try.func36, Try.ntmps36
  go_wp2
  go_ret
  exact ⟨ret_int (by simp), (Q.refl _).alloc _⟩

set_option maxHeartbeats 1000000 in
theorem find_any (nm : ByteArray) (A : Option Addr) (n c : Nat) (room fuse : Int) (off : Bool) (l : List Fil) (w : World) (hf : Files w A n l) (hn : n ≤ maxLen) :
    Calls Try.prog 18 #[dkv A n c room fuse off, .string nm] w fun e w' => e = .returned (.tuple #[(hit nm l).1.val, .bool (hit nm l).2]) ∧ Q w w' := by
  have HF := Lib.hid hf
  have HN := Lib.hid hn
  unfold maxLen at hn
  clear hf
  rcases plc_cases nm l with ⟨hp, hall⟩ | ⟨k, hk, hp, hkn, hfirst⟩
  · rw [hit_none hall]
    have HP := Lib.hid hp
    clear hp hall
    go_enter Try.func18, Try.ntmps18
    go_wp2_with fail
    refine (place nm A n c room fuse off l _ (HF.out.q (((Q.refl _).alloc _).alloc _)) HN.out).mono ?_
    rintro e w1 ⟨rfl, q1⟩
    rw [HP.out]
    obtain ⟨hc, hz⟩ := bcell q1.below
    go_wp2
    exact bodyPost_ret (v := .tuple #[Fil.val ⟨⟨#[]⟩, ⟨#[]⟩, ⟨#[]⟩⟩, .bool false]) (by simp [results, Try.results18, go_sem, hc]) rfl ⟨rfl, ((((Q.refl _).alloc _).alloc _).trans q1).set3 (by simp) _ _ _⟩
  · rw [hit_at hk hkn hfirst]
    have HL := Lib.hid HF.out.len
    have hkn' : k < n := by have := HL.out; omega
    have HP := Lib.hid hp
    clear hp hkn hfirst
    go_enter Try.func18, Try.ntmps18
    go_wp2_with fail
    refine (place nm A n c room fuse off l _ (HF.out.q (((Q.refl _).alloc _).alloc _)) HN.out).mono ?_
    rintro e w1 ⟨rfl, q1⟩
    rw [HP.out]
    obtain ⟨ad, rfl, hb, c0, c1, c2⟩ := (HF.out.q ((((Q.refl _).alloc _).alloc _).trans q1)).load hkn' hk
    obtain ⟨hc, hz⟩ := bcell q1.below
    go_wp2
    exact bodyPost_ret (v := .tuple #[(l[k]).val, .bool true]) (by simp [results, Try.results18, go_sem, hc]) rfl ⟨rfl, ((((Q.refl _).alloc _).alloc _).trans q1).set3 (by simp) _ _ _⟩

set_option maxHeartbeats 1000000 in
theorem ref_find (nm : ByteArray) (A : Option Addr) (n c : Nat) (room fuse : Int) (off : Bool) (l : List Fil) (w : World) (hf : Files w A n l) (hn : n ≤ maxLen) :
    Calls Try.prog 19 #[dkv A n c room fuse off, .string nm] w fun e w' => e = .returned (.tuple #[(hit nm l).1.val, .bool (hit nm l).2]) ∧ Q w w' := by
  have HF := Lib.hid hf
  have HN := Lib.hid hn
  unfold maxLen at hn
  clear hf
  rcases plc_cases nm l with ⟨hp, hall⟩ | ⟨k, hk, hp, hkn, hfirst⟩
  · rw [hit_none hall]
    have HP := Lib.hid hp
    clear hp hall
    go_enter Try.func19, Try.ntmps19
    go_wp2_with fail
    refine (ref_at nm A n c room fuse off l _ (HF.out.q (((Q.refl _).alloc _).alloc _)) HN.out).mono ?_
    rintro e w1 ⟨rfl, q1⟩
    rw [HP.out]
    obtain ⟨hc, hz⟩ := bcell q1.below
    go_wp2
    exact bodyPost_ret (v := .tuple #[Fil.val ⟨⟨#[]⟩, ⟨#[]⟩, ⟨#[]⟩⟩, .bool false]) (by simp [results, Try.results19, go_sem, hc]) rfl ⟨rfl, ((((Q.refl _).alloc _).alloc _).trans q1).set3 (by simp) _ _ _⟩
  · rw [hit_at hk hkn hfirst]
    have HL := Lib.hid HF.out.len
    have hkn' : k < n := by have := HL.out; omega
    have HP := Lib.hid hp
    clear hp hkn hfirst
    go_enter Try.func19, Try.ntmps19
    go_wp2_with fail
    refine (ref_at nm A n c room fuse off l _ (HF.out.q (((Q.refl _).alloc _).alloc _)) HN.out).mono ?_
    rintro e w1 ⟨rfl, q1⟩
    rw [HP.out]
    obtain ⟨ad, rfl, hb, c0, c1, c2⟩ := (HF.out.q ((((Q.refl _).alloc _).alloc _).trans q1)).load hkn' hk
    obtain ⟨hc, hz⟩ := bcell q1.below
    go_wp2
    exact bodyPost_ret (v := .tuple #[(l[k]).val, .bool true]) (by simp [results, Try.results19, go_sem, hc]) rfl ⟨rfl, ((((Q.refl _).alloc _).alloc _).trans q1).set3 (by simp) _ _ _⟩

set_option maxHeartbeats 1000000 in
theorem read_any (nm : ByteArray) (A : Option Addr) (n c : Nat) (room fuse : Int) (off : Bool) (l : List Fil) (w : World) (hf : Files w A n l) (hn : n ≤ maxLen) (hs : ∀ f ∈ l, f.sf.size + f.wt.size ≤ maxLen) :
    Calls Try.prog 16 #[dkv A n c room fuse off, .string nm] w fun e w' => e = .returned (.tuple #[.string (redd nm l).1, .int .i64 (redd nm l).2]) ∧ Q w w' := by
  have HF := Lib.hid hf
  have HN := Lib.hid hn
  unfold maxLen at hn
  clear hf
  rcases plc_cases nm l with ⟨hp, hall⟩ | ⟨k, hk, hp, hkn, hfirst⟩
  · have HH := Lib.hid (hit_none hall)
    rw [redd_none hall]
    clear hp hall hs
    go_enter Try.func16, Try.ntmps16
    go_wp2_with fail
    refine (find_any nm A n c room fuse off l _ (HF.out.q ((Q.refl _).alloc _)) HN.out).mono ?_
    rintro e w1 ⟨rfl, q1⟩
    rw [HH.out]
    go_wp2
    go_ret2
    exact ⟨rfl, (((Q.refl _).alloc _).trans q1).alloc _⟩
  · have HH := Lib.hid (hit_at hk hkn hfirst)
    have hs1 := hs l[k] (List.getElem_mem hk)
    unfold maxLen at hs1
    rw [redd_at hk hkn hfirst]
    clear hp hkn hfirst hs
    go_enter Try.func16, Try.ntmps16
    go_wp2_with fail
    refine (find_any nm A n c room fuse off l _ (HF.out.q ((Q.refl _).alloc _)) HN.out).mono ?_
    rintro e w1 ⟨rfl, q1⟩
    rw [HH.out]
    go_wp2
    go_ret2
    exact ⟨rfl, (((Q.refl _).alloc _).trans q1).alloc _⟩

set_option maxHeartbeats 1000000 in
theorem ref_read (nm : ByteArray) (A : Option Addr) (n c : Nat) (room fuse : Int) (off : Bool) (l : List Fil) (w : World) (hf : Files w A n l) (hn : n ≤ maxLen) (hs : ∀ f ∈ l, f.sf.size + f.wt.size ≤ maxLen) :
    Calls Try.prog 17 #[dkv A n c room fuse off, .string nm] w fun e w' => e = .returned (.tuple #[.string (redd nm l).1, .int .i64 (redd nm l).2]) ∧ Q w w' := by
  have HF := Lib.hid hf
  have HN := Lib.hid hn
  unfold maxLen at hn
  clear hf
  rcases plc_cases nm l with ⟨hp, hall⟩ | ⟨k, hk, hp, hkn, hfirst⟩
  · have HH := Lib.hid (hit_none hall)
    rw [redd_none hall]
    clear hp hall hs
    go_enter Try.func17, Try.ntmps17
    go_wp2_with fail
    refine (ref_find nm A n c room fuse off l _ (HF.out.q ((Q.refl _).alloc _)) HN.out).mono ?_
    rintro e w1 ⟨rfl, q1⟩
    rw [HH.out]
    go_wp2
    go_ret2
    exact ⟨rfl, (((Q.refl _).alloc _).trans q1).alloc _⟩
  · have HH := Lib.hid (hit_at hk hkn hfirst)
    have hs1 := hs l[k] (List.getElem_mem hk)
    unfold maxLen at hs1
    rw [redd_at hk hkn hfirst]
    clear hp hkn hfirst hs
    go_enter Try.func17, Try.ntmps17
    go_wp2_with fail
    refine (ref_find nm A n c room fuse off l _ (HF.out.q ((Q.refl _).alloc _)) HN.out).mono ?_
    rintro e w1 ⟨rfl, q1⟩
    rw [HH.out]
    go_wp2
    go_ret2
    exact ⟨rfl, (((Q.refl _).alloc _).trans q1).alloc _⟩

end Go.Proofs.Ytpjadjbniddmgaa
