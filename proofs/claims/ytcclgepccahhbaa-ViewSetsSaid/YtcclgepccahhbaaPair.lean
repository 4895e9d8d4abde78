/- Pairs and writes in memory; contracts: the closures that find pairs, slices.IndexFunc, slices.Clone, table.Find, Between, Right, and the document's Less. -/
import Derived.Test.YtcclgepccahhbaaKind
import Derived.Test.YtcclgepccahhbaaPairMath
namespace Go.Proofs.Ytcclgepccahhbaa
set_option maxRecDepth 100000
open Go.RowKit Prm
set_option linter.unusedVariables false

abbrev Prm.Pr.v (p : Pr) : Value := .agg #[.string p.key, .string p.val]
abbrev Prm.Wr.v (w : Wr) : Value := .agg #[.string w.key, .string w.val, .bool w.del]
def pairK : Kind Pr where
  T := 44
  S := 31
  k := 2
  bs := 32
  z := .agg #[.string ⟨#[]⟩, .string ⟨#[]⟩]
  row := fun p => [.string p.key, .string p.val]
  pos := by omega
  bpos := by omega
  len := fun _ => rfl
  one := fun _ u hu => by simp at hu; rcases hu with rfl | rfl <;> rfl
  und := Try.underlying31
  info := by kernel_rfl
  zc := rfl
def writeK : Kind Wr where
  T := 24
  S := 22
  k := 3
  bs := 40
  z := .agg #[.string ⟨#[]⟩, .string ⟨#[]⟩, .bool false]
  row := fun p => [.string p.key, .string p.val, .bool p.del]
  pos := by omega
  bpos := by omega
  len := fun _ => rfl
  one := fun _ u hu => by simp at hu; rcases hu with rfl | rfl | rfl <;> rfl
  und := Try.underlying22
  info := by kernel_rfl
  zc := rfl

theorem load_pair {w : World} {A : Option Addr} {n : Nat} {l : List Pr} (h : Lst pairK w A n l) {k : Nat} (hk : k < n) (hl : k < l.length) :
    ∃ ad, A = some ad ∧ ad.block < w.heap.size ∧ w.cell? (ad.add (k * 2)) = some (.string l[k].key) ∧ w.cell? ⟨(ad.add (k * 2)).block, (ad.add (k * 2)).off + 1, none⟩ = some (.string l[k].val) := by
  obtain ⟨ad, e, hb, hc⟩ := h.load hk hl
  exact ⟨ad, e, hb, hc 0 _ rfl, hc 1 _ rfl⟩
theorem load_write {w : World} {A : Option Addr} {n : Nat} {l : List Wr} (h : Lst writeK w A n l) {k : Nat} (hk : k < n) (hl : k < l.length) :
    ∃ ad, A = some ad ∧ ad.block < w.heap.size ∧ w.cell? (ad.add (k * 3)) = some (.string l[k].key) ∧ w.cell? ⟨(ad.add (k * 3)).block, (ad.add (k * 3)).off + 1, none⟩ = some (.string l[k].val) ∧
      w.cell? ⟨(ad.add (k * 3)).block, (ad.add (k * 3)).off + 2, none⟩ = some (.bool l[k].del) := by
  obtain ⟨ad, e, hb, hc⟩ := h.load hk hl
  exact ⟨ad, e, hb, hc 0 _ rfl, hc 1 _ rfl, hc 2 _ rfl⟩

/-- the walk's words for '>' and '>=' on texts. -/
theorem gtr_lt (a b : ByteArray) : (!(Op.bytesLess a.toList b.toList || a.toList == b.toList)) = lt b a := by
  rw [lt_data, same_str]
  by_cases h : a = b
  · subst h; simp [lt_irrefl]
  · cases k : lt a b with
    | true => simp [lt_asymm k]
    | false => simp [h, lt_tri h k]
theorem leq_lt (a b : ByteArray) : (Op.bytesLess a.toList b.toList || a.toList == b.toList) = !lt b a := by
  have := gtr_lt a b
  cases h : (Op.bytesLess a.toList b.toList || a.toList == b.toList) <;> rw [h] at this <;> simp at this <;> simp [this]

theorem has1 (p : Pr) (key : ByteArray) (B : Nat) (w : World) (hB : B < w.heap.size) (hc : w.cell? ⟨B, 0, none⟩ = some (.string key)) :
    Calls Try.prog 45 #[p.v, .pointer (some ⟨B, 0, none⟩)] w fun e w' => e = .returned (.bool (hasK key p)) ∧ Q w w' := by
  obtain ⟨a, b⟩ := p
  go_enter Try.func45, Try.ntmps45
  go_wp2
  go_ret
  exact ⟨ret_bool (same_str a key), (Q.refl _).alloc _⟩
theorem above1 (p : Pr) (key : ByteArray) (B : Nat) (w : World) (hB : B < w.heap.size) (hc : w.cell? ⟨B, 0, none⟩ = some (.string key)) :
    Calls Try.prog 51 #[p.v, .pointer (some ⟨B, 0, none⟩)] w fun e w' => e = .returned (.bool (aboveK key p)) ∧ Q w w' := by
  obtain ⟨a, b⟩ := p
  go_enter Try.func51, Try.ntmps51
  go_wp2
  go_ret
  exact ⟨ret_bool (by have := gtr_lt a key; rw [Bool.not_or] at this; exact this), (Q.refl _).alloc _⟩
theorem thas_any (key : ByteArray) (w : World) :
    Calls Try.prog 38 #[.string key] w fun e w' => e = .returned (.func (.func 45) #[] #[.pointer (some ⟨w.heap.size, 0, none⟩)]) ∧ w' = w.alloc (.cells #[.string key] 9) := by
  go_enter Try.func38, Try.ntmps38
  go_wp2
  go_ret
  exact ⟨rfl, rfl⟩
theorem above_any (key : ByteArray) (w : World) :
    Calls Try.prog 49 #[.string key] w fun e w' => e = .returned (.func (.func 51) #[] #[.pointer (some ⟨w.heap.size, 0, none⟩)]) ∧ w' = w.alloc (.cells #[.string key] 9) := by
  go_enter Try.func49, Try.ntmps49
  go_wp2
  go_ret
  exact ⟨rfl, rfl⟩

/-- a closure over one text that tells pairs. -/
def Tells (F : FuncId) (key : ByteArray) (P : Pr → Bool) : Prop := ∀ (p : Pr) (B : Nat) (w : World), B < w.heap.size → w.cell? ⟨B, 0, none⟩ = some (.string key) →
  Calls Try.prog F #[p.v, .pointer (some ⟨B, 0, none⟩)] w fun e w' => e = .returned (.bool (P p)) ∧ Q w w'

set_option maxHeartbeats 1000000 in
theorem pindexFunc (F : FuncId) (P : Pr → Bool) (key : ByteArray) (hF : Tells F key P) (hFF : F = 45 ∨ F = 51) (B : Nat) (A : Option Addr) (n c : Nat) (l : List Pr) (w : World) (hB : B < w.heap.size) (hc : w.cell? ⟨B, 0, none⟩ = some (.string key)) (hf : Lst pairK w A n l) (hn : n ≤ maxLen) :
    Calls Try.prog 37 #[.slice A n c, .func (.func F) #[] #[.pointer (some ⟨B, 0, none⟩)]] w fun e w' => e = .returned (.int .i64 (idx P l 0)) ∧ Q w w' := by
  rcases hFF with rfl | rfl
  all_goals
    unfold maxLen at hn
    have HC := Lib.hid hc
    have HF := Lib.hid hf
    have HT := Lib.hid hF
    clear hc hf hF
    go_enter Try.func37, Try.ntmps37
    go_wp2
    go_loopw [8] (fun i wr => ∃ k : Nat, k ≤ n ∧ i = .int .i64 k ∧ Q w wr ∧ idx P l 0 = idx P (l.drop k) k) (fun i _ => n - (intOf i).toNat)
    case atStart => exact ⟨0, Nat.zero_le _, rfl, Q.refl _, rfl⟩
    case round =>
      obtain ⟨k, hk, rfl, hq, hp⟩ := hrel
      have HP := Lib.hid hp
      clear hp
      by_cases hlt : k < n
      · have hlen := HF.out.len
        have hkl : k < l.length := by omega
        obtain ⟨ad, rfl, hb, c0, c1⟩ := load_pair (HF.out.q hq) hlt hkl
        clear hlen
        have hcell : Hid (wr.cell? ⟨B, 0, none⟩ = some (.string key)) := Lib.hid ((hq.below.cell (p := ⟨B, 0, none⟩) hB).trans HC.out)
        go_wp2_with fail
        refine (HT.out l[k] B _ (Nat.lt_of_lt_of_le hB hq.size) hcell.out).mono ?_
        rintro e w1 ⟨rfl, q1⟩
        by_cases hh : P l[k] = true
        · go_wp2
          go_ret
          exact ⟨ret_int (by rw [HP.out, idx_drop _ _ hkl, if_pos hh]), hq.trans q1⟩
        · have hd : P l[k] = false := by simpa using hh
          go_wp2
          go_roundw
          case rel => exact ⟨k + 1, by omega, by go_num, hq.trans q1, by rw [HP.out, idx_drop _ _ hkl, if_neg hh]⟩
          case measure => simp [intOf]; omega
      · have hlen := HF.out.len
        have HL := Lib.hid hlen
        clear hlen
        go_wp2
        go_ret
        exact ⟨ret_int (by rw [HP.out, idx_end _ _ (by have := HL.out; omega)]), hq⟩

set_option maxHeartbeats 1000000 in
theorem clonePairs (A : Option Addr) (n c : Nat) (l : List Pr) (w : World) (hd : In_ pairK w A n c l) :
    Calls Try.prog 40 #[.slice A n c] w fun e w' => RetL pairK w n l e w' := by
  have HD := Lib.hid hd
  clear hd
  cases A with
  | none =>
    obtain ⟨h1, h2⟩ := HD.out.nil rfl
    subst h1 h2
    have hl : l = [] := List.eq_nil_of_length_eq_zero HD.out.len
    subst hl
    have hnil := fun W : World => eql_nilK 31 44 Try.underlying31 W none 0 0
    go_enter Try.func40, Try.ntmps40
    go_wp2
    go_ret
    exact ⟨none, 0, rfl, OwnK.nil_ _ _ _, Q.refl _⟩
  | some ad =>
    have hnil := fun W : World => eql_nilK 31 44 Try.underlying31 W (some ad) n c
    go_enter Try.func40, Try.ntmps40
    go_wp2_with (at_builtin
                 refine wpl_appK pairK rfl (.tmp 5) (.tmp 6) 31 rfl rfl w.heap.size (some ⟨w.heap.size, 0, none⟩) 0 0 [] rfl (OwnK.lit0 pairK w _ (Nat.le_refl _)) (some ad) n c l rfl (HD.out.lst.q ((Q.refl _).alloc _)) (fun e => by cases e) (by have := HD.out.few; simpa using this) (by simp) ?_
                 intro A1 c1 w1 ho1 hb1)
    go_ret
    refine ⟨A1, c1, by simp, by simpa using ho1, ((Q.refl _).alloc _).below.trans hb1⟩

set_option maxHeartbeats 1000000 in
theorem tfind_any (key : ByteArray) (A : Option Addr) (n c : Nat) (l : List Pr) (w : World) (hf : Lst pairK w A n l) (hn : n ≤ maxLen) :
    Calls Try.prog 30 #[.slice A n c, .string key] w fun e w' => e = .returned (.tuple #[.string (find key l).1, .bool (find key l).2]) ∧ Q w w' := by
  have HF := Lib.hid hf
  have HN := Lib.hid hn
  unfold maxLen at hn
  clear hf
  rcases idx_cases (hasK key) l 0 with ⟨hp, hall⟩ | ⟨k, hk, hp, hkn, hfirst⟩
  · rw [find_none hall]
    have HP := Lib.hid hp
    clear hp hall
    go_enter Try.func30, Try.ntmps30
    go_wp2_with fail
    refine (thas_any key _).mono ?_
    rintro e w1 ⟨rfl, rfl⟩
    go_wp2_with fail
    refine (pindexFunc _ _ key (fun p B w => has1 p key B w) (.inl rfl) w.heap.size A n c l _ (by simp) (by simp) (HF.out.q ((Q.refl _).alloc _)) HN.out).mono ?_
    rintro e w1 ⟨rfl, q1⟩
    rw [HP.out]
    go_wp2
    go_ret2
    exact ⟨rfl, ((Q.refl _).alloc _).trans q1⟩
  · rw [find_at hk hkn hfirst]
    have HL := Lib.hid HF.out.len
    have hkn' : k < n := by have := HL.out; omega
    have HP := Lib.hid (hp.trans (by simp : ((0 + k : Nat) : Int) = (k : Int)))
    clear hp hkn hfirst
    go_enter Try.func30, Try.ntmps30
    go_wp2_with fail
    refine (thas_any key _).mono ?_
    rintro e w1 ⟨rfl, rfl⟩
    go_wp2_with fail
    refine (pindexFunc _ _ key (fun p B w => has1 p key B w) (.inl rfl) w.heap.size A n c l _ (by simp) (by simp) (HF.out.q ((Q.refl _).alloc _)) HN.out).mono ?_
    rintro e w1 ⟨rfl, q1⟩
    rw [HP.out]
    obtain ⟨ad, rfl, hb, c0, c1⟩ := load_pair (HF.out.q (((Q.refl _).alloc _).trans q1)) hkn' hk
    go_wp2
    go_ret2
    exact ⟨rfl, ((Q.refl _).alloc _).trans q1⟩

theorem empty_no {s : ByteArray} (h : ¬ s = ⟨#[]⟩) : s.toList ≠ [] ∧ s.toList.isEmpty = false ∧ (s.toList == []) = false := by
  have h1 : s.toList ≠ [] := by
    intro e
    have e1 : s.data.toList = [] := by simpa [ByteArray.toList_eq] using e
    exact h (ByteArray.ext (by simpa using e1))
  exact ⟨h1, by simpa using h1, by simpa using h1⟩
theorem between_any (key lo hi : ByteArray) (w : World) :
    Calls Try.prog 39 #[.string key, .string lo, .string hi] w fun e w' => e = .returned (.bool (btw lo hi key)) ∧ w = w' := by
  have e1 := lt_data key lo
  have e2 := lt_data key hi
  by_cases h2 : hi = ⟨#[]⟩
  · subst h2
    by_cases h1 : lt key lo = true
    all_goals
      (try simp only [Bool.not_eq_true] at h1)
      obtain ⟨r, hr⟩ : ∃ r, btw lo ⟨#[]⟩ key = r := ⟨_, rfl⟩
      rw [hr]
      rw [h1] at e1
      have HR := Lib.hid hr
      have H1 := Lib.hid h1
      clear hr h1 e2
      go_enter Try.func39, Try.ntmps39
      go_wp2
      go_ret
      exact ⟨ret_bool (by rw [← HR.out]; simp [btw, H1.out]), rfl⟩
  · obtain ⟨n1, n2, n3⟩ := empty_no h2
    by_cases h1 : lt key lo = true <;> by_cases h3 : lt key hi = true
    all_goals
      (try simp only [Bool.not_eq_true] at h1)
      (try simp only [Bool.not_eq_true] at h3)
      obtain ⟨r, hr⟩ : ∃ r, btw lo hi key = r := ⟨_, rfl⟩
      rw [hr]
      rw [h1] at e1
      rw [h3] at e2
      have HR := Lib.hid hr
      have H1 := Lib.hid h1
      have H2 := Lib.hid h2
      have H3 := Lib.hid h3
      clear hr h1 h2 h3
      go_enter Try.func39, Try.ntmps39
      go_wp2
      go_ret
      exact ⟨ret_bool (by rw [← HR.out]; simp [btw, H1.out, H2.out, H3.out]), rfl⟩
end Go.Proofs.Ytcclgepccahhbaa
