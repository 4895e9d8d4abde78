/- Spans of keys: plain mathematics. -/
import Derived.Test.YtcclgepccahhbaaPairMath
namespace Go.Proofs.Ytcclgepccahhbaa.Sm
set_option maxRecDepth 100000
open Prm
set_option linter.unusedVariables false
set_option linter.unusedSimpArgs false

structure Wn where
  mode : Int
  lo : ByteArray
  hi : ByteArray
deriving DecidableEq

def bel (k hi : ByteArray) : Bool := decide (hi = ⟨#[]⟩) || lt k hi
def inS (w : Wn) (k : ByteArray) : Bool := !lt k w.lo && bel k w.hi
def some1 (w : Wn) : Bool := inS w w.lo
def mx (a b : ByteArray) : ByteArray := if lt a b then b else a
def cut (a b : Wn) : Bool := !decide (a.hi = ⟨#[]⟩) && bel a.hi b.hi
def part (a b : Wn) : Wn := ⟨b.mode, mx a.lo b.lo, if cut a b then a.hi else b.hi⟩
def over (a b : Wn) : Bool := some1 (part a b)
def xs (a b : Wn) : Bool := decide (a.mode = 2) || decide (b.mode = 2)
def clash (a b : Wn) : Bool := xs a b && over a b
def ok (w : Wn) : Bool := decide (w.mode = 1) || decide (w.mode = 2)
def may (w : Wn) : Bool := ok w && some1 w
def covers (a b : Wn) : Bool := (!decide (b.mode = 2) || decide (a.mode = 2)) && (may b && decide (part a b = b))
def key (m : Int) (k : ByteArray) : Wn := ⟨m, k, k ++ ⟨#[0]⟩⟩

-- the document's
def rmay (w : Wn) : Bool := bel w.lo w.hi && ok w
def rover (a b : Wn) : Bool := inS a (mx a.lo b.lo) && inS b (mx a.lo b.lo)
def rclash (a b : Wn) : Bool := rover a b && xs a b
def rcovers (a b : Wn) : Bool := rmay b && (decide (a.mode = 2) || !decide (b.mode = 2)) && inS a b.lo && (decide (a.hi = ⟨#[]⟩) || (!decide (b.hi = ⟨#[]⟩) && !lt a.hi b.hi))

theorem le_lt {a b c : ByteArray} (h : lt b a = false) (k : lt b c = true) : lt a c = true := by
  by_cases e : a = b
  · subst e; exact k
  · exact lt_trans (lt_tri (fun x => e x.symm) h) k
theorem lt_le {a b c : ByteArray} (h : lt a b = true) (k : lt c b = false) : lt a c = true := by
  by_cases e : b = c
  · subst e; exact h
  · exact lt_trans h (lt_tri (fun x => e x.symm) k)
theorem mx_left (a b : ByteArray) : lt (mx a b) a = false := by
  unfold mx
  cases h : lt a b with
  | true => exact lt_asymm h
  | false => exact lt_irrefl a
theorem mx_right (a b : ByteArray) : lt (mx a b) b = false := by
  unfold mx
  cases h : lt a b with
  | true => exact lt_irrefl b
  | false => exact h
theorem mx_or (a b : ByteArray) : mx a b = a ∨ mx a b = b := by
  unfold mx; cases lt a b <;> simp
theorem mx_same {a b : ByteArray} (h : mx a b = b) : lt b a = false := h ▸ mx_left a b
theorem mx_le {a b : ByteArray} (h : lt b a = false) : mx a b = b := by
  unfold mx
  cases k : lt a b with
  | true => rfl
  | false =>
    by_cases e : a = b
    · simp [e]
    · have := lt_tri e k; rw [h] at this; cases this
theorem mx_comm (a b : ByteArray) : mx a b = mx b a := by
  unfold mx
  cases h : lt a b with
  | true => simp [lt_asymm h]
  | false =>
    cases k : lt b a with
    | true => simp
    | false =>
      by_cases e : a = b
      · simp [e]
      · have := lt_tri e h; rw [k] at this; cases this

theorem bel_empty (k : ByteArray) : bel k ⟨#[]⟩ = true := by simp [bel]
theorem bel_mono {a k hi : ByteArray} (h : lt k a = false) (hb : bel k hi = true) : bel a hi = true := by
  unfold bel at *
  by_cases e : hi = ⟨#[]⟩
  · simp [e]
  · simp only [e, decide_false, Bool.false_or] at hb ⊢
    exact le_lt h hb
theorem bel_min (k ah bh : ByteArray) : bel k (if (!decide (ah = ⟨#[]⟩) && bel ah bh) then ah else bh) = (bel k ah && bel k bh) := by
  by_cases ea : ah = ⟨#[]⟩
  · subst ea; simp [bel_empty]
  · simp only [ea, decide_false, Bool.not_false, Bool.true_and]
    cases h : bel ah bh with
    | true =>
      simp only [if_true]
      cases hk : bel k ah with
      | false => simp
      | true =>
        have hk' : lt k ah = true := by simpa [bel, ea] using hk
        have : bel k bh = true := bel_mono (k := ah) (a := k) (lt_asymm hk') h
        simp [this]
    | false =>
      simp only [Bool.false_eq_true, if_false]
      have hb : ¬ bh = ⟨#[]⟩ := fun e => by subst e; rw [bel_empty] at h; cases h
      have hl : lt ah bh = false := by simpa [bel, hb] using h
      cases hk : bel k bh with
      | false => simp
      | true =>
        have hk' : lt k bh = true := by simpa [bel, hb] using hk
        have : bel k ah = true := by unfold bel; rw [lt_le hk' hl]; simp
        simp [this]

theorem over_eq (a b : Wn) : over a b = rover a b := by
  unfold over some1 rover inS part cut
  simp only [bel_min, lt_irrefl, mx_left, mx_right, Bool.not_false, Bool.true_and]
theorem may_eq (w : Wn) : may w = rmay w := by
  unfold may rmay some1 inS
  rw [lt_irrefl]; simp [Bool.and_comm]
theorem clash_eq (a b : Wn) : clash a b = rclash a b := by
  unfold clash rclash; rw [over_eq, Bool.and_comm]

theorem inS_iff (w : Wn) (k : ByteArray) : inS w k = true ↔ lt k w.lo = false ∧ bel k w.hi = true := by
  unfold inS; simp
theorem over_iff (a b : Wn) : over a b = true ↔ ∃ k, inS a k = true ∧ inS b k = true := by
  rw [over_eq]
  constructor
  · intro h
    unfold rover at h
    rw [Bool.and_eq_true] at h
    exact ⟨_, h⟩
  · rintro ⟨k, h1, h2⟩
    rw [inS_iff] at h1 h2
    have hk : lt k (mx a.lo b.lo) = false := by
      rcases mx_or a.lo b.lo with e | e
      · rw [e]; exact h1.1
      · rw [e]; exact h2.1
    unfold rover
    rw [Bool.and_eq_true, inS_iff, inS_iff]
    refine ⟨⟨mx_left _ _, ?_⟩, mx_right _ _, ?_⟩
    · by_cases e : mx a.lo b.lo = k
      · rw [e]; exact h1.2
      · exact bel_mono (lt_asymm (lt_tri (fun x => e x.symm) hk)) h1.2
    · by_cases e : mx a.lo b.lo = k
      · rw [e]; exact h2.2
      · exact bel_mono (lt_asymm (lt_tri (fun x => e x.symm) hk)) h2.2
theorem over_comm (a b : Wn) : over a b = over b a := by
  rw [Bool.eq_iff_iff, over_iff, over_iff]
  exact ⟨fun ⟨k, h1, h2⟩ => ⟨k, h2, h1⟩, fun ⟨k, h1, h2⟩ => ⟨k, h2, h1⟩⟩
theorem clash_comm (a b : Wn) : clash a b = clash b a := by
  unfold clash xs; rw [over_comm a b, Bool.or_comm]

def hiLe (a b : Wn) : Prop := a.hi = ⟨#[]⟩ ∨ (b.hi ≠ ⟨#[]⟩ ∧ lt a.hi b.hi = false)
theorem cut_no {a b : Wn} : cut a b = false ↔ hiLe a b := by
  unfold cut hiLe bel
  by_cases ea : a.hi = ⟨#[]⟩ <;> by_cases eb : b.hi = ⟨#[]⟩ <;> simp [ea, eb]
theorem part_iff (a b : Wn) : part a b = b ↔ lt b.lo a.lo = false ∧ hiLe a b := by
  constructor
  · intro h
    have h1 : mx a.lo b.lo = b.lo := congrArg Wn.lo h
    have h2 : (if cut a b then a.hi else b.hi) = b.hi := congrArg Wn.hi h
    refine ⟨mx_same h1, ?_⟩
    cases hc : cut a b with
    | false => exact cut_no.1 hc
    | true =>
      rw [hc] at h2
      simp only [if_true] at h2
      unfold cut at hc
      rw [h2] at hc
      unfold bel at hc
      rw [lt_irrefl] at hc
      simp only [Bool.or_false] at hc
      revert hc
      cases decide (b.hi = ⟨#[]⟩) <;> intro hc <;> simp at hc
  · rintro ⟨h1, h2⟩
    unfold part
    rw [mx_le h1, cut_no.2 h2]
    rfl
theorem some1_iff (w : Wn) : some1 w = true ↔ bel w.lo w.hi = true := by unfold some1 inS; rw [lt_irrefl]; simp
theorem covers_iff (a b : Wn) : covers a b = true ↔ (b.mode = 2 → a.mode = 2) ∧ ok b = true ∧ bel b.lo b.hi = true ∧ lt b.lo a.lo = false ∧ hiLe a b := by
  unfold covers may
  by_cases h2 : b.mode = 2 <;> by_cases h3 : a.mode = 2 <;> simp [h2, h3, part_iff, some1_iff, and_assoc]
theorem covers_eq (a b : Wn) : covers a b = rcovers a b := by
  rw [Bool.eq_iff_iff, covers_iff]
  have hin : bel b.lo b.hi = true → hiLe a b → bel b.lo a.hi = true := fun h1 h2 => by
    rcases h2 with e | ⟨eb, h⟩
    · rw [e]; exact bel_empty _
    · have : lt b.lo b.hi = true := by simpa [bel, eb] using h1
      unfold bel; rw [lt_le this h]; simp
  have hhi : (decide (a.hi = ⟨#[]⟩) || (!decide (b.hi = ⟨#[]⟩) && !lt a.hi b.hi)) = true ↔ hiLe a b := by unfold hiLe; simp
  unfold rcovers rmay
  rw [Bool.and_eq_true, Bool.and_eq_true, Bool.and_eq_true, Bool.and_eq_true, hhi, inS_iff]
  have hm : (decide (a.mode = 2) || !decide (b.mode = 2)) = true ↔ (b.mode = 2 → a.mode = 2) := by
    by_cases h2 : b.mode = 2 <;> by_cases h3 : a.mode = 2 <;> simp [h2, h3]
  rw [hm]
  exact ⟨fun ⟨h1, h2, h3, h4, h5⟩ => ⟨⟨⟨⟨h3, h2⟩, h1⟩, h4, hin h3 h5⟩, h5⟩, fun ⟨⟨⟨⟨h3, h2⟩, h1⟩, h4, _⟩, h5⟩ => ⟨h1, h2, h3, h4, h5⟩⟩

-- keys
theorem bless_snoc : ∀ (x y : List UInt8), Op.bytesLess x (y ++ [0]) = !(Op.bytesLess y x)
  | [], [] => rfl
  | [], b :: y => by simp [Op.bytesLess]
  | a :: x, [] => by simp [Op.bytesLess]
  | a :: x, b :: y => by
    simp only [List.cons_append, Op.bytesLess, bless_snoc x y]
    by_cases h : a = b
    · subst h; simp
    · have h' : ¬ b = a := fun e => h e.symm
      have ht : ¬ a.toNat = b.toNat := fun e => h (UInt8.toNat_inj.1 e)
      simp only [beq_eq_false_iff_ne.2 h, beq_eq_false_iff_ne.2 h', Bool.false_and, Bool.or_false]
      by_cases hl : a < b
      · have : ¬ b < a := fun k => by rw [UInt8.lt_iff_toNat_lt] at hl k; omega
        rw [decide_eq_true hl, decide_eq_false this]; rfl
      · have : b < a := by rw [UInt8.lt_iff_toNat_lt] at hl ⊢; omega
        rw [decide_eq_false hl, decide_eq_true this]; rfl
theorem lt_behind (b a : ByteArray) : lt b (a ++ ⟨#[0]⟩) = !lt a b := by
  unfold lt
  rw [show (a ++ (⟨#[0]⟩ : ByteArray)).data.toList = a.data.toList ++ [0] by simp [ByteArray.data_append]]
  exact bless_snoc _ _
theorem behind_ne (a : ByteArray) : ¬ (a ++ (⟨#[0]⟩ : ByteArray)) = ⟨#[]⟩ := fun e => by
  have h := congrArg ByteArray.size e
  rw [ByteArray.size_append] at h
  have h1 : (⟨#[0]⟩ : ByteArray).size = 1 := rfl
  have h2 : (⟨#[]⟩ : ByteArray).size = 0 := rfl
  omega
theorem bel_behind (b a : ByteArray) : bel b (a ++ ⟨#[0]⟩) = !lt a b := by
  unfold bel; rw [lt_behind, decide_eq_false (behind_ne a), Bool.false_or]
theorem in_key (m : Int) (a b : ByteArray) : inS (key m a) b = decide (a = b) := by
  unfold inS key
  simp only [bel_behind]
  by_cases e : a = b
  · subst e; simp [lt_irrefl]
  · cases h : lt b a with
    | true => simp [e]
    | false => rw [lt_tri (fun x => e x.symm) h]; simp [e]
theorem over_keys (m : Int) (a b : ByteArray) : over (key m a) (key m b) = decide (a = b) := by
  rw [Bool.eq_iff_iff, over_iff]
  constructor
  · rintro ⟨k, h1, h2⟩
    rw [in_key] at h1 h2
    rw [decide_eq_true_eq] at h1 h2 ⊢
    rw [h1, h2]
  · intro h
    rw [decide_eq_true_eq] at h
    exact ⟨a, by rw [in_key]; simp, by rw [in_key]; simp [h]⟩
theorem may_key (m : Int) (a : ByteArray) : may (key m a) = (decide (m = 1) || decide (m = 2)) := by
  unfold may some1
  rw [show (key m a).lo = a from rfl, in_key, decide_eq_true rfl, Bool.and_true]
  rfl

-- what follows
theorem in_sub {a b : Wn} (h : lt b.lo a.lo = false ∧ hiLe a b) {k : ByteArray} (hk : inS b k = true) : inS a k = true := by
  rw [inS_iff] at hk ⊢
  refine ⟨ge_trans hk.1 h.1, ?_⟩
  rcases h.2 with e | ⟨e, hl⟩
  · rw [e]; exact bel_empty k
  · have : lt k b.hi = true := by have := hk.2; simpa [bel, e] using this
    unfold bel; rw [lt_le this hl]; simp
theorem covers_in {a b : Wn} (h : covers a b = true) {k : ByteArray} (hk : inS b k = true) : inS a k = true :=
  in_sub ⟨((covers_iff a b).1 h).2.2.2.1, ((covers_iff a b).1 h).2.2.2.2⟩ hk
theorem covers_clash {a b c : Wn} (h : covers a b = true) (hk : clash b c = true) : clash a c = true := by
  unfold clash at hk ⊢
  rw [Bool.and_eq_true] at hk ⊢
  obtain ⟨h1, h2⟩ := hk
  obtain ⟨k, k1, k2⟩ := (over_iff b c).1 h2
  refine ⟨?_, (over_iff a c).2 ⟨k, covers_in h k1, k2⟩⟩
  have hm := ((covers_iff a b).1 h).1
  unfold xs at h1 ⊢
  rw [Bool.or_eq_true, decide_eq_true_eq, decide_eq_true_eq] at h1 ⊢
  rcases h1 with e | e
  · exact .inl (hm e)
  · exact .inr e
theorem covers_trans {a b c : Wn} (h : covers a b = true) (k : covers b c = true) : covers a c = true := by
  rw [covers_iff] at h k ⊢
  obtain ⟨h1, _, _, h4, h5⟩ := h
  obtain ⟨k1, k2, k3, k4, k5⟩ := k
  refine ⟨fun e => h1 (k1 e), k2, k3, ge_trans k4 h4, ?_⟩
  rcases h5 with e | ⟨e, hl⟩
  · exact .inl e
  · rcases k5 with e' | ⟨e', kl⟩
    · exact absurd e' e
    · exact .inr ⟨e', ge_trans hl kl⟩
theorem covers_self (a : Wn) : covers a a = may a := by
  rw [Bool.eq_iff_iff, covers_iff]
  unfold may
  rw [Bool.and_eq_true, some1_iff]
  have : hiLe a a := by
    by_cases e : a.hi = ⟨#[]⟩
    · exact .inl e
    · exact .inr ⟨e, lt_irrefl _⟩
  exact ⟨fun h => ⟨h.2.1, h.2.2.1⟩, fun h => ⟨id, h.1, h.2, lt_irrefl _, this⟩⟩
theorem witness1 {a b : Wn} {k : ByteArray} (h1 : inS a k = true) (h2 : inS b k = true) : over a b = true := (over_iff a b).2 ⟨k, h1, h2⟩
theorem witness2 (a b : Wn) : (!over a b || (inS a (mx a.lo b.lo) && inS b (mx a.lo b.lo))) = true := by
  rw [over_eq]; unfold rover
  cases inS a (mx a.lo b.lo) <;> cases inS b (mx a.lo b.lo) <;> rfl
theorem parts (a b : Wn) (mid : ByteArray) (h0 : ¬ mid = ⟨#[]⟩) (hm : inS a mid = true) : over a b = (over ⟨a.mode, a.lo, mid⟩ b || over ⟨a.mode, mid, a.hi⟩ b) := by
  rw [Bool.eq_iff_iff, Bool.or_eq_true, over_iff, over_iff, over_iff]
  have hm' := (inS_iff a mid).1 hm
  constructor
  · rintro ⟨k, h1, h2⟩
    have h1' := (inS_iff a k).1 h1
    cases e : lt k mid with
    | true => exact .inl ⟨k, (inS_iff _ _).2 ⟨h1'.1, by simp [bel, e]⟩, h2⟩
    | false => exact .inr ⟨k, (inS_iff _ _).2 ⟨e, h1'.2⟩, h2⟩
  · rintro (⟨k, h1, h2⟩ | ⟨k, h1, h2⟩)
    · have h1' := (inS_iff _ _).1 h1
      refine ⟨k, (inS_iff _ _).2 ⟨h1'.1, bel_mono ?_ hm'.2⟩, h2⟩
      have : lt k mid = true := by simpa [bel, h0] using h1'.2
      exact lt_asymm this
    · have h1' := (inS_iff _ _).1 h1
      exact ⟨k, (inS_iff _ _).2 ⟨ge_trans h1'.1 hm'.1, h1'.2⟩, h2⟩
theorem parts_apart (m : Int) (lo mid hi : ByteArray) (h0 : ¬ mid = ⟨#[]⟩) : over ⟨m, lo, mid⟩ ⟨m, mid, hi⟩ = false := by
  cases e : over ⟨m, lo, mid⟩ ⟨m, mid, hi⟩ with
  | false => rfl
  | true =>
    obtain ⟨k, h1, h2⟩ := (over_iff _ _).1 e
    have h1' := (inS_iff _ _).1 h1
    have h2' := (inS_iff _ _).1 h2
    have : lt k mid = true := by simpa [bel, h0] using h1'.2
    have h3 : lt k mid = false := h2'.1
    rw [this] at h3; cases h3
theorem no_empty {s : ByteArray} (h : ¬ s = ⟨#[]⟩) : s.toList ≠ [] ∧ s.toList.isEmpty = false ∧ (s.toList == []) = false := by
  have h1 : s.toList ≠ [] := fun e => h (by
    have e1 : s.data.toList = [] := by simpa [ByteArray.toList_eq] using e
    exact ByteArray.ext (Array.ext' e1))
  exact ⟨h1, by simpa using h1, by simpa using h1⟩
end Go.Proofs.Ytcclgepccahhbaa.Sm
