/- WalLastM, WalLastR, WalLastI, KvOnceM, KvErr, Tab, KvIs, BatchMay, BatchDo: merged. -/
import Derived.Test.YtbbfbdfmeifdfaaGreatDoorJ3
import Derived.Test.YtbbfbdfmeifdfaaGreatDoorJ4
import Derived.Test.YtbbfbdfmeifdfaaGreatDoorJ1
import Derived.LaidEql
import Derived.Stop.Asserts
import Derived.RowKitTokens
import Derived.Stop.LaidTwo
import Derived.Lib.LaidTab
import Derived.Lib.AppendIntMem
import Derived.Deep.RegionHeld3
import Derived.Deep.DeepCutAuto
/- The mathematics of a log that lasts: what a put, a sync, a crash and a recovery make of it. -/
namespace Go.Proofs.YtbbfbdfmeifdfaaGreatDoor
set_option maxRecDepth 100000
open Dkm Wm Du
set_option linter.unusedVariables false
set_option linter.unusedSimpArgs false
namespace Wl

abbrev Rec := List UInt8
def Le (r : List Rec) : Prop := ∀ x ∈ r, x.length ≤ 2048
/-- under segment k stand these records, all of them safe. -/
def Full (fs : List Fil) (k : Int) (r : List Rec) : Prop :=
  (hit (namB k) fs).2 = true ∧ (hit (namB k) fs).1.sf.data.toList = flat r ∧ (hit (namB k) fs).1.wt = ⟨#[]⟩ ∧ (flat r).length ≤ 8192
/-- the files of a log: segments that are left, and the last one. -/
structure St (fs : List Fil) (rs : List (List Rec)) (r : List Rec) (t : List UInt8) (m : Nat) : Prop where
  uniq : Uniq fs
  top : rs.length + 1 ≤ 1000000
  full : ∀ i (h : i < rs.length), Full fs ((i : Int) + 1) rs[i]
  none : ∀ k : Int, (rs.length : Int) + 1 < k → segOk k → (hit (namB k) fs).2 = false
  les : ∀ x ∈ rs, Le x
  le : Le r
  part : Part t
  mle : m ≤ r.length
  size : (flat r ++ t).length ≤ 8192
  last : ((hit (namB ((rs.length : Int) + 1)) fs).2 = false ∧ r = [] ∧ t = []) ∨ ((hit (namB ((rs.length : Int) + 1)) fs).2 = true)
  text : (hit (namB ((rs.length : Int) + 1)) fs).1.sf.data.toList ++ (hit (namB ((rs.length : Int) + 1)) fs).1.wt.data.toList = flat r ++ t
  safe : flat (r.take m) <+: (hit (namB ((rs.length : Int) + 1)) fs).1.sf.data.toList
theorem St.ok {fs : List Fil} {rs : List (List Rec)} {r : List Rec} {t : List UInt8} {m : Nat} (h : St fs rs r t m) : segOk ((rs.length : Int) + 1) := by have := h.top; unfold segOk; omega
theorem hit_def {nm : ByteArray} {l : List Fil} (h : (hit nm l).2 = false) : (hit nm l).1 = ⟨⟨#[]⟩, ⟨#[]⟩, ⟨#[]⟩⟩ := by rw [hit_none (hit_no h)]
/-- a change of the last segment alone. -/
theorem St.turn {fs fs' : List Fil} {rs : List (List Rec)} {r r' : List Rec} {t t' : List UInt8} {m m' : Nat} (h : St fs rs r t m) (hu : Uniq fs')
    (ha : ∀ k, segOk k → k ≠ (rs.length : Int) + 1 → hit (namB k) fs' = hit (namB k) fs) (hle : Le r') (hp : Part t') (hm : m' ≤ r'.length) (hs : (flat r' ++ t').length ≤ 8192)
    (hit1 : (hit (namB ((rs.length : Int) + 1)) fs').2 = true) (htx : (hit (namB ((rs.length : Int) + 1)) fs').1.sf.data.toList ++ (hit (namB ((rs.length : Int) + 1)) fs').1.wt.data.toList = flat r' ++ t')
    (hsf : flat (r'.take m') <+: (hit (namB ((rs.length : Int) + 1)) fs').1.sf.data.toList) : St fs' rs r' t' m' where
  uniq := hu
  top := h.top
  full i hi := by
    have h1 := h.full i hi
    have e := ha ((i : Int) + 1) (by have := h.top; unfold segOk; omega) (by omega)
    unfold Full at h1 ⊢
    rw [e]; exact h1
  none k hk hs := by rw [ha k hs (by omega)]; exact h.none k hk hs
  les := h.les
  le := hle
  part := hp
  mle := hm
  size := hs
  last := .inr hit1
  text := htx
  safe := hsf
/-- the last segment is left. -/
theorem St.next {fs : List Fil} {rs : List (List Rec)} {r : List Rec} {m : Nat} (h : St fs rs r [] m) (htop : rs.length + 2 ≤ 1000000) (h1 : (hit (namB ((rs.length : Int) + 1)) fs).2 = true) (hw : (hit (namB ((rs.length : Int) + 1)) fs).1.wt = ⟨#[]⟩) : St fs (rs ++ [r]) [] [] 0 := by
  have hl : ((rs ++ [r]).length : Int) + 1 = (rs.length : Int) + 2 := by simp; omega
  have hn : (hit (namB ((rs.length : Int) + 2)) fs).2 = false := h.none _ (by omega) (by unfold segOk; omega)
  have hd := hit_def hn
  refine ⟨h.uniq, by simp; omega, fun i hi => ?_, fun k hk hs => h.none k (by rw [hl] at hk; omega) hs, fun x hx => ?_, fun x hx => by simp at hx, Part.nil, by simp, by simp [flat_nil], ?_, ?_, ?_⟩
  · by_cases hi2 : i < rs.length
    · rw [List.getElem_append_left hi2]; exact h.full i hi2
    · have e : i = rs.length := by simp at hi; omega
      subst e
      have htx := h.text
      rw [hw] at htx
      have e1 : (rs ++ [r])[rs.length] = r := by simp
      rw [e1]
      refine ⟨h1, by simpa using htx, hw, by have := h.size; simpa using this⟩
  · rcases List.mem_append.1 hx with hx | hx
    · exact h.les x hx
    · simp at hx; subst hx; exact h.le
  · rw [hl]; exact .inl ⟨hn, rfl, rfl⟩
  · rw [hl, hd]; rfl
  · rw [hl, hd]; simp [flat_nil]
/-- the segment ahead of the last one, which isn't there, is the last one. -/
theorem St.back {fs : List Fil} {rs : List (List Rec)} {r : List Rec} {m : Nat} (h : St fs (rs ++ [r]) [] [] m) (hn : (hit (namB (((rs ++ [r]).length : Int) + 1)) fs).2 = false) : St fs rs r [] r.length := by
  have hl : ((rs ++ [r]).length : Int) + 1 = (rs.length : Int) + 2 := by simp; omega
  rw [hl] at hn
  have hf := h.full rs.length (by simp)
  have e1 : (rs ++ [r])[rs.length]'(by simp) = r := by simp
  rw [e1] at hf
  obtain ⟨f1, f2, f3, f4⟩ := hf
  have htop := h.top
  rw [List.length_append, List.length_singleton] at htop
  refine ⟨h.uniq, by omega, fun i hi => ?_, fun k hk hs => ?_, fun x hx => h.les x (by simp [hx]), h.les r (by simp), Part.nil, Nat.le_refl _, by simpa using f4, .inr f1, by rw [f2, f3], by rw [f2, List.take_length]; exact List.prefix_refl _⟩
  · have := h.full i (by simp; omega)
    rw [List.getElem_append_left hi] at this; exact this
  · by_cases e : k = (rs.length : Int) + 2
    · rw [e]; exact hn
    · exact h.none k (by rw [hl]; omega) hs

/-- whole records ahead of a beginning that holds them. -/
theorem whole_in {us r : List Rec} {q : List UInt8} {m : Nat} (hu : Le us) (hr : Le r) (hq : Part q) (hm : m ≤ r.length) (h : flat (r.take m) <+: flat us ++ q) : m ≤ us.length := by
  obtain ⟨b, hb⟩ := h
  have h1 := scn_part us hu hq
  rw [← hb, scn_app (r.take m) (fun x hx => hr x (List.mem_of_mem_take hx)) b] at h1
  have := congrArg (fun x => x.1.length) h1
  simp only [List.length_append, List.length_take] at this
  omega

/-- what a put of a record that is no longer than 2048 bytes may make longer. -/
theorem sld_small (s : List UInt8) (hs : s.length ≤ 2048) : (sld s).length ≤ 2100 := by
  have := sld_length s (by omega)
  omega

/-- Append of a record to the last segment. -/
theorem putA_inv {d : Dk} {rs : List (List Rec)} {r : List Rec} {m : Nat} (h : St d.fs rs r [] m) (rec : ByteArray) (hrec : rec.size ≤ 2048) (hsz : (flat r).length < 256) :
    ((appd d (namB ((rs.length : Int) + 1)) (sealB rec)).2 = 0 → St (appd d (namB ((rs.length : Int) + 1)) (sealB rec)).1.fs rs (r ++ [rec.data.toList]) [] m) ∧
    ((appd d (namB ((rs.length : Int) + 1)) (sealB rec)).2 ≠ 0 → ∃ t, St (appd d (namB ((rs.length : Int) + 1)) (sealB rec)).1.fs rs r t m ∧ ((appd d (namB ((rs.length : Int) + 1)) (sealB rec)).2 ≠ 6 → t = [])) := by
  have hap : ∀ k, segOk k → k ≠ (rs.length : Int) + 1 → hit (namB k) (appd d (namB ((rs.length : Int) + 1)) (sealB rec)).1.fs = hit (namB k) d.fs := fun k hk hne => appd_apart d fun e => hne (namB_inj hk h.ok e)
  have hl : rec.data.toList.length = rec.size := by show rec.data.toList.length = rec.data.size; simp
  have hsl := sld_small rec.data.toList (by omega)
  rcases appd_cases d (namB ((rs.length : Int) + 1)) (sealB rec) h.uniq with ⟨e1, e2⟩ | ⟨e1, e2, e3⟩
  · rw [e1]
    refine ⟨fun h0 => ?_, fun _ => ⟨[], h, fun _ => rfl⟩⟩
    rcases e2 with ⟨e, _⟩ | ⟨e, _⟩ | e | ⟨e, _⟩ <;> rw [e] at h0 <;> cases h0
  · generalize appd d (namB ((rs.length : Int) + 1)) (sealB rec) = x at e1 e2 e3 hap
    have htx := h.text
    rw [List.append_nil] at htx
    cases hsh : short d.fuse (sealB rec) with
    | false =>
      rw [hsh] at e1
      have hc : cut d.fuse (sealB rec) = sealB rec := by unfold cut; rw [hsh]; rfl
      rw [hc] at e3
      have hfl : flat (r ++ [rec.data.toList]) = flat r ++ sld rec.data.toList := by rw [flat_app, flat_cons, flat_nil, List.append_nil]
      refine ⟨fun _ => h.turn e2 hap (fun y hy => ?_) Part.nil (by have := h.mle; simp; omega) (by rw [hfl]; simp; omega) (by rw [e3]) ?_ ?_, fun h0 => absurd e1 h0⟩
      · rcases List.mem_append.1 hy with hy | hy
        · exact h.le y hy
        · simp at hy; subst hy; omega
      · rw [e3]
        show (hit _ d.fs).1.sf.data.toList ++ ((hit _ d.fs).1.wt ++ sealB rec).data.toList = _
        rw [ByteArray.data_append, Array.toList_append, sealB_list, ← List.append_assoc, htx, hfl, List.append_nil]
      · rw [e3, List.take_append_of_le_length h.mle]; exact h.safe
    | true =>
      rw [hsh] at e1
      have hc : cut d.fuse (sealB rec) = (sealB rec).extract 0 d.fuse.toNat := by unfold cut; rw [hsh]; rfl
      rw [hc] at e3
      have hcl : ((sealB rec).extract 0 d.fuse.toNat).data.toList = (sld rec.data.toList).take d.fuse.toNat := by rw [ByteArray.data_extract]; simp [sealB]
      have hfu : d.fuse.toNat < (sld rec.data.toList).length := by
        simp only [short, decide_eq_true_eq] at hsh
        rw [sealB_size] at hsh; omega
      refine ⟨fun h0 => (by rw [h0] at e1; cases e1), fun _ => ⟨(sld rec.data.toList).take d.fuse.toNat, h.turn e2 hap h.le ⟨rec.data.toList, by unfold Dm.maxU; omega, _, hfu, rfl⟩ h.mle (by rw [List.length_append, List.length_take]; omega) (by rw [e3]) ?_ (by rw [e3]; exact h.safe), fun h6 => absurd e1 h6⟩⟩
      rw [e3]
      show (hit _ d.fs).1.sf.data.toList ++ ((hit _ d.fs).1.wt ++ (sealB rec).extract 0 d.fuse.toNat).data.toList = _
      rw [ByteArray.data_append, Array.toList_append, hcl, ← List.append_assoc, htx]
/-- Sync of the last segment. -/
theorem syn_inv {d : Dk} {rs : List (List Rec)} {r : List Rec} {t : List UInt8} {m : Nat} (h : St d.fs rs r t m) :
    ((syn d (namB ((rs.length : Int) + 1))).2 = 0 → St (syn d (namB ((rs.length : Int) + 1))).1.fs rs r t r.length ∧ (hit (namB ((rs.length : Int) + 1)) (syn d (namB ((rs.length : Int) + 1))).1.fs).2 = true ∧ (hit (namB ((rs.length : Int) + 1)) (syn d (namB ((rs.length : Int) + 1))).1.fs).1.wt = ⟨#[]⟩) ∧
    ((syn d (namB ((rs.length : Int) + 1))).2 ≠ 0 → (syn d (namB ((rs.length : Int) + 1))).1 = d) := by
  have hap : ∀ k, segOk k → k ≠ (rs.length : Int) + 1 → hit (namB k) (syn d (namB ((rs.length : Int) + 1))).1.fs = hit (namB k) d.fs := fun k hk hne => syn_apart d fun e => hne (namB_inj hk h.ok e)
  rcases syn_cases d (namB ((rs.length : Int) + 1)) h.uniq with ⟨e1, e2⟩ | ⟨e1, e2, e3, e4, e5⟩
  · rw [e1]
    refine ⟨fun h0 => ?_, fun _ => rfl⟩
    rcases e2 with ⟨e, _⟩ | ⟨e, _⟩ <;> rw [e] at h0 <;> cases h0
  · refine ⟨fun _ => ?_, fun h0 => absurd e1 h0⟩
    generalize syn d (namB ((rs.length : Int) + 1)) = x at e1 e4 e5 hap
    have htx := h.text
    have hsf : (hit (namB ((rs.length : Int) + 1)) x.1.fs).1.sf.data.toList = flat r ++ t := by
      rw [e5]
      show ((hit _ d.fs).1.sf ++ (hit _ d.fs).1.wt).data.toList = _
      rw [ByteArray.data_append, Array.toList_append]; exact htx
    refine ⟨h.turn e4 hap h.le h.part (Nat.le_refl _) h.size (by rw [e5]) ?_ ?_, by rw [e5], by rw [e5]⟩
    · rw [hsf, e5]; simp
    · rw [hsf, List.take_length]; exact List.prefix_append _ _
/-- a crash. -/
theorem crs_inv {d : Dk} {rs : List (List Rec)} {r : List Rec} {t : List UInt8} {m : Nat} (h : St d.fs rs r t m) (ks : List Int) :
    ∃ us q, us <+: r ∧ m ≤ us.length ∧ St (crs d ks).fs rs us q m ∧ (hit (namB ((rs.length : Int) + 1)) (crs d ks).fs).1.wt = ⟨#[]⟩ := by
  have hfull : ∀ i (hi : i < rs.length), Full (crs d ks).fs ((i : Int) + 1) rs[i] := by
    intro i hi
    obtain ⟨f1, f2, f3, f4⟩ := h.full i hi
    rcases hit_crs d ks (namB ((i : Int) + 1)) with ⟨e, _⟩ | ⟨_, k, e⟩
    · rw [f1] at e; cases e
    · unfold Full
      rw [e, f3]
      refine ⟨rfl, ?_, rfl, f4⟩
      show ((hit _ d.fs).1.sf ++ (⟨#[]⟩ : ByteArray).extract 0 k).data.toList = _
      rw [ByteArray.data_append, Array.toList_append, f2]; simp
  have hnone : ∀ k : Int, (rs.length : Int) + 1 < k → segOk k → (hit (namB k) (crs d ks).fs).2 = false := by
    intro k hk hs
    rcases hit_crs d ks (namB k) with ⟨_, e⟩ | ⟨e, _⟩
    · exact e
    · rw [h.none k hk hs] at e; cases e
  rcases hit_crs d ks (namB ((rs.length : Int) + 1)) with ⟨e1, e2⟩ | ⟨e1, k, e2⟩
  · rcases h.last with ⟨_, rfl, rfl⟩ | e
    · have hd := hit_def e2
      have hm : m = 0 := Nat.le_zero.1 h.mle
      subst hm
      refine ⟨[], [], List.prefix_refl _, Nat.le_refl _, ⟨crs_uniq d ks h.uniq, h.top, hfull, hnone, h.les, h.le, Part.nil, Nat.le_refl _, h.size, .inl ⟨e2, rfl, rfl⟩, by rw [hd]; rfl, by rw [hd]; simp [flat_nil]⟩, by rw [hd]⟩
    · rw [e1] at e; cases e
  · have htx := h.text
    have hsf : (hit (namB ((rs.length : Int) + 1)) (crs d ks).fs).1.sf.data.toList = (hit (namB ((rs.length : Int) + 1)) d.fs).1.sf.data.toList ++ (hit (namB ((rs.length : Int) + 1)) d.fs).1.wt.data.toList.take k := by
      rw [e2]
      show ((hit _ d.fs).1.sf ++ (hit _ d.fs).1.wt.extract 0 k).data.toList = _
      rw [ByteArray.data_append, Array.toList_append, ByteArray.data_extract]; simp
    have hpre : (hit (namB ((rs.length : Int) + 1)) (crs d ks).fs).1.sf.data.toList <+: flat r ++ t := by
      rw [hsf, ← htx]
      exact (List.prefix_append_right_inj _).2 (List.take_prefix _ _)
    have hsz := hpre.length_le
    obtain ⟨us, q, u1, u2, u3⟩ := pre_part r t _ h.le h.part hpre
    have hle : Le us := fun x hx => h.le x (u1.subset hx)
    have hsafe : flat (r.take m) <+: flat us ++ q := by
      rw [← u3, hsf]
      exact h.safe.trans (List.prefix_append _ _)
    have hml := whole_in hle h.le u2 h.mle hsafe
    obtain ⟨v, hv⟩ := u1
    have htk : r.take m = us.take m := by rw [← hv, List.take_append_of_le_length hml]
    refine ⟨us, q, ⟨v, hv⟩, hml, ⟨crs_uniq d ks h.uniq, h.top, hfull, hnone, h.les, hle, u2, hml, by rw [← u3]; exact Nat.le_trans hsz h.size, .inr (by rw [e2]), ?_, by rw [← htk, u3]; exact hsafe⟩, by rw [e2]⟩
    rw [u3, e2]; simp
end Wl
end Go.Proofs.YtbbfbdfmeifdfaaGreatDoor

/- The mathematics of a log that lasts: what is recovered behind a crash, and what is recovered again. -/
namespace Go.Proofs.YtbbfbdfmeifdfaaGreatDoor
set_option maxRecDepth 100000
open Dkm Wm Du
set_option linter.unusedVariables false
set_option linter.unusedSimpArgs false
namespace Wl

theorem appd_pow (d : Dk) (nm s : ByteArray) (h1 : d.off = false) (h2 : d.fuse < 0) : (appd d nm s).1.off = false ∧ (appd d nm s).1.fuse < 0 := by
  have hs : short d.fuse s = false := by unfold short; simp; omega
  unfold appd
  split; exact ⟨h1, h2⟩
  split; exact ⟨h1, h2⟩
  split; exact ⟨h1, h2⟩
  split; exact ⟨h1, h2⟩
  refine ⟨hs, ?_⟩
  show (if 0 ≤ d.fuse then _ else d.fuse) < 0
  rw [if_neg (by omega)]; exact h2
theorem syn_pow (d : Dk) (nm : ByteArray) (h1 : d.off = false) (h2 : d.fuse < 0) : (syn d nm).1.off = false ∧ (syn d nm).1.fuse < 0 := by
  unfold syn
  split; exact ⟨h1, h2⟩
  split <;> exact ⟨h1, h2⟩
theorem crs_pow (d : Dk) (ks : List Int) : (crs d ks).off = false ∧ (crs d ks).fuse < 0 := ⟨rfl, by show (-1 : Int) < 0; omega⟩

/-- the segments that were left are read one behind the other. -/
theorem recF_full (d : Dk) (from_ : Int) : ∀ (rs : List (List Rec)) (n : Nat) (s : Int) (acc : List Rec) (last : Int), (∀ i (h : i < rs.length), Full d.fs (s + (i : Int)) rs[i]) → (∀ x ∈ rs, Le x) → 1 ≤ s → s + (rs.length : Int) ≤ 1000001 →
    recF (rs.length + n) d from_ s acc last = recF n d from_ (s + (rs.length : Int)) (acc ++ rs.flatten) (if rs = [] then last else s + (rs.length : Int) - 1)
  | [], n, s, acc, last, _, _, _, _ => by simp
  | r :: rs, n, s, acc, last, hf, hl, h1, h2 => by
    simp only [List.length_cons] at h2
    have hs : segOk s := by unfold segOk; omega
    obtain ⟨f1, f2, f3, f4⟩ := hf 0 (by simp)
    simp only [Int.ofNat_zero, Int.add_zero, List.getElem_cons_zero] at f1 f2 f3 f4
    have hrd : redd (namB s) d.fs = ((hit (namB s) d.fs).1.sf ++ ⟨#[]⟩, 0) := by unfold redd; rw [f1, if_pos rfl, f3]
    have hsc : scn (redd (namB s) d.fs).1.data.toList = (r, []) := by
      rw [hrd]
      show scn ((hit (namB s) d.fs).1.sf ++ (⟨#[]⟩ : ByteArray)).data.toList = _
      rw [ByteArray.data_append, Array.toList_append, f2]
      simpa using scn_flat r (hl r (by simp))
    have ih := recF_full d from_ rs n (s + 1) (acc ++ r) s (fun i hi => by
      have := hf (i + 1) (by simpa using hi)
      rw [List.getElem_cons_succ] at this
      rw [show s + 1 + (i : Int) = s + ((i + 1 : Nat) : Int) by omega]; exact this) (fun x hx => hl x (by simp [hx])) (by omega) (by omega)
    rw [show (r :: rs).length + n = (rs.length + n) + 1 by simp; omega]
    conv => lhs; unfold Wm.recF
    rw [if_neg (by simpa using hs), if_neg (by rw [hrd]; simp), hsc]
    simp only [if_true]
    rw [ih]
    have e1 : s + 1 + (rs.length : Int) = s + ((r :: rs).length : Int) := by simp; omega
    rw [e1]
    have e2 : acc ++ r ++ rs.flatten = acc ++ (r :: rs).flatten := by simp
    rw [e2]
    congr 1
    rw [if_neg (List.cons_ne_nil r rs)]
    by_cases hr : rs = []
    · rw [if_pos hr]; subst hr; simp
    · rw [if_neg hr]
theorem rec_st (x : Dk) {rs : List (List Rec)} {us : List Rec} {q : List UInt8} {m : Nat} (h : St x.fs rs us q m) :
    recM x 1 = recF (1000000 - rs.length) x 1 ((rs.length : Int) + 1) rs.flatten (if rs = [] then 1 else (rs.length : Int)) := by
  have htop := h.top
  unfold Wm.recM
  rw [if_neg (by unfold segOk; omega)]
  have e : fuelOf 1 = rs.length + (1000000 - rs.length) := by unfold fuelOf; omega
  rw [e, recF_full x 1 rs (1000000 - rs.length) 1 [] 1 (fun i hi => by rw [show (1 : Int) + (i : Int) = (i : Int) + 1 by omega]; exact h.full i hi) h.les (by omega) (by omega)]
  rw [show (1 : Int) + (rs.length : Int) = (rs.length : Int) + 1 by omega, List.nil_append]
  congr 1
  by_cases hr : rs = []
  · rw [if_pos hr, if_pos hr]
  · rw [if_neg hr, if_neg hr]; omega
/-- of a log that isn't torn. -/
theorem rec_clean {x : Dk} {rs : List (List Rec)} {us : List Rec} {m : Nat} (h : St x.fs rs us [] m) (hw : (hit (namB ((rs.length : Int) + 1)) x.fs).1.wt = ⟨#[]⟩) :
    recM x 1 = (x, rs.flatten ++ us, if (hit (namB ((rs.length : Int) + 1)) x.fs).2 then (rs.length : Int) + 1 else if rs = [] then 1 else (rs.length : Int), 0) := by
  rw [rec_st x h]
  have htop := h.top
  obtain ⟨n, hn⟩ : ∃ n, 1000000 - rs.length = n + 1 := ⟨1000000 - rs.length - 1, by omega⟩
  rw [hn]
  conv => lhs; unfold Wm.recF
  rw [if_neg (by simpa using h.ok)]
  rcases h.last with ⟨e, rfl, _⟩ | e
  · have hrd : (redd (namB ((rs.length : Int) + 1)) x.fs).2 = 7 := by unfold redd; rw [e]; rfl
    rw [if_pos (by rw [hrd]; decide), e]
    simp
  · have hrd : redd (namB ((rs.length : Int) + 1)) x.fs = ((hit (namB ((rs.length : Int) + 1)) x.fs).1.sf ++ (hit (namB ((rs.length : Int) + 1)) x.fs).1.wt, 0) := by unfold redd; rw [e, if_pos rfl]
    have hsc : scn (redd (namB ((rs.length : Int) + 1)) x.fs).1.data.toList = (us, []) := by
      rw [hrd]
      show scn ((hit _ x.fs).1.sf ++ (hit _ x.fs).1.wt).data.toList = _
      rw [ByteArray.data_append, Array.toList_append, h.text, List.append_nil]
      exact scn_flat us h.le
    rw [if_neg (by rw [hrd]; simp), hsc, e]
    simp only [if_true]
    cases n with
    | zero => rfl
    | succ n =>
      unfold Wm.recF
      by_cases hs : segOk ((rs.length : Int) + 1 + 1)
      · rw [if_neg (by simpa using hs)]
        have hno := h.none _ (by omega) hs
        have hrd2 : (redd (namB ((rs.length : Int) + 1 + 1)) x.fs).2 = 7 := by unfold redd; rw [hno]; rfl
        rw [if_pos (by rw [hrd2]; decide)]
      · rw [if_pos hs]
end Wl
end Go.Proofs.YtbbfbdfmeifdfaaGreatDoor

/- The mathematics of a log that lasts: the law's world, and what is true of it. -/
namespace Go.Proofs.YtbbfbdfmeifdfaaGreatDoor
set_option maxRecDepth 100000
open Dkm Wm Du
set_option linter.unusedVariables false
set_option linter.unusedSimpArgs false
namespace Wl

/-- a disk, the segment, what was put, how much of it is safe, and whether the power went in a put. -/
structure Lw where
  d : Dk
  seg : Int
  put : List Rec
  safe : Nat
  dead : Bool
def Lw.puts (w : Lw) (rec : ByteArray) : Lw :=
  if w.dead then w
  else ⟨(putM w.d w.seg rec).1, (putM w.d w.seg rec).2.1, if (putM w.d w.seg rec).2.2 = 0 then w.put ++ [rec.data.toList] else w.put, if (putM w.d w.seg rec).2.1 ≠ w.seg then w.put.length else w.safe, decide ((putM w.d w.seg rec).2.2 = 6)⟩
def Lw.syncs (w : Lw) : Lw := { w with d := (syncM w.d w.seg).1, safe := if (syncM w.d w.seg).2 = 0 ∧ w.dead = false then w.put.length else w.safe }
def In (w : Lw) : Prop := ∃ rs r t m, St w.d.fs rs r t m ∧ w.seg = (rs.length : Int) + 1 ∧ w.put = rs.flatten ++ r ∧ w.safe ≤ rs.flatten.length + m ∧ (w.dead = false → t = [])

theorem St.redd {fs : List Fil} {rs : List (List Rec)} {r : List Rec} {t : List UInt8} {m : Nat} (h : St fs rs r t m) : (redd (namB ((rs.length : Int) + 1)) fs).1.data.toList = flat r ++ t := by
  have htx := h.text
  unfold Dkm.redd
  split
  · show ((hit _ fs).1.sf ++ (hit _ fs).1.wt).data.toList = _
    rw [ByteArray.data_append, Array.toList_append]; exact htx
  · rename_i hh
    rw [hit_def (by simpa using hh)] at htx
    rw [← htx]; rfl
theorem new_in (room : Int) : In ⟨⟨[], room, -1, false⟩, 1, [], 0, false⟩ := by
  have hn : ∀ nm : ByteArray, hit nm [] = (⟨⟨#[]⟩, ⟨#[]⟩, ⟨#[]⟩⟩, false) := fun nm => rfl
  refine ⟨[], [], [], 0, ⟨fun i j hi _ _ => by simp at hi, by simp, fun i hi => by simp at hi, fun k _ _ => by rw [hn], fun x hx => by simp at hx, fun x hx => by simp at hx, Part.nil, by simp, by simp [flat_nil], .inl ⟨by rw [hn], rfl, rfl⟩, by rw [hn]; simp [flat_nil], by rw [hn]; simp [flat_nil]⟩, rfl, rfl, by simp, fun _ => rfl⟩
theorem put_in {w : Lw} (h : In w) (rec : ByteArray) : In (w.puts rec) := by
  obtain ⟨d, seg, put, safe, dead⟩ := w
  obtain ⟨rs, r, t, m, h1, h2, h3, h4, h5⟩ := h
  simp only at h1 h2 h3 h4 h5
  unfold Lw.puts
  cases dead with
  | true => exact ⟨rs, r, t, m, h1, h2, h3, h4, h5⟩
  | false =>
    have ht := h5 rfl
    subst ht
    simp only [Bool.false_eq_true, if_false]
    have hok : segOk seg := by rw [h2]; exact h1.ok
    unfold putM
    rw [if_neg (by simpa using hok)]
    by_cases hbig : 2048 < rec.size
    · rw [if_pos hbig]
      exact ⟨rs, r, [], m, h1, h2, by simpa using h3, by simpa using h4, fun _ => rfl⟩
    · rw [if_neg hbig]
      have hrd : (redd (namB seg) d.fs).1.size = (flat r).length := by
        rw [h2]
        have := congrArg List.length h1.redd
        rw [List.append_nil] at this
        rw [← this]
        show (redd _ d.fs).1.data.size = _
        simp
      unfold putB
      by_cases hsm : (redd (namB seg) d.fs).1.size < 256
      · rw [if_pos hsm]
        unfold putA
        obtain ⟨p1, p2⟩ := putA_inv h1 rec (by omega) (by omega)
        rw [← h2] at p1 p2
        by_cases h0 : (appd d (namB seg) (sealB rec)).2 = 0
        · refine ⟨rs, r ++ [rec.data.toList], [], m, p1 h0, h2, ?_, by simpa using h4, fun _ => rfl⟩
          simp only [h0, if_true, h3, List.append_assoc]
        · obtain ⟨t, q1, q2⟩ := p2 h0
          refine ⟨rs, r, t, m, q1, h2, by simp only [h0, if_false]; exact h3, by simpa using h4, fun hd => q2 (by simpa using hd)⟩
      · rw [if_neg hsm]
        obtain ⟨s1, s2⟩ := syn_inv h1
        rw [← h2] at s1 s2
        by_cases h0 : (syn d (namB seg)).2 = 0
        · rw [if_neg (by simpa using h0)]
          obtain ⟨u1, u2, u3⟩ := s1 h0
          by_cases hmx : seg = 1000000
          · rw [if_pos hmx]
            have := h1.mle
            refine ⟨rs, r, [], r.length, u1, h2, by simpa using h3, ?_, fun _ => rfl⟩
            simp only [ne_eq, not_true_eq_false, if_false]; omega
          · rw [if_neg hmx]
            unfold putA
            have htop := h1.top
            have hn := u1.next (by omega) (by rw [← h2]; exact u2) (by rw [← h2]; exact u3)
            have hl : seg + 1 = ((rs ++ [r]).length : Int) + 1 := by rw [h2]; simp
            obtain ⟨p1, p2⟩ := putA_inv hn rec (by omega) (by simp [flat_nil])
            rw [← hl] at p1 p2
            have hput : put = (rs ++ [r]).flatten := by rw [h3]; simp
            have hne : seg + 1 ≠ seg := by omega
            by_cases h7 : (appd (syn d (namB seg)).1 (namB (seg + 1)) (sealB rec)).2 = 0
            · refine ⟨rs ++ [r], [] ++ [rec.data.toList], [], 0, p1 h7, hl, ?_, ?_, fun _ => rfl⟩
              · simp only [h7, if_true, hput, List.nil_append]
              · simp only [hne, ne_eq, not_false_eq_true, if_true, hput]; omega
            · obtain ⟨t, q1, q2⟩ := p2 h7
              refine ⟨rs ++ [r], [], t, 0, q1, hl, ?_, ?_, fun hd => q2 (by simpa using hd)⟩
              · simp only [h7, if_false, hput, List.append_nil]
              · simp only [hne, ne_eq, not_false_eq_true, if_true, hput]; omega
        · rw [if_pos (by simpa using h0), s2 h0]
          refine ⟨rs, r, [], m, h1, h2, by simp only [h0, if_false]; exact h3, by simpa using h4, fun _ => rfl⟩
theorem sync_in {w : Lw} (h : In w) : In w.syncs := by
  obtain ⟨d, seg, put, safe, dead⟩ := w
  obtain ⟨rs, r, t, m, h1, h2, h3, h4, h5⟩ := h
  simp only at h1 h2 h3 h4 h5
  have hput : put.length = rs.flatten.length + r.length := by rw [h3, List.length_append]
  have hmle := h1.mle
  unfold Lw.syncs syncM
  simp only
  by_cases hh : (hit (namB seg) d.fs).2 = true
  · rw [if_pos hh]
    obtain ⟨s1, s2⟩ := syn_inv h1
    rw [← h2] at s1 s2
    by_cases h0 : (syn d (namB seg)).2 = 0
    · obtain ⟨u1, _, _⟩ := s1 h0
      refine ⟨rs, r, t, r.length, u1, h2, h3, ?_, h5⟩
      simp only [h0, true_and]
      split <;> omega
    · rw [s2 h0]
      exact ⟨rs, r, t, m, h1, h2, h3, by simp only [h0, false_and, if_false]; exact h4, h5⟩
  · rw [if_neg hh]
    have hr : r = [] := by
      rcases h1.last with ⟨_, e, _⟩ | e
      · exact e
      · rw [← h2] at e; exact absurd e hh
    subst hr
    have hm : m = 0 := Nat.le_zero.1 hmle
    subst hm
    refine ⟨rs, [], t, 0, h1, h2, h3, ?_, h5⟩
    simp only [true_and]
    split
    · have e0 : ([] : List Rec).length = 0 := rfl
      omega
    · exact h4
/-- a log that was recovered, as a world. -/
theorem clean_in {x : Dk} {rs : List (List Rec)} {us : List Rec} {m safe : Nat} (h : St x.fs rs us [] m) (hs : safe ≤ rs.flatten.length + us.length) (hw : (hit (namB ((rs.length : Int) + 1)) x.fs).1.wt = ⟨#[]⟩) :
    In ⟨x, if (hit (namB ((rs.length : Int) + 1)) x.fs).2 then (rs.length : Int) + 1 else if rs = [] then 1 else (rs.length : Int), rs.flatten ++ us, safe, false⟩ := by
  cases hh : (hit (namB ((rs.length : Int) + 1)) x.fs).2 with
  | true =>
    have hS : St x.fs rs us [] us.length := by
      refine h.turn h.uniq (fun k _ _ => rfl) h.le h.part (Nat.le_refl _) h.size hh h.text ?_
      have htx := h.text
      rw [hw] at htx
      rw [List.take_length]
      have e : (hit (namB ((rs.length : Int) + 1)) x.fs).1.sf.data.toList = flat us := by simpa using htx
      rw [e]; exact List.prefix_refl _
    exact ⟨rs, us, [], us.length, hS, rfl, rfl, hs, fun _ => rfl⟩
  | false =>
    have hus : us = [] := by
      rcases h.last with ⟨_, e, _⟩ | e
      · exact e
      · rw [hh] at e; cases e
    subst hus
    simp only [Bool.false_eq_true, if_false]
    by_cases hr : rs = []
    · subst hr
      rw [if_pos rfl]
      exact ⟨[], [], [], m, h, by simp, rfl, by simp at hs ⊢; omega, fun _ => rfl⟩
    · rw [if_neg hr]
      obtain ⟨a, b, rfl⟩ : ∃ a b, rs = a ++ [b] := ⟨rs.dropLast, rs.getLast hr, (List.dropLast_concat_getLast hr).symm⟩
      exact ⟨a, b, [], b.length, h.back hh, by simp, by simp, by simp at hs ⊢; omega, fun _ => rfl⟩
end Wl
end Go.Proofs.YtbbfbdfmeifdfaaGreatDoor

/- The mathematics of a store whose commits follow one another with the power on: its log has all that was OK; behind a crash it opens as it was. -/
namespace Go.Proofs.YtbbfbdfmeifdfaaGreatDoor
set_option maxRecDepth 100000
open Dkm Prm Wm Du Wl
set_option linter.unusedVariables false
set_option linter.unusedSimpArgs false
namespace Km

/-! ### Commit and the state -/
theorem comM_bad {x : Ks} {b : Bm.Bt} (h : (comM x b).2 ≠ 0) : (comM x b).1.s = x.s := by
  unfold comM at h ⊢
  split
  · rfl
  · split
    · rfl
    · rename_i h1 h2
      rw [if_neg h1, if_neg h2] at h
      unfold comA at h ⊢
      split
      · rfl
      · rename_i h3
        rw [if_neg h3] at h
        unfold comB at h ⊢
        split
        · rfl
        · rename_i h4; rw [if_neg h4] at h; exact absurd rfl h
theorem comM_ok {x : Ks} {b : Bm.Bt} (h : (comM x b).2 = 0) : (Bm.doo x.s b).2 = 0 ∧ (comM x b).1.s = (Bm.doo x.s b).1 := by
  unfold comM at h ⊢
  split at h
  · cases h
  · rename_i h1
    rw [if_neg h1]
    split at h
    · rename_i h2
      exact absurd (by simpa using h) h2
    · rename_i h2
      rw [if_neg h2]
      refine ⟨by simpa using h2, ?_⟩
      unfold comA at h ⊢
      split at h
      · rename_i h3; exact absurd h h3
      · rename_i h3
        rw [if_neg h3]
        unfold comB at h ⊢
        split at h
        · rename_i h4; exact absurd h h4
        · rename_i h4; rw [if_neg h4]
theorem repM_nil (s : Bm.Sta) : repM s [] = some s := by rw [repM]
theorem repM_cons (s : Bm.Sta) (r : List UInt8) (rs : List (List UInt8)) : repM s (r :: rs) = if (Bm.take r).2 ≠ 0 then none else repM (Bm.doo s (Bm.take r).1).1 rs := by rw [repM]
/-- one record more. -/
def repK (r : List UInt8) (t : Bm.Sta) : Option Bm.Sta := if (Bm.take r).2 ≠ 0 then none else some (Bm.doo t (Bm.take r).1).1
theorem repM_snoc (r : List UInt8) (l : List (List UInt8)) : ∀ s : Bm.Sta, repM s (l ++ [r]) = (repM s l).bind (repK r) := by
  induction l with
  | nil =>
    intro s
    rw [List.nil_append, repM_cons, repM_nil, repM_nil, Option.bind_some]
    unfold repK
    generalize Bm.take r = y
    rfl
  | cons a l ih =>
    intro s
    rw [List.cons_append, repM_cons, repM_cons]
    generalize Bm.take a = y
    by_cases h : y.2 ≠ 0
    · rw [if_pos h, if_pos h]; rfl
    · rw [if_neg h, if_neg h, ih]
theorem rec_take {b : Bm.Bt} (h : Bm.may b = true) : Bm.take (recB b).data.toList = (b, 0) := by
  have e : (recB b).data.toList = Bm.bytes b := by unfold recB Bm.bytesM; rw [if_pos h]
  rw [e]; exact Bm.take_bytes h

/-! ### Power -/
def On (d : Dk) : Prop := d.off = false ∧ d.fuse < 0
theorem appd_six {d : Dk} (h : On d) (nm s : ByteArray) (hu : Uniq d.fs) : (appd d nm s).2 ≠ 6 := by
  rcases appd_cases d nm s hu with ⟨_, e⟩ | ⟨e, _, _⟩
  · rcases e with ⟨_, e⟩ | ⟨e, _⟩ | e | ⟨e, _⟩
    · rw [h.1] at e; cases e
    · rw [e]; decide
    · rw [e]; decide
    · rw [e]; decide
  · rw [e]
    have : short d.fuse s = false := by
      have := h.2
      unfold short
      simp only [decide_eq_false_iff_not]; omega
    rw [this]; simp
theorem syn_on {d : Dk} (h : On d) (nm : ByteArray) (hu : Uniq d.fs) (hh : (hit nm d.fs).2 = true) : (syn d nm).2 = 0 := by
  rcases syn_cases d nm hu with ⟨_, e⟩ | ⟨e, _⟩
  · rcases e with ⟨_, e⟩ | ⟨_, e⟩
    · rw [h.1] at e; cases e
    · rw [hh] at e; cases e
  · exact e
theorem putM_on {d : Dk} (h : On d) (seg : Int) (rec : ByteArray) (hu : Uniq d.fs) : On (putM d seg rec).1 ∧ (putM d seg rec).2.2 ≠ 6 := by
  unfold putM
  split
  · exact ⟨h, by simp⟩
  · split
    · exact ⟨h, by simp⟩
    · unfold putB putA
      split
      · exact ⟨appd_pow d _ _ h.1 h.2, appd_six h _ _ hu⟩
      · have hs := syn_pow d (namB seg) h.1 h.2
        have hsu : Uniq (syn d (namB seg)).1.fs := by
          rcases syn_cases d (namB seg) hu with ⟨e, _⟩ | ⟨_, _, _, e, _⟩
          · rw [e]; exact hu
          · exact e
        split
        · refine ⟨hs, ?_⟩
          rcases syn_cases d (namB seg) hu with ⟨_, e⟩ | ⟨e, _⟩
          · rcases e with ⟨_, e⟩ | ⟨e, _⟩
            · rw [h.1] at e; cases e
            · rw [e]; decide
          · rw [e]; decide
        · split
          · exact ⟨hs, by simp⟩
          · exact ⟨appd_pow _ _ _ hs.1 hs.2, appd_six hs _ _ hsu⟩

/-! ### What the log's calls leave -/
theorem nam_ne_m {seg : Int} (h : segOk seg) : namB seg ≠ mB := by
  intro e
  have e2 := congrArg (fun x : ByteArray => x.data.toList) e
  have e3 : nam seg = [109] := e2
  rw [nam_ok h] at e3
  injection e3 with e4
  exact absurd e4 (by decide)
theorem putM_m (d : Dk) (seg : Int) (rec : ByteArray) : hit mB (putM d seg rec).1.fs = hit mB d.fs := by
  unfold putM
  split
  · rfl
  · rename_i hs
    have hs : segOk seg := by simpa using hs
    split
    · rfl
    · unfold putB putA
      split
      · exact appd_apart _ (nam_ne_m hs).symm
      · split
        · exact syn_apart _ (nam_ne_m hs).symm
        · split
          · exact syn_apart _ (nam_ne_m hs).symm
          · rename_i h1
            have hs2 : segOk (seg + 1) := by unfold segOk at hs ⊢; omega
            exact (appd_apart _ (nam_ne_m hs2).symm).trans (syn_apart _ (nam_ne_m hs).symm)
theorem syncM_m (d : Dk) {seg : Int} (hs : segOk seg) : hit mB (syncM d seg).1.fs = hit mB d.fs := by
  unfold syncM
  split
  · exact syn_apart _ (nam_ne_m hs).symm
  · rfl

/-- a store that has never been checked, its power on. -/
structure Kn (N : Nat) (x : Ks) : Prop where
  log : ∃ w : Lw, In w ∧ w.d = x.d ∧ w.seg = x.seg ∧ w.dead = false ∧ w.safe = w.put.length ∧ repM ⟨[], []⟩ w.put = some x.s ∧ w.put.length ≤ N
  on : On x.d
  no : (hit mB x.d.fs).2 = false
  frm : x.frm = 1
  run : x.run = 0
  up : x.down = false
theorem In.uniq {w : Lw} (h : In w) : Uniq w.d.fs := by obtain ⟨rs, r, t, m, h1, _⟩ := h; exact h1.uniq
theorem In.segOk {w : Lw} (h : In w) : segOk w.seg := by obtain ⟨rs, r, t, m, h1, h2, _⟩ := h; rw [h2]; exact h1.ok

theorem Kn.com {N : Nat} {x : Ks} (h : Kn N x) (b : Bm.Bt) : Kn (N + 1) (comM x b).1 ∧ (comM x b).1.run = x.run := by
  obtain ⟨⟨w, hI, hd, hseg, hdead, hsafe, hrep, hput⟩, hon, hno, hfrm, hrun, hup⟩ := h
  unfold comM
  rw [if_neg (by rw [hup]; decide)]
  split
  · exact ⟨⟨⟨w, hI, hd, hseg, hdead, hsafe, hrep, by omega⟩, hon, hno, hfrm, hrun, hup⟩, rfl⟩
  · rename_i hdo
    have hdo : (Bm.doo x.s b).2 = 0 := by simpa using hdo
    obtain ⟨hmay, _⟩ := Bm.doo_ok hdo
    have hu : Uniq x.d.fs := by rw [← hd]; exact In.uniq hI
    obtain ⟨p1, p6⟩ := putM_on hon x.seg (recB b) hu
    have pm := putM_m x.d x.seg (recB b)
    have hP := put_in hI (recB b)
    have hPd : (w.puts (recB b)).d = (putM x.d x.seg (recB b)).1 ∧ (w.puts (recB b)).seg = (putM x.d x.seg (recB b)).2.1 ∧ (w.puts (recB b)).put = (if (putM x.d x.seg (recB b)).2.2 = 0 then w.put ++ [(recB b).data.toList] else w.put) ∧ (w.puts (recB b)).safe = w.put.length ∧ (w.puts (recB b)).dead = false := by
      unfold Lw.puts
      rw [if_neg (by rw [hdead]; decide), hd, hseg]
      refine ⟨rfl, rfl, rfl, ?_, decide_eq_false p6⟩
      simp only
      split
      · rfl
      · exact hsafe
    generalize w.puts (recB b) = w1 at hP hPd
    obtain ⟨q1, q2, q3, q4, q5⟩ := hPd
    unfold comA
    split
    · rename_i he
      rw [if_neg he] at q3
      refine ⟨⟨⟨w1, hP, q1, q2, q5, by rw [q4, q3], by rw [q3]; exact hrep, by rw [q3]; omega⟩, p1, by show (hit mB (putM x.d x.seg (recB b)).1.fs).2 = false; rw [pm]; exact hno, hfrm, hrun, ?_⟩, rfl⟩
      exact decide_eq_false p6
    · rename_i he
      have he : (putM x.d x.seg (recB b)).2.2 = 0 := by simpa using he
      rw [if_pos he] at q3
      generalize putM x.d x.seg (recB b) = p at p1 pm q1 q2 he
      have hS := sync_in hP
      have hpu : Uniq p.1.fs := by rw [← q1]; exact In.uniq hP
      have hok : segOk p.2.1 := by rw [← q2]; exact In.segOk hP
      have hsm := syncM_m p.1 hok
      have hs0 : (syncM p.1 p.2.1).2 = 0 ∧ On (syncM p.1 p.2.1).1 := by
        unfold syncM
        split
        · rename_i hh; exact ⟨syn_on p1 _ hpu hh, syn_pow _ _ p1.1 p1.2⟩
        · exact ⟨rfl, p1⟩
      have hSd : w1.syncs.d = (syncM p.1 p.2.1).1 ∧ w1.syncs.seg = p.2.1 ∧ w1.syncs.put = w1.put ∧ w1.syncs.safe = w1.put.length ∧ w1.syncs.dead = false := by
        unfold Lw.syncs
        rw [q1, q2]
        refine ⟨rfl, rfl, rfl, ?_, q5⟩
        simp only
        rw [if_pos ⟨hs0.1, q5⟩]
      generalize w1.syncs = w2 at hS hSd
      obtain ⟨r1, r2, r3, r4, r5⟩ := hSd
      unfold comB
      rw [if_neg (by rw [hs0.1]; simp)]
      refine ⟨⟨⟨w2, hS, r1, r2, r5, by rw [r4, r3], ?_, by rw [r3, q3, List.length_append]; simp only [List.length_singleton]; omega⟩, hs0.2, by show (hit mB (syncM p.1 p.2.1).1.fs).2 = false; rw [hsm, pm]; exact hno, hfrm, hrun, hup⟩, rfl⟩
      rw [r3, q3, repM_snoc, hrep, Option.bind_some, repK, rec_take hmay, if_neg (by simp)]

/-- a crash of a log all of which is safe. -/
theorem crash_safe {w : Lw} (h : In w) (hsafe : w.safe = w.put.length) (hdead : w.dead = false) (ks : List Int) :
    ∃ seg, recM (crs w.d ks) 1 = (crs w.d ks, w.put, seg, 0) ∧ In ⟨crs w.d ks, seg, w.put, w.safe, false⟩ := by
  obtain ⟨rs, r, t, m, h1, h2, h3, h4, h5⟩ := h
  have ht := h5 hdead
  subst ht
  have hpl : w.put.length = rs.flatten.length + r.length := by rw [h3, List.length_append]
  have hmr : m = r.length := by have := h1.mle; omega
  obtain ⟨us, q, u1, u2, u3, u4⟩ := crs_inv h1 ks
  have hus : us = r := u1.eq_of_length (by have := u1.length_le; omega)
  subst hus
  have hq : q = [] := by
    have htx := u3.text
    have htx0 := h1.text
    rw [u4] at htx
    rcases hit_crs w.d ks (namB ((rs.length : Int) + 1)) with ⟨_, e⟩ | ⟨_, k, e⟩
    · rw [hit_def e] at htx
      have e2 : flat us ++ q = [] := by rw [← htx]; rfl
      exact (List.append_eq_nil_iff.1 e2).2
    · rw [e] at htx
      have l1 := congrArg List.length htx
      have l0 := congrArg List.length htx0
      have l2 : ((hit (namB ((rs.length : Int) + 1)) w.d.fs).1.sf ++ (hit (namB ((rs.length : Int) + 1)) w.d.fs).1.wt.extract 0 k).data.toList.length ≤ (hit (namB ((rs.length : Int) + 1)) w.d.fs).1.sf.data.toList.length + (hit (namB ((rs.length : Int) + 1)) w.d.fs).1.wt.data.toList.length := by
        rw [ByteArray.data_append, Array.toList_append, List.length_append, ByteArray.data_extract]
        simp
        omega
      simp only [List.length_append, List.append_nil] at l1 l0
      have : q.length = 0 := by
        omega
      exact List.eq_nil_of_length_eq_zero this
  subst hq
  have e := rec_clean u3 u4
  have i2 := clean_in (safe := w.safe) u3 (by omega) u4
  rw [h3]
  exact ⟨_, e, i2⟩

theorem Kn.crash {N : Nat} {x : Ks} (h : Kn N x) (ks : List Int) : (crsM x ks).2 = 0 ∧ Kn N (crsM x ks).1 ∧ (crsM x ks).1.s = x.s ∧ (recM (crs x.d ks) 1).2.1.length ≤ N ∧ (redd mB (crs x.d ks).fs).2 ≠ 0 := by
  obtain ⟨⟨w, hI, hd, hseg, hdead, hsafe, hrep, hput⟩, hon, hno, hfrm, hrun, hup⟩ := h
  obtain ⟨seg, e, hI2⟩ := crash_safe hI hsafe hdead ks
  rw [hd] at e hI2
  have hm : (hit mB (crs x.d ks).fs).2 = false := by
    rcases hit_crs x.d ks mB with ⟨_, e⟩ | ⟨e, _⟩
    · exact e
    · rw [hno] at e; cases e
  have hb : begM (crs x.d ks).fs = (1, 0, 0) := by
    unfold begM redd
    rw [hm]; rfl
  have ho : crsM x ks = (⟨crs x.d ks, 1, seg, 0, x.s, false⟩, 0) := by
    unfold crsM openM opnA
    rw [hb]
    simp only [ne_eq, not_true_eq_false, if_false]
    unfold opnB loadS
    simp only [if_true, ne_eq, not_true_eq_false, if_false]
    unfold opnC
    rw [e]
    simp only [ne_eq, not_true_eq_false, if_false]
    rw [hrep]; rfl
  rw [ho]
  exact ⟨rfl, ⟨⟨_, hI2, rfl, rfl, rfl, hsafe, hrep, hput⟩, crs_pow _ _, hm, rfl, rfl, rfl⟩, rfl, by rw [e]; exact hput, by unfold redd; rw [hm]; simp⟩
/-- the store of a new disk. -/
theorem open_new (room : Int) : openM ⟨[], room, -1, false⟩ = (⟨⟨[], room, -1, false⟩, 1, 1, 0, ⟨[], []⟩, false⟩, 0) := by
  have e := rec_clean (x := ⟨[], room, -1, false⟩) (rs := []) (us := []) (m := 0) (by obtain ⟨rs, r, t, m, h1, h2, h3, h4, h5⟩ := new_in room; exact (by
    have e1 : rs = [] := by
      have : (1 : Int) = (rs.length : Int) + 1 := h2
      exact List.eq_nil_of_length_eq_zero (by omega)
    subst e1
    have e2 : r = [] := by simpa using h3.symm
    subst e2
    have e3 := h5 rfl
    subst e3
    have e4 : m = 0 := Nat.le_zero.1 h1.mle
    subst e4
    exact h1)) rfl
  have hb : begM (⟨[], room, -1, false⟩ : Dk).fs = (1, 0, 0) := rfl
  unfold openM opnA
  rw [hb]
  simp only [ne_eq, not_true_eq_false, if_false]
  unfold opnB loadS
  simp only [if_true, ne_eq, not_true_eq_false, if_false]
  unfold opnC
  rw [e]
  rfl
theorem open_kn (room : Int) : Kn 0 (openM ⟨[], room, -1, false⟩).1 := by
  rw [open_new]
  exact ⟨⟨_, new_in room, rfl, rfl, rfl, rfl, rfl, Nat.le_refl _⟩, ⟨rfl, by show (-1 : Int) < 0; omega⟩, rfl, rfl, rfl, rfl⟩
/-- sizes are kept. -/
theorem Bnd.crsK {B : Nat} {d : Dk} (h : Bnd B d) (ks : List Int) : Bnd B (Dkm.crs d ks) :=
  ⟨crs_sum d ks h.sum, by rw [crs_len]; exact h.few, croom_in ks d.fs d.room h.room _, ⟨by show (-9223372036854775808 : Int) ≤ -1; decide, by show (-1 : Int) ≤ 9223372036854775807; decide⟩⟩
theorem Bnd.com {B : Nat} {x : Ks} (h : Bnd B x.d) (hB : 65536 ≤ B) (b : Bm.Bt) : Bnd B (comM x b).1.d := by
  unfold comM
  split
  · exact h
  · split
    · exact h
    · have h1 := h.putM hB x.seg (recB b)
      unfold comA
      split
      · exact h1
      · have h2 := h1.syncM (putM x.d x.seg (recB b)).2.1
        unfold comB
        split
        · exact h2
        · exact h2
/-- a token that was decided: nothing is committed. -/
theorem com_there {x : Ks} {b c : Bm.Bt} (hup : x.down = false) (hf : (find c.tok x.s.toks).2 = true) (hm : Bm.may c = true) : comM x c = (x, 8) := by
  have e : Bm.doo x.s c = (x.s, 8) := by unfold Bm.doo; rw [if_neg (by rw [hm]; simp), if_pos hf]
  unfold comM
  rw [if_neg (by rw [hup]; decide), e]
  rfl
end Km
end Go.Proofs.YtbbfbdfmeifdfaaGreatDoor

/- Contracts: errors.As and errors.Is at the faults of package kv; wrong, unformed, number. -/
namespace Go.Proofs.YtbbfbdfmeifdfaaGreatDoor
set_option maxRecDepth 100000
open Go.RowKit Go.Extern.Stop Go.Stop Go.Extern
set_option linter.unusedVariables false
set_option linter.unusedSimpArgs false

/-- a fault, as an error. -/
abbrev fltV (a : Addr) (e : Int) : Value := .iface 149 (.agg #[.iface 330 (.pointer (some a)), .int .i64 e])
abbrev fltW (T : TypeId) (v : Value) (e : Int) : Value := .iface 149 (.agg #[.iface T v, .int .i64 e])

/-- nil: false. -/
theorem kas_nil (t : Value) (w : World) :
    Calls Tryz.prog 82 #[.nilIface, t] w fun e w' => e = .returned (.bool false) ∧ w' = w := by
  go_enter Tryz.func82, Tryz.ntmps82
  go_wp2
  go_ret
  exact ⟨rfl, rfl⟩

theorem kvOfP (t : Addr) (w : World) : (ReflectliteValue.unpack (.iface 151 (.pointer (some t)))).run Tryz.prog w
    = .ok (.agg #[.pointer (some ⟨8, 151, none⟩), .pointer (some ⟨w.heap.size, 0, none⟩), .int .u64 150]) (w.alloc (.cells #[.pointer (some t)] 151)) := by kernel_rfl
theorem kvTyP (a : Addr) (w : World) : (ReflectliteValue.methodAny (ReflectliteValue.valueError "reflectlite.Value.Type" 0) (fun t _ _ _ => ReflectliteType.toType t) #[.agg #[.pointer (some ⟨8, 151, none⟩), .pointer (some a), .int .u64 150]]).run Tryz.prog w
    = .ok (.iface 238 (.agg #[.pointer (some ⟨8, 151, none⟩)])) w := by kernel_rfl
theorem kvMeKind (h : Value) (w : World) : (Go.method 463 238 (.agg #[h]) "Kind").run Tryz.prog w = .ok (272, h) w := by kernel_rfl
theorem kvKindP (w : World) : ((ReflectliteType.abiMethod fun t => (fun a : Nat => Value.int IntKind.u8 (a : Int)) <$> Rtype.kind t) #[.pointer (some ⟨8, 151, none⟩)]).run Tryz.prog w = .ok (.int .u8 22) w := by kernel_rfl
theorem kvKindF (w : World) : ((ReflectliteType.abiMethod fun t => (fun a : Nat => Value.int IntKind.u8 (a : Int)) <$> Rtype.kind t) #[.pointer (some ⟨8, 149, none⟩)]).run Tryz.prog w = .ok (.int .u8 25) w := by kernel_rfl
theorem kvRlm (z : Sem Value) (f : TypeId → Addr → Nat → Nat → Sem Value) (v : Value) :
    ReflectliteValue.method z f #[v] = (do match ← ReflectliteValue.parts v with | none => z | some (t, a, fl) => f t a fl (fl % 32)) := rfl
theorem kvPartsP (a : Addr) (w : World) : (ReflectliteValue.parts (.agg #[.pointer (some ⟨8, 151, none⟩), .pointer (some a), .int .u64 150])).run Tryz.prog w = .ok (some (151, a, 150)) w := by kernel_rfl
theorem kvIsNil (a p : Addr) (W : World) (ha : W.cell? a = some (.pointer (some p))) :
    (ReflectliteValue.method (ReflectliteValue.valueError "reflectlite.Value.IsNil" 0) ReflectliteValue.isNil #[.agg #[.pointer (some ⟨8, 151, none⟩), .pointer (some a), .int .u64 150]]).run Tryz.prog W = .ok (.bool false) W := by
  rw [kvRlm]
  simp only [Sem.run_bind, kvPartsP, Result.andThen]
  simp [ReflectliteValue.isNil, loadVar, isAgg, underlying, Tryz.underlying151, ha, Result.andThen]
theorem kvMeElem (h : Value) (w : World) : (Go.method 463 238 (.agg #[h]) "Elem").run Tryz.prog w = .ok (285, .agg #[h]) w := by kernel_rfl
theorem kvMeImpl (h : Value) (w : World) : (Go.method 463 238 (.agg #[h]) "Implements").run Tryz.prog w = .ok (286, .agg #[h]) w := by kernel_rfl
theorem kvMeAssi (h : Value) (w : World) : (Go.method 463 238 (.agg #[h]) "AssignableTo").run Tryz.prog w = .ok (283, .agg #[h]) w := by kernel_rfl
theorem kvElemP (w : World) : (ReflectliteType.method ReflectliteType.elem #[.agg #[.pointer (some ⟨8, 151, none⟩)]]).run Tryz.prog w = .ok (.iface 238 (.agg #[.pointer (some ⟨8, 149, none⟩)])) w := by kernel_rfl
theorem kvImplF (w : World) : (ReflectliteType.relation "Implements" ReflectliteType.implements_ #[.agg #[.pointer (some ⟨8, 149, none⟩)], .iface 238 (.agg #[.pointer (some ⟨8, 92, none⟩)])]).run Tryz.prog w = .ok (.bool true) w := by kernel_rfl
theorem kvTypeOfF (v : Value) (w : World) : (ReflectliteType.typeOf #[.iface 149 v]).run Tryz.prog w = .ok (.iface 238 (.agg #[.pointer (some ⟨8, 149, none⟩)])) w := by kernel_rfl
theorem kvAssiF (w : World) : (ReflectliteType.relation "AssignableTo" ReflectliteType.assignableTo #[.agg #[.pointer (some ⟨8, 149, none⟩)], .iface 238 (.agg #[.pointer (some ⟨8, 149, none⟩)])]).run Tryz.prog w = .ok (.bool true) w := by kernel_rfl
theorem kvOfF (T : TypeId) (v : Value) (e : Int) (w : World) : (ReflectliteValue.unpack (.iface 149 (.agg #[.iface T v, .int .i64 e]))).run Tryz.prog w
    = .ok (.agg #[.pointer (some ⟨8, 149, none⟩), .pointer (some ⟨w.heap.size, 0, none⟩), .int .u64 153]) (w.alloc (.cells #[.iface T v, .int .i64 e] 149)) := by kernel_rfl
theorem kvElemOfP (w : World) : (Rtype.elem? 151).run Tryz.prog w = .ok (some 149) w := by kernel_rfl
theorem kvMkF (p : Addr) (w : World) : (ReflectliteValue.mk 149 p ReflectliteValue.flagAddr).run Tryz.prog w = .ok (.agg #[.pointer (some ⟨8, 149, none⟩), .pointer (some p), .int .u64 409]) w := by kernel_rfl
theorem kvElemV (a p : Addr) (W : World) (ha : W.cell? a = some (.pointer (some p))) :
    (ReflectliteValue.method (ReflectliteValue.valueError "reflectlite.Value.Elem" 0) ReflectliteValue.elem #[.agg #[.pointer (some ⟨8, 151, none⟩), .pointer (some a), .int .u64 150]]).run Tryz.prog W
      = .ok (.agg #[.pointer (some ⟨8, 149, none⟩), .pointer (some p), .int .u64 409]) W := by
  rw [kvRlm]
  simp only [Sem.run_bind, kvPartsP, Result.andThen]
  simp [ReflectliteValue.elem, loadVar, isAgg, underlying, Tryz.underlying151, ha, Result.andThen, kvElemOfP, kvMkF]
theorem kvRls (v x : Value) : ReflectliteValue.set #[v, x] = (do
    let (some (dst, a, fl), some (src, b, _)) := (← ReflectliteValue.parts v, ← ReflectliteValue.parts x)
      | unsupported (.noEntry "extern/(internal/reflectlite.Value).Set.zeroValue")
    if fl / ReflectliteValue.flagAddr % 2 == 0 then unsupported (.noEntry "extern/(internal/reflectlite.Value).Set.unaddressable")
    let val ← loadVar src b
    if ← Rtype.directlyAssignable dst src then storeVar dst a val
    else if ← Rtype.implements dst src then
      if (← Rtype.kind src) == 20 then
        match val with
        | .nilIface => unsupported (.noEntry "extern/reflectlite: a nil value of one interface type handed on as a value of another")
        | _ => storeVar dst a val
      else storeVar dst a (.iface src val)
    else panicString ("reflectlite.Set: value of type " ++ (← Rtype.spelt src) ++ " is not assignable to type " ++ (← Rtype.spelt dst))
    pure (.tuple #[])) := rfl
theorem kvPartsA (a : Addr) (w : World) : (ReflectliteValue.parts (.agg #[.pointer (some ⟨8, 149, none⟩), .pointer (some a), .int .u64 409])).run Tryz.prog w = .ok (some (149, a, 409)) w := by kernel_rfl
theorem kvPartsB (a : Addr) (w : World) : (ReflectliteValue.parts (.agg #[.pointer (some ⟨8, 149, none⟩), .pointer (some a), .int .u64 153])).run Tryz.prog w = .ok (some (149, a, 153)) w := by kernel_rfl
theorem kvDirect (w : World) : (Rtype.directlyAssignable 149 149).run Tryz.prog w = .ok true w := by kernel_rfl
theorem kvSizeF (w : World) : (sizeOf 149).run Tryz.prog w = .ok 2 w := by kernel_rfl
theorem kvLoadF {b : Nat} {T : TypeId} {v : Value} {e : Int} {W : World} (h : Bx W b [.iface T v, .int .i64 e]) : (loadVar 149 ⟨b, 0, none⟩).run Tryz.prog W = .ok (.agg #[.iface T v, .int .i64 e]) W := by
  have h0 := (h 0 _ rfl).1
  have h1 := (h 1 _ rfl).1
  simp [loadVar, isAgg, underlying, Tryz.underlying149, kvSizeF, loadCells, loadCellsFrom, Addr.add, h0, h1, Result.andThen]
theorem kvStoreF {b : Nat} {o0 o1 : Value} (T : TypeId) (v : Value) (e : Int) {W : World} (h : Bx W b [o0, o1]) : (storeVar 149 ⟨b, 0, none⟩ (.agg #[.iface T v, .int .i64 e])).run Tryz.prog W = .ok () ((W.setCell ⟨b, 0, none⟩ (.iface T v)).setCell ⟨b, 1, none⟩ (.int .i64 e)) := by
  have h0 := h 0 _ rfl
  have h1 := (h.set (k := 0) (by simp) (.iface T v)) 1 _ rfl
  have e0 : (store (Addr.add ⟨b, 0, none⟩ 0) (.iface T v)).run Tryz.prog W = .ok () (W.setCell ⟨b, 0, none⟩ (.iface T v)) := by
    rw [run_store Tryz.prog W _ _ _ (by rfl)]
    simp [Addr.add, h0.1, h0.2]
  have e1 : (store (Addr.add ⟨b, 0, none⟩ 1) (.int .i64 e)).run Tryz.prog (W.setCell ⟨b, 0, none⟩ (.iface T v)) = .ok () ((W.setCell ⟨b, 0, none⟩ (.iface T v)).setCell ⟨b, 1, none⟩ (.int .i64 e)) := by
    rw [run_store Tryz.prog _ _ _ _ (by rfl)]
    simp [Addr.add, h1.1, h1.2]
  simp [storeVar, kvSizeF, Value.cells, storeCells, e0, e1, Result.andThen]
/-- (Value).Set at a fault. -/
theorem kvSet {b t : Nat} {o0 o1 : Value} (T : TypeId) (v : Value) (e : Int) {W : World} (hb : Bx W b [.iface T v, .int .i64 e]) (ht : Bx W t [o0, o1]) :
    (ReflectliteValue.set #[.agg #[.pointer (some ⟨8, 149, none⟩), .pointer (some ⟨t, 0, none⟩), .int .u64 409], .agg #[.pointer (some ⟨8, 149, none⟩), .pointer (some ⟨b, 0, none⟩), .int .u64 153]]).run Tryz.prog W
      = .ok (.tuple #[]) ((W.setCell ⟨t, 0, none⟩ (.iface T v)).setCell ⟨t, 1, none⟩ (.int .i64 e)) := by
  rw [kvRls]
  simp only [Sem.run_bind, kvPartsA, kvPartsB, Result.andThen]
  simp [ReflectliteValue.flagAddr, kvLoadF hb, kvDirect, kvStoreF T v e ht, Result.andThen]

/-- errors.errorType's cell. -/
def ErrT (w : World) : Prop := w.cell? ⟨2, 0, none⟩ = some (.iface 238 (.agg #[.pointer (some ⟨8, 92, none⟩)]))

set_option maxHeartbeats 8000000 in
theorem kas_flt (T : TypeId) (v : Value) (e : Int) (t : Nat) (o0 o1 : Value) (w : World) (hg : ErrT w) (hb : Bx w t [o0, o1]) :
    Calls Tryz.prog 82 #[fltW T v e, .iface 151 (.pointer (some ⟨t, 0, none⟩))] w fun ev w' => ev = .returned (.bool true) ∧ ∃ w1, Q w w1 ∧ w' = (w1.setCell ⟨t, 0, none⟩ (.iface T v)).setCell ⟨t, 1, none⟩ (.int .i64 e) := by
  have xValueOf := @run_callFunc_extern Tryz.prog 131 _ (fun args => ReflectliteValue.unpack (args.getD 0 (.tuple #[]))) Tryz.func131 (by kernel_rfl) (by kernel_rfl) (by kernel_rfl) (by kernel_rfl)
  have xType := @run_callFunc_extern Tryz.prog 132 _ (ReflectliteValue.methodAny (ReflectliteValue.valueError "reflectlite.Value.Type" 0) (fun t _ _ _ => ReflectliteType.toType t)) Tryz.func132 (by kernel_rfl) (by kernel_rfl) (by kernel_rfl) (by kernel_rfl)
  have xIsNil := @run_callFunc_extern Tryz.prog 133 _ (ReflectliteValue.method (ReflectliteValue.valueError "reflectlite.Value.IsNil" 0) ReflectliteValue.isNil) Tryz.func133 (by kernel_rfl) (by kernel_rfl) (by kernel_rfl) (by kernel_rfl)
  have xKind := @run_callFunc_extern Tryz.prog 272 _ (ReflectliteType.abiMethod fun t => do pure (.int .u8 (← Rtype.kind t))) Tryz.func272 (by kernel_rfl) (by kernel_rfl) (by kernel_rfl) (by kernel_rfl)
  have xElem := @run_callFunc_extern Tryz.prog 285 _ (ReflectliteType.method ReflectliteType.elem) Tryz.func285 (by kernel_rfl) (by kernel_rfl) (by kernel_rfl) (by kernel_rfl)
  have xImpl := @run_callFunc_extern Tryz.prog 286 _ (ReflectliteType.relation "Implements" ReflectliteType.implements_) Tryz.func286 (by kernel_rfl) (by kernel_rfl) (by kernel_rfl) (by kernel_rfl)
  have xTypeOf := @run_callFunc_extern Tryz.prog 139 _ ReflectliteType.typeOf Tryz.func139 (by kernel_rfl) (by kernel_rfl) (by kernel_rfl) (by kernel_rfl)
  have xAssi := @run_callFunc_extern Tryz.prog 283 _ (ReflectliteType.relation "AssignableTo" ReflectliteType.assignableTo) Tryz.func283 (by kernel_rfl) (by kernel_rfl) (by kernel_rfl) (by kernel_rfl)
  have xVElem := @run_callFunc_extern Tryz.prog 167 _ (ReflectliteValue.method (ReflectliteValue.valueError "reflectlite.Value.Elem" 0) ReflectliteValue.elem) Tryz.func167 (by kernel_rfl) (by kernel_rfl) (by kernel_rfl) (by kernel_rfl)
  have xSet := @run_callFunc_extern Tryz.prog 168 _ ReflectliteValue.set Tryz.func168 (by kernel_rfl) (by kernel_rfl) (by kernel_rfl) (by kernel_rfl)
  have tO := kvTypeOfF
  have mA := kvMeAssi
  have aF := kvAssiF
  have vF := kvOfF
  have f6 := kvOfP
  have f7 := kvTyP
  have mK := kvMeKind
  have mE := kvMeElem
  have mI := kvMeImpl
  have kP := kvKindP
  have kF := kvKindF
  have eP := kvElemP
  have iF := kvImplF
  have n8 := kvIsNil ⟨w.heap.size, 0, none⟩ ⟨t, 0, none⟩ ((w.alloc (.cells #[.pointer (some ⟨t, 0, none⟩)] 151)).alloc (.cells #[.pointer (some ⟨8, 151, none⟩), .pointer (some ⟨w.heap.size, 0, none⟩), .int .u64 150] 196)) (by simp)
  have hlt : 2 < w.heap.size := block_lt_of_cell hg
  have htl : t < w.heap.size := hb.lt
  have hg2 : ((w.alloc (.cells #[.pointer (some ⟨t, 0, none⟩)] 151)).alloc (.cells #[.pointer (some ⟨8, 151, none⟩), .pointer (some ⟨w.heap.size, 0, none⟩), .int .u64 150] 196)).cell? ⟨2, 0, none⟩ = some (.iface 238 (.agg #[.pointer (some ⟨8, 92, none⟩)])) := by
    rw [World.cell?_alloc_lt _ _ ⟨2, 0, none⟩ (by simp; omega), World.cell?_alloc_lt _ _ ⟨2, 0, none⟩ hlt]; exact hg
  have el := kvElemV ⟨w.heap.size, 0, none⟩ ⟨t, 0, none⟩ (((w.alloc (.cells #[.pointer (some ⟨t, 0, none⟩)] 151)).alloc (.cells #[.pointer (some ⟨8, 151, none⟩), .pointer (some ⟨w.heap.size, 0, none⟩), .int .u64 150] 196)).alloc (.cells #[.pointer (some ⟨8, 151, none⟩), .pointer (some ⟨w.heap.size, 0, none⟩), .int .u64 150] 196)) (by rw [World.cell?_alloc_lt _ _ ⟨w.heap.size, 0, none⟩ (by simp; omega)]; simp)
  have st := kvSet (b := w.heap.size + 1 + 1 + 1) (t := t) T v e (W := (((w.alloc (.cells #[.pointer (some ⟨t, 0, none⟩)] 151)).alloc (.cells #[.pointer (some ⟨8, 151, none⟩), .pointer (some ⟨w.heap.size, 0, none⟩), .int .u64 150] 196)).alloc (.cells #[.pointer (some ⟨8, 151, none⟩), .pointer (some ⟨w.heap.size, 0, none⟩), .int .u64 150] 196)).alloc (.cells #[.iface T v, .int .i64 e] 149))
    (by have := Bx.new (((w.alloc (.cells #[.pointer (some ⟨t, 0, none⟩)] 151)).alloc (.cells #[.pointer (some ⟨8, 151, none⟩), .pointer (some ⟨w.heap.size, 0, none⟩), .int .u64 150] 196)).alloc (.cells #[.pointer (some ⟨8, 151, none⟩), .pointer (some ⟨w.heap.size, 0, none⟩), .int .u64 150] 196)) [.iface T v, .int .i64 e] 149; simpa using this)
    ((((hb.alloc _).alloc _).alloc _).alloc _)
  have QQ := Lib.hid ((((Q.refl w).alloc (.cells #[.pointer (some ⟨t, 0, none⟩)] 151)).alloc (.cells #[.pointer (some ⟨8, 151, none⟩), .pointer (some ⟨w.heap.size, 0, none⟩), .int .u64 150] 196)).alloc (.cells #[.pointer (some ⟨8, 151, none⟩), .pointer (some ⟨w.heap.size, 0, none⟩), .int .u64 150] 196) |>.alloc (.cells #[.iface T v, .int .i64 e] 149))
  clear hb
  go_enter Tryz.func82, Tryz.ntmps82
  go_wp2
  refine wp_loop_rounds 1 ?_
  rw [rounds_succ]
  go_wp2
  go_ret
  exact ⟨rfl, _, QQ.out, rfl⟩
end Go.Proofs.YtbbfbdfmeifdfaaGreatDoor

/- The table of powers of ten: what it holds, and that it stays. -/
namespace Go.Proofs.YtbbfbdfmeifdfaaGreatDoor
set_option maxRecDepth 100000
open Go.RowKit
set_option linter.unusedVariables false

/-- The library's table of powers of ten reads as it was laid. -/
def Tab (w : World) : Prop := Lib.TabIs Tryz.prog w "internal/strconv.uint64pow10" .u64 Lib.pow10Tab
theorem Tab.q {w w' : World} (h : Tab w) (hq : Q w w') : Tab w' := Lib.tabBelow_of_tabIs h w' hq.below
end Go.Proofs.YtbbfbdfmeifdfaaGreatDoor

/- Contracts: kv.wrong, unformed, number; errors.Is at the faults of kv. -/
namespace Go.Proofs.YtbbfbdfmeifdfaaGreatDoor
set_option maxRecDepth 100000
open Go.RowKit Go.Extern.Stop Go.Stop Go.Extern
set_option linter.unusedVariables false
set_option linter.unusedSimpArgs false

/-- the two errors that stand within a fault. -/
structure Sen (w : World) (a b : Addr) : Prop where
  ga : w.cell? ⟨0, 0, none⟩ = some (.iface 330 (.pointer (some a)))
  gb : w.cell? ⟨1, 0, none⟩ = some (.iface 330 (.pointer (some b)))
  ne : a ≠ b
  ha : ∃ c t, w.heap[a.block]? = some (.cells c t (0, 0))
  hb : ∃ c t, w.heap[b.block]? = some (.cells c t (0, 0))
theorem lt_of_some {w : World} {k : Nat} {o : Obj} (h : w.heap[k]? = some o) : k < w.heap.size := (Array.getElem?_eq_some_iff.1 h).1
theorem Sen.q {w w' : World} {a b : Addr} (h : Sen w a b) (hq : Q w w') : Sen w' a b := by
  obtain ⟨g1, g2, hne, ⟨c1, t1, h1⟩, c2, t2, h2⟩ := h
  exact ⟨(hq.below.cell (block_lt_of_cell g1)).trans g1, (hq.below.cell (block_lt_of_cell g2)).trans g2, hne, ⟨c1, t1, (hq.below.block _ (lt_of_some h1)).trans h1⟩, c2, t2, (hq.below.block _ (lt_of_some h2)).trans h2⟩
theorem ErrT.q {w w' : World} (h : ErrT w) (hq : Q w w') : ErrT w' := (hq.below.cell (block_lt_of_cell h)).trans h
/-- what a call of kv finds: the table of powers of ten, the type of errors, the two errors. -/
structure Kt (w : World) (a b : Addr) : Prop where
  tab : Tab w
  typ : ErrT w
  sen : Sen w a b
theorem Kt.q {w w' : World} {a b : Addr} (h : Kt w a b) (hq : Q w w') : Kt w' a b := ⟨h.tab.q hq, h.typ.q hq, h.sen.q hq⟩

/-- the error of a number. -/
def errV (a b : Addr) (e : Int) : Value := if e = 0 then .nilIface else fltV (if e = 6 then a else b) e
theorem errV_nil (a b : Addr) : errV a b 0 = .nilIface := if_pos rfl
theorem errV_six (a b : Addr) : errV a b 6 = fltV a 6 := by unfold errV; rw [if_neg (by decide), if_pos rfl]
theorem errV_oth (a b : Addr) {e : Int} (h0 : e ≠ 0) (h6 : e ≠ 6) : errV a b e = fltV b e := by unfold errV; rw [if_neg h0, if_neg h6]

theorem kwrong_any (e : Int) (a b : Addr) (w : World) (hS : Sen w a b) :
    Calls Tryz.prog 80 #[.int .i64 e] w fun ev w' => ev = .returned (errV a b e) ∧ w' = w := by
  obtain ⟨g1, g2, _⟩ := hS
  by_cases h0 : e = 0
  · subst h0
    go_enter Tryz.func80, Tryz.ntmps80
    go_wp2
    go_ret
    exact ⟨by rw [errV_nil]; rfl, rfl⟩
  · by_cases h6 : e = 6
    · subst h6
      go_enter Tryz.func80, Tryz.ntmps80
      go_wp2
      go_ret
      exact ⟨by rw [errV_six]; rfl, rfl⟩
    · have H := Lib.hid (errV_oth a b h0 h6)
      have b0 : (e == 0) = false := by simpa using h0
      have b6 : (e == 6) = false := by simpa using h6
      clear h0 h6
      go_enter Tryz.func80, Tryz.ntmps80
      go_wp2
      go_ret
      exact ⟨by rw [H.out]; rfl, rfl⟩

/-- an error that is nil, or a fault of that number. -/
def Er (v : Value) (n : Int) : Prop := v = .nilIface ∧ n = 0 ∨ ∃ T u, v = fltW T u n
theorem er_wrong (a b : Addr) (e : Int) : Er (errV a b e) e := by
  by_cases h : e = 0
  · subst h; exact .inl ⟨errV_nil a b, rfl⟩
  · unfold errV; rw [if_neg h]; exact .inr ⟨_, _, rfl⟩

/-- the error of bytes that had this one. -/
def unfV (a b : Addr) (e : Int) : Value := if e = 0 then .nilIface else fltW 149 (.agg #[.iface 330 (.pointer (some (if e = 6 then a else b))), .int .i64 e]) 3
theorem kunf_any (e : Int) (a b : Addr) (w : World) (hS : Sen w a b) :
    Calls Tryz.prog 122 #[.int .i64 e] w fun ev w' => ev = .returned (unfV a b e) ∧ w' = w := by
  have K := Lib.hid (kwrong_any e a b w hS)
  clear hS
  by_cases h0 : e = 0
  · subst h0
    go_enter Tryz.func122, Tryz.ntmps122
    go_wp2
    go_ret
    exact ⟨by unfold unfV; rw [if_pos rfl]; rfl, rfl⟩
  · have H := Lib.hid (show unfV a b e = fltW 149 (.agg #[.iface 330 (.pointer (some (if e = 6 then a else b))), .int .i64 e]) 3 by unfold unfV; rw [if_neg h0])
    have K2 : Hid (Calls Tryz.prog 80 #[.int .i64 e] w fun ev w' => ev = .returned (fltV (if e = 6 then a else b) e) ∧ w' = w) := by
      have := K.out
      unfold errV at this
      rw [if_neg h0] at this
      exact Lib.hid this
    have b0 : (e == 0) = false := by simpa using h0
    clear h0 K
    generalize (if e = 6 then a else b) = c at H K2
    go_enter Tryz.func122, Tryz.ntmps122
    go_wp2_with fail
    refine K2.out.mono ?_
    rintro ev w2 ⟨rfl, rfl⟩
    go_wp2
    go_ret
    exact ⟨by rw [H.out]; rfl, rfl⟩
theorem knum_any (v : Value) (n : Int) (w : World) (hv : Er v n) (hT : ErrT w) :
    Calls Tryz.prog 37 #[v] w fun ev w' => ev = .returned (.int .i64 n) ∧ Q w w' := by
  rcases hv with ⟨rfl, rfl⟩ | ⟨T, u, rfl⟩
  · have B := Lib.hid (Bx.new w [.nilIface, .int .i64 0] 149)
    have QA := Lib.hid ((Q.refl w).alloc (.cells #[.nilIface, .int .i64 0] 149))
    go_enter Tryz.func37, Tryz.ntmps37
    go_upto_region 2 with (fail)
    generalize w.alloc (.cells #[.nilIface, .int .i64 0] 149) = w1 at B QA ⊢
    have h1 := (B.out 1 _ rfl).1
    go_wp2_with fail
    refine (kas_nil _ _).mono ?_
    rintro ev w2 ⟨rfl, rfl⟩
    go_wp2
    go_ret
    exact ⟨rfl, QA.out⟩
  · have B := Lib.hid (Bx.new w [.nilIface, .int .i64 0] 149)
    have QA := Lib.hid ((Q.refl w).alloc (.cells #[.nilIface, .int .i64 0] 149))
    have HT := Lib.hid (hT.q QA.out)
    clear hT
    go_enter Tryz.func37, Tryz.ntmps37
    go_upto_region 2 with (fail)
    generalize w.alloc (.cells #[.nilIface, .int .i64 0] 149) = w1 at B QA HT ⊢
    go_wp2_with fail
    refine (kas_flt T u n w.heap.size .nilIface (.int .i64 0) w1 HT.out B.out).mono ?_
    rintro ev w2 ⟨rfl, w3, q3, rfl⟩
    have B3 := ((B.out.q q3).set (k := 0) (by simp) (.iface T u)).set (k := 1) (by simp) (.int .i64 n)
    have h1 := (B3 1 _ rfl).1
    have Q3 := Lib.hid (((QA.out.trans q3).setCell (p := ⟨w.heap.size, 0, none⟩) (Nat.le_refl _) (.iface T u)).setCell (p := ⟨w.heap.size, 1, none⟩) (Nat.le_refl _) (.int .i64 n))
    clear B3 q3
    generalize (w3.setCell ⟨w.heap.size, 0, none⟩ (.iface T u)).setCell ⟨w.heap.size, 1, none⟩ (.int .i64 n) = w4 at h1 Q3 ⊢
    go_wp2
    go_ret
    exact ⟨rfl, Q3.out⟩

/-! ### errors.Is -/
theorem kvIsTypeOf (v : Value) (w : World) : (Extern.ReflectliteType.typeOf #[.iface 330 v]).run Tryz.prog w = .ok (.iface 238 (.agg #[.pointer (some ⟨8, 330, none⟩)])) w := by kernel_rfl
/-- (rtype).Comparable, the model's entry. -/
noncomputable def kvCmpE : Array Value → Sem Value := Extern.ReflectliteType.method fun t => do Extern.Rtype.noPackHeld "Comparable" t; pure (.bool (← typeInfo t).comparable)
theorem kvIsCmp (w : World) : (kvCmpE #[.agg #[.pointer (some ⟨8, 330, none⟩)]]).run Tryz.prog w = .ok (.bool true) w := by kernel_rfl
theorem kvMeCmp (v : Value) (w : World) : (Go.method 463 238 v "Comparable").run Tryz.prog w = .ok (284, v) w := by kernel_rfl
theorem kvCmp : (Tryz.prog.info? 330).map (·.comparable) = some true := by kernel_rfl
theorem kvSizeE : (Tryz.prog.info? 332).map (·.size) = some 1 := by kernel_rfl
theorem kvNoIsE (v : Value) (xT : TypeId) (w : World) : (Instr.typeAssert (.iface 330 v) xT 256 true).run Tryz.prog w = .ok (.tuple #[.nilIface, .bool false]) w := run_typeAssert_lacksB Tryz.underlying256 (by kernel_rfl) (by kernel_rfl) v xT w
theorem kvNoUnwE (v : Value) (xT : TypeId) (w : World) : (Instr.typeAssert (.iface 330 v) xT 245 true).run Tryz.prog w = .ok (.tuple #[.nilIface, .bool false]) w := run_typeAssert_lacksB Tryz.underlying245 (by kernel_rfl) (by kernel_rfl) v xT w
theorem kvNoUnwsE (v : Value) (xT : TypeId) (w : World) : (Instr.typeAssert (.iface 330 v) xT 247 true).run Tryz.prog w = .ok (.tuple #[.nilIface, .bool false]) w := run_typeAssert_lacksB Tryz.underlying247 (by kernel_rfl) (by kernel_rfl) v xT w
theorem kvNoIsF (v : Value) (xT : TypeId) (w : World) : (Instr.typeAssert (.iface 149 v) xT 256 true).run Tryz.prog w = .ok (.tuple #[.nilIface, .bool false]) w := run_typeAssert_lacksB Tryz.underlying256 (by kernel_rfl) (by kernel_rfl) v xT w
theorem kvUnwF (v : Value) (xT : TypeId) (w : World) : (Instr.typeAssert (.iface 149 v) xT 245 true).run Tryz.prog w = .ok (.tuple #[.iface 149 v, .bool true]) w := run_typeAssert_hasB Tryz.underlying245 (by kernel_rfl) v xT w
theorem kvMeUnw (v : Value) (w : World) : (Go.method 463 149 v "Unwrap").run Tryz.prog w = .ok (276, v) w := by kernel_rfl

theorem kis_nil (a : Addr) (w : World) :
    Calls Tryz.prog 95 #[.nilIface, .iface 330 (.pointer (some a))] w fun e w' => e = .returned (.bool false) ∧ w' = w := by
  have hn := run_eql_iface_nil_left (P := Tryz.prog) w 330 (.pointer (some a)) Tryz.underlying92
  go_enter Tryz.func95, Tryz.ntmps95
  go_wp2
  go_ret
  exact ⟨rfl, rfl⟩
set_option maxHeartbeats 4000000 in
theorem kis_same (a : Addr) (e : Int) (w : World) :
    Calls Tryz.prog 95 #[fltV a e, .iface 330 (.pointer (some a))] w fun ev w' => ev = .returned (.bool true) ∧ w' = w.alloc (.cells #[.iface 330 (.pointer (some a)), .int .i64 e] 149) := by
  obtain ⟨i, hi, hcmp⟩ := Option.map_eq_some_iff.1 kvCmp
  obtain ⟨j, hj, hjs⟩ := Option.map_eq_some_iff.1 kvSizeE
  have xT := @run_callFunc_extern Tryz.prog 139 _ Extern.ReflectliteType.typeOf Tryz.func139 (by kernel_rfl) (by kernel_rfl) (by kernel_rfl) (by kernel_rfl)
  have xC := @run_callFunc_extern Tryz.prog 284 _ kvCmpE Tryz.func284 (by kernel_rfl) (by kernel_rfl) (by kernel_rfl) (by kernel_rfl)
  have tT := kvIsTypeOf
  have cT := kvIsCmp
  have mR := kvMeCmp
  have nF := kvNoIsF
  have uF := kvUnwF
  have mU := kvMeUnw
  have heq := fun W => run_eql_iface_ptr_same (P := Tryz.prog) W a Tryz.underlying92 Tryz.underlying330 hi hcmp hj
  have hty := run_eql_iface_types (P := Tryz.prog) 149 330 (.agg #[.iface 330 (.pointer (some a)), .int .i64 e]) (.pointer (some a)) Tryz.underlying92 (by decide) w
  go_enter Tryz.func95, Tryz.ntmps95
  go_wp2
  refine wp_loop_rounds 2 ?_
  rw [rounds_succ]
  go_wp2
  rw [rounds_succ]
  go_wp2
  go_ret
  exact ⟨rfl, rfl⟩
set_option maxHeartbeats 4000000 in
theorem kis_other (a b : Addr) (e : Int) (w : World) (hS : Sen w a b) :
    Calls Tryz.prog 95 #[fltV b e, .iface 330 (.pointer (some a))] w fun ev w' => ev = .returned (.bool false) ∧ w' = w.alloc (.cells #[.iface 330 (.pointer (some b)), .int .i64 e] 149) := by
  obtain ⟨i, hi, hcmp⟩ := Option.map_eq_some_iff.1 kvCmp
  obtain ⟨j, hj, hjs⟩ := Option.map_eq_some_iff.1 kvSizeE
  have xT := @run_callFunc_extern Tryz.prog 139 _ Extern.ReflectliteType.typeOf Tryz.func139 (by kernel_rfl) (by kernel_rfl) (by kernel_rfl) (by kernel_rfl)
  have xC := @run_callFunc_extern Tryz.prog 284 _ kvCmpE Tryz.func284 (by kernel_rfl) (by kernel_rfl) (by kernel_rfl) (by kernel_rfl)
  have tT := kvIsTypeOf
  have cT := kvIsCmp
  have mR := kvMeCmp
  have nE := kvNoIsE
  have uE := kvNoUnwE
  have vE := kvNoUnwsE
  have nF := kvNoIsF
  have uF := kvUnwF
  have mU := kvMeUnw
  have hS2 := hS.q ((Q.refl w).alloc (.cells #[.iface 330 (.pointer (some b)), .int .i64 e] 149))
  have hne := hS.ne
  obtain ⟨_, _, _, ⟨c1, t1, h1⟩, c2, t2, h2⟩ := hS2
  have heq := run_eql_iface_ptr_other (P := Tryz.prog) (w.alloc (.cells #[.iface 330 (.pointer (some b)), .int .i64 e] 149)) Tryz.underlying92 Tryz.underlying330 hi hcmp hj (by rw [hjs]; decide) hne.symm h2 h1
  have hty := run_eql_iface_types (P := Tryz.prog) 149 330 (.agg #[.iface 330 (.pointer (some b)), .int .i64 e]) (.pointer (some a)) Tryz.underlying92 (by decide) w
  clear h1 h2 hne hS
  go_enter Tryz.func95, Tryz.ntmps95
  go_wp2
  refine wp_loop_rounds 2 ?_
  rw [rounds_succ]
  go_wp2
  rw [rounds_succ]
  go_wp2
  go_ret
  exact ⟨rfl, rfl⟩
/-- is it the loss of power? -/
theorem kis_any (a b : Addr) (e : Int) (w : World) (hS : Sen w a b) :
    Calls Tryz.prog 95 #[errV a b e, .iface 330 (.pointer (some a))] w fun ev w' => ev = .returned (.bool (decide (e = 6))) ∧ Q w w' := by
  by_cases h0 : e = 0
  · subst h0
    rw [errV_nil]
    exact (kis_nil a w).mono fun ev w' h => ⟨h.1, by rw [h.2]; exact Q.refl _⟩
  · by_cases h6 : e = 6
    · subst h6
      rw [errV_six]
      exact (kis_same a 6 w).mono fun ev w' h => ⟨h.1, by rw [h.2]; exact (Q.refl _).alloc _⟩
    · rw [errV_oth a b h0 h6]
      exact (kis_other a b e w hS).mono fun ev w' h => ⟨by rw [h.1, decide_eq_false h6], by rw [h.2]; exact (Q.refl _).alloc _⟩
end Go.Proofs.YtbbfbdfmeifdfaaGreatDoor

/- Contracts: batch.wrong, rise, slices.ContainsFunc of it, May; the document's May. -/
namespace Go.Proofs.YtbbfbdfmeifdfaaGreatDoor
set_option maxRecDepth 100000
open Go.RowKit Prm
set_option linter.unusedVariables false
set_option linter.unusedSimpArgs false

abbrev batV (k : Int) (tok : ByteArray) (A : Option Addr) (n c : Nat) : Value := .agg #[.int .i64 k, .string tok, .slice A n c]

theorem wrong_any (x : Wr) (w : World) : Calls Tryz.prog 175 #[x.v] w fun e w' => e = .returned (.bool (Bm.wrong x)) ∧ Q w w' := by
  obtain ⟨a, b, d⟩ := x
  cases d
  · by_cases h1 : (a.size : Int) < 1
    · have hr : Bm.wrong ⟨a, b, false⟩ = true := Bm.wrong_t (by simp only [Bool.false_eq_true, if_false, if_true]; omega)
      have HR := Lib.hid hr
      clear hr
      go_enter Tryz.func175, Tryz.ntmps175
      go_wp2
      go_ret
      exact ⟨ret_bool (by rw [HR.out] <;> first | rfl | exact decide_eq_true (by omega) | exact decide_eq_false (by omega)), (Q.refl _).alloc _⟩
    · by_cases h2 : (32 : Int) < (a.size : Int)
      · have hr : Bm.wrong ⟨a, b, false⟩ = true := Bm.wrong_t (by simp only [Bool.false_eq_true, if_false, if_true]; omega)
        have HR := Lib.hid hr
        clear hr
        go_enter Tryz.func175, Tryz.ntmps175
        go_wp2
        go_ret
        exact ⟨ret_bool (by rw [HR.out] <;> first | rfl | exact decide_eq_true (by omega) | exact decide_eq_false (by omega)), (Q.refl _).alloc _⟩
      · by_cases h3 : (64 : Int) < (b.size : Int)
        · have hr : Bm.wrong ⟨a, b, false⟩ = true := Bm.wrong_t (by simp only [Bool.false_eq_true, if_false, if_true]; omega)
          have HR := Lib.hid hr
          clear hr
          go_enter Tryz.func175, Tryz.ntmps175
          go_wp2
          go_ret
          exact ⟨ret_bool (by rw [HR.out] <;> first | rfl | exact decide_eq_true (by omega) | exact decide_eq_false (by omega)), (Q.refl _).alloc _⟩
        · have hr : Bm.wrong ⟨a, b, false⟩ = false := Bm.wrong_f (by simp only [Bool.false_eq_true, if_false, if_true]; omega)
          have HR := Lib.hid hr
          clear hr
          go_enter Tryz.func175, Tryz.ntmps175
          go_wp2
          go_ret
          exact ⟨ret_bool (by rw [HR.out] <;> first | rfl | exact decide_eq_true (by omega) | exact decide_eq_false (by omega)), (Q.refl _).alloc _⟩
  · by_cases h1 : (a.size : Int) < 1
    · have hr : Bm.wrong ⟨a, b, true⟩ = true := Bm.wrong_t (by simp only [Bool.false_eq_true, if_false, if_true]; omega)
      have HR := Lib.hid hr
      clear hr
      go_enter Tryz.func175, Tryz.ntmps175
      go_wp2
      go_ret
      exact ⟨ret_bool (by rw [HR.out] <;> first | rfl | exact decide_eq_true (by omega) | exact decide_eq_false (by omega)), (Q.refl _).alloc _⟩
    · by_cases h2 : (32 : Int) < (a.size : Int)
      · have hr : Bm.wrong ⟨a, b, true⟩ = true := Bm.wrong_t (by simp only [Bool.false_eq_true, if_false, if_true]; omega)
        have HR := Lib.hid hr
        clear hr
        go_enter Tryz.func175, Tryz.ntmps175
        go_wp2
        go_ret
        exact ⟨ret_bool (by rw [HR.out] <;> first | rfl | exact decide_eq_true (by omega) | exact decide_eq_false (by omega)), (Q.refl _).alloc _⟩
      · by_cases h3 : (0 : Int) < (b.size : Int)
        · have hr : Bm.wrong ⟨a, b, true⟩ = true := Bm.wrong_t (by simp only [Bool.false_eq_true, if_false, if_true]; omega)
          have HR := Lib.hid hr
          clear hr
          go_enter Tryz.func175, Tryz.ntmps175
          go_wp2
          go_ret
          exact ⟨ret_bool (by rw [HR.out] <;> first | rfl | exact decide_eq_true (by omega) | exact decide_eq_false (by omega)), (Q.refl _).alloc _⟩
        · have hr : Bm.wrong ⟨a, b, true⟩ = false := Bm.wrong_f (by simp only [Bool.false_eq_true, if_false, if_true]; omega)
          have HR := Lib.hid hr
          clear hr
          go_enter Tryz.func175, Tryz.ntmps175
          go_wp2
          go_ret
          exact ⟨ret_bool (by rw [HR.out] <;> first | rfl | exact decide_eq_true (by omega) | exact decide_eq_false (by omega)), (Q.refl _).alloc _⟩

set_option maxHeartbeats 1000000 in
theorem indexWrong (A : Option Addr) (n c : Nat) (l : List Wr) (w : World) (hf : Lst writeK w A n l) (hn : n ≤ maxLen) :
    Calls Tryz.prog 201 #[.slice A n c, .func (.func 175) #[] #[]] w fun e w' => e = .returned (.int .i64 (idx Bm.wrong l 0)) ∧ Q w w' := by
  unfold maxLen at hn
  have HF := Lib.hid hf
  clear hf
  go_enter Tryz.func201, Tryz.ntmps201
  go_wp2
  go_loopw [8] (fun i wr => ∃ k : Nat, k ≤ n ∧ i = .int .i64 k ∧ Q w wr ∧ idx Bm.wrong l 0 = idx Bm.wrong (l.drop k) k) (fun i _ => n - (intOf i).toNat)
  case atStart => exact ⟨0, Nat.zero_le _, rfl, Q.refl _, rfl⟩
  case round =>
    obtain ⟨k, hk, rfl, hq, hp⟩ := hrel
    have HP := Lib.hid hp
    clear hp
    by_cases hlt : k < n
    · have hlen := HF.out.len
      have hkl : k < l.length := by omega
      obtain ⟨ad, rfl, hb, c0, c1, c2⟩ := load_write (HF.out.q hq) hlt hkl
      clear hlen
      go_wp2_with fail
      refine (wrong_any l[k] _).mono ?_
      rintro e w1 ⟨rfl, q1⟩
      by_cases hh : Bm.wrong l[k] = true
      · go_wp2
        go_ret
        exact ⟨ret_int (by rw [HP.out, idx_drop _ _ hkl, if_pos hh]), hq.trans q1⟩
      · have hd : Bm.wrong l[k] = false := by simpa using hh
        go_wp2
        go_roundw
        case rel => exact ⟨k + 1, by omega, by go_num, hq.trans q1, by rw [HP.out, idx_drop _ _ hkl, if_neg hh]⟩
        case measure => simp [intOf]; omega
    · have hlen := HF.out.len
      have HL := Lib.hid hlen
      clear hlen
      go_wp2
      go_ret
      exact ⟨ret_int (by rw [HP.out, idx_end _ _ (by have := HL.out; omega)]), hq⟩

theorem containsWrong (A : Option Addr) (n c : Nat) (l : List Wr) (w : World) (hf : Lst writeK w A n l) (hn : n ≤ maxLen) :
    Calls Tryz.prog 174 #[.slice A n c, .func (.func 175) #[] #[]] w fun e w' => e = .returned (.bool (l.any Bm.wrong)) ∧ Q w w' := by
  have K := Lib.hid (indexWrong A n c l w hf hn)
  rcases idx_cases Bm.wrong l 0 with ⟨hp, hall⟩ | ⟨k, hk, hp, hkn, hfirst⟩
  · have hr : l.any Bm.wrong = false := by rw [List.any_eq_false]; intro x hx; simp [hall x hx]
    have HR := Lib.hid hr
    have HP := Lib.hid hp
    clear hr hp hall hf
    go_enter Tryz.func174, Tryz.ntmps174
    go_wp2_with fail
    refine K.out.mono ?_
    rintro e w1 ⟨rfl, q1⟩
    rw [HP.out]
    go_wp2
    go_ret
    exact ⟨ret_bool HR.out.symm, q1⟩
  · have hr : l.any Bm.wrong = true := List.any_eq_true.2 ⟨_, List.getElem_mem hk, hkn⟩
    have HR := Lib.hid hr
    have HP := Lib.hid (hp.trans (by simp : ((0 + k : Nat) : Int) = (k : Int)))
    clear hr hp hfirst hf hkn
    have h0 : (0 : Int) ≤ (k : Int) := by omega
    go_enter Tryz.func174, Tryz.ntmps174
    go_wp2_with fail
    refine K.out.mono ?_
    rintro e w1 ⟨rfl, q1⟩
    rw [HP.out]
    go_wp2
    go_ret
    exact ⟨ret_bool HR.out.symm, q1⟩

set_option maxHeartbeats 1000000 in
theorem rise_any (A : Option Addr) (n c : Nat) (l : List Wr) (w : World) (hf : Lst writeK w A n l) (hn : n ≤ 24) :
    Calls Tryz.prog 173 #[.slice A n c] w fun e w' => e = .returned (.bool (Bm.rise l)) ∧ Q w w' := by
  have HF := Lib.hid hf
  have HL := Lib.hid hf.len
  clear hf
  go_enter Tryz.func173, Tryz.ntmps173
  go_wp2
  go_loopw [3, 8] (fun s3 i wr => ∃ (k : Nat) (B : Option Addr) (d : Nat), k ≤ n ∧ i = .int .i64 k ∧ s3 = .slice B k d ∧ OwnK pairK wr w.heap.size B k d (Bm.keys (l.take k)) ∧ Q w wr) (fun _ i _ => n - (intOf i).toNat)
  case atStart => exact ⟨0, none, 0, Nat.zero_le _, rfl, rfl, OwnK.nil_ _ _ _, Q.refl _⟩
  case round =>
    obtain ⟨k, B, d, hk, rfl, rfl, o1, q1⟩ := hrel
    have HO := Lib.hid o1
    have HQ := Lib.hid q1
    clear o1 q1
    by_cases hlt : k < n
    · have hkl : k < l.length := by have := HL.out; omega
      have HN := Lib.hid (show Bm.keys (l.take (k + 1)) = Bm.keys (l.take k) ++ [⟨l[k].key, ⟨#[]⟩⟩] by unfold Bm.keys; rw [List.take_succ_eq_append_getElem hkl, List.map_append]; rfl)
      obtain ⟨ad, rfl, hab, x0, x1, x2⟩ := load_write (HF.out.q HQ.out) hlt hkl
      generalize l[k] = x at x0 x1 x2 HN
      generalize Bm.keys (l.take k) = ks at HO HN
      go_wp2_with (at_builtin
                   refine wpl_appK pairK rfl (.tmp 12) (.tmp 16) 28 rfl rfl w.heap.size B k d ks rfl ((HO.out.alloc _).alloc _) (some ⟨wr.heap.size + 1, 0, none⟩) 1 1 [⟨x.key, ⟨#[]⟩⟩] rfl (by have := lit_pair (wr.alloc (.cells #[.string x.key, .string x.val, .bool x.del] 88)) ⟨x.key, ⟨#[]⟩⟩; simpa using this) (fun e => by cases e) (by show (k + 1) * 32 ≤ _; omega) (by have := HQ.out.size; simp; omega) ?_
                   intro A5 c5 w5 o5 b5
                   have O5 := Lib.hid o5
                   have Q5 := Lib.hid (show Q w w5 from ((HQ.out.alloc _).alloc _).below.trans b5)
                   clear o5 b5)
      go_roundw
      case rel => exact ⟨k + 1, A5, c5, by omega, by go_num, rfl, by rw [HN.out]; exact O5.out, Q5.out⟩
      case measure => simp [intOf]; omega
    · have hkn : k = n := by omega
      have HR := Lib.hid (show Bm.keys (l.take k) = Bm.keys l by rw [hkn, List.take_of_length_le (by have := HL.out; omega)])
      clear hkn
      go_wp2_with fail
      refine (right_any B k d _ _ HO.out.lst (by unfold maxLen; omega)).mono ?_
      rintro e w6 ⟨rfl, q6⟩
      go_wp2_with fail
      go_ret
      exact ⟨ret_bool (by rw [HR.out]; rfl), HQ.out.trans q6⟩

namespace Bm
theorem may_t1 {b : Bt} (h : b.tok.size < 1 ∨ 16 < b.tok.size) : may b = false := by unfold may; rw [if_pos h]
theorem may_1 {b : Bt} (h : ¬(b.tok.size < 1 ∨ 16 < b.tok.size)) (h1 : b.kind = 1) : may b = (decide (b.ws.length ≤ 24) && rise b.ws && !b.ws.any wrong) := by unfold may; rw [if_neg h, if_pos h1]
theorem may_2 {b : Bt} (h : ¬(b.tok.size < 1 ∨ 16 < b.tok.size)) (h1 : b.kind = 2) : may b = decide (b.ws.length = 0) := by unfold may; rw [if_neg h, if_neg (by omega), if_pos h1]
theorem may_3 {b : Bt} (h1 : b.kind ≠ 1) (h2 : b.kind ≠ 2) : may b = false := by unfold may; rw [if_neg h1, if_neg h2]; split <;> rfl
end Bm

set_option maxHeartbeats 1000000 in
theorem may_any (k : Int) (tok : ByteArray) (A : Option Addr) (n c : Nat) (l : List Wr) (w : World) (hf : Lst writeK w A n l) (hn : n ≤ maxLen) :
    Calls Tryz.prog 141 #[batV k tok A n c] w fun e w' => e = .returned (.bool (Bm.may ⟨k, tok, l⟩)) ∧ Q w w' := by
  have hl := hf.len
  by_cases h1 : (tok.size : Int) < 1
  · have HR := Lib.hid (Bm.may_t1 (b := ⟨k, tok, l⟩) (.inl (by simp only; omega)))
    clear hf hl
    go_enter Tryz.func141, Tryz.ntmps141
    go_wp2
    go_ret
    exact ⟨ret_bool HR.out.symm, (Q.refl _).alloc _⟩
  by_cases h2 : (16 : Int) < (tok.size : Int)
  · have HR := Lib.hid (Bm.may_t1 (b := ⟨k, tok, l⟩) (.inr (by simp only; omega)))
    clear hf hl
    go_enter Tryz.func141, Tryz.ntmps141
    go_wp2
    go_ret
    exact ⟨ret_bool HR.out.symm, (Q.refl _).alloc _⟩
  have HT := Lib.hid (show ¬(tok.size < 1 ∨ 16 < tok.size) by omega)
  by_cases k1 : k = 1
  · subst k1
    have hm := Bm.may_1 (b := ⟨1, tok, l⟩) HT.out rfl
    simp only at hm
    have HF := Lib.hid hf
    by_cases h3 : (n : Int) ≤ 24
    · have KR := Lib.hid (fun W q => rise_any A n c l W (hf.q q) (by omega))
      have KC := Lib.hid (fun W q => containsWrong A n c l W (hf.q q) hn)
      have h3' : decide (l.length ≤ 24) = true := by simp; omega
      rw [h3', Bool.true_and] at hm
      have HM := Lib.hid hm
      clear hf hl hm h3'
      generalize hr : Bm.rise l = r at KR HM
      have HR := Lib.hid hr
      clear hr
      cases r with
      | false =>
        go_enter Tryz.func141, Tryz.ntmps141
        go_wp2_with fail
        refine (KR.out _ ((Q.refl _).alloc _)).mono ?_
        rintro e w1 ⟨rfl, q1⟩
        have Q1 := Lib.hid (((Q.refl w).alloc _).trans q1)
        clear q1
        go_wp2_with fail
        go_ret
        exact ⟨ret_bool (by rw [HM.out]; rfl), Q1.out⟩
      | true =>
        go_enter Tryz.func141, Tryz.ntmps141
        go_wp2_with fail
        refine (KR.out _ ((Q.refl _).alloc _)).mono ?_
        rintro e w1 ⟨rfl, q1⟩
        have x0 := ((Bx.new w [.int .i64 1, .string tok, .slice A n c] 48).q q1).get3.1
        obtain ⟨x0, x1, x2⟩ := x0
        have Q1 := Lib.hid (((Q.refl w).alloc _).trans q1)
        clear q1
        go_wp2_with fail
        refine (KC.out _ Q1.out).mono ?_
        rintro e w2 ⟨rfl, q2⟩
        have Q2 := Lib.hid (Q1.out.trans q2)
        clear q2
        generalize l.any Bm.wrong = b at HM
        cases b
        all_goals
          go_wp2_with fail
          go_ret
          exact ⟨ret_bool (by rw [HM.out]; rfl), Q2.out⟩
    · have h3' : decide (l.length ≤ 24) = false := by simp; omega
      rw [h3', Bool.false_and, Bool.false_and] at hm
      have HM := Lib.hid hm
      clear hf hl hm h3'
      go_enter Tryz.func141, Tryz.ntmps141
      go_wp2
      go_ret
      exact ⟨ret_bool (by rw [HM.out]), (Q.refl _).alloc _⟩
  by_cases k2 : k = 2
  · subst k2
    have hm := Bm.may_2 (b := ⟨2, tok, l⟩) HT.out rfl
    simp only at hm
    rw [hl] at hm
    have HM := Lib.hid hm
    clear hf hl hm k1
    by_cases h3 : n = 0
    · subst h3
      go_enter Tryz.func141, Tryz.ntmps141
      go_wp2
      go_ret
      exact ⟨ret_bool (by rw [HM.out]; rfl), (Q.refl _).alloc _⟩
    · have h4 : ((n : Int) == 0) = false := by simp; omega
      have H3 := Lib.hid h3
      clear h3
      go_enter Tryz.func141, Tryz.ntmps141
      go_wp2
      go_ret
      exact ⟨ret_bool (by rw [HM.out]; have := H3.out; simp [this]), (Q.refl _).alloc _⟩
  have HM := Lib.hid (Bm.may_3 (b := ⟨k, tok, l⟩) k1 k2)
  have k1' : (k == 1) = false := by simpa using k1
  have k2' : (k == 2) = false := by simpa using k2
  clear hf hl k1 k2
  go_enter Tryz.func141, Tryz.ntmps141
  go_wp2
  go_ret
  exact ⟨ret_bool HM.out.symm, (Q.refl _).alloc _⟩
end Go.Proofs.YtbbfbdfmeifdfaaGreatDoor

/- Contracts: batch.own, word, Decided, Do. -/
namespace Go.Proofs.YtbbfbdfmeifdfaaGreatDoor
set_option maxRecDepth 100000
open Go.RowKit Prm
set_option linter.unusedVariables false
set_option linter.unusedSimpArgs false

abbrev staV (A : Option Addr) (n c : Nat) (B : Option Addr) (m d : Nat) : Value := .agg #[.slice A n c, .slice B m d]
theorem Bx.get2 {w : World} {b : Nat} {x y : Value} (h : Bx w b [x, y]) : (w.cell? ⟨b, 0, none⟩ = some x ∧ w.cell? ⟨b, 1, none⟩ = some y) ∧ w.frozen? ⟨b, 0, none⟩ = false ∧ w.frozen? ⟨b, 1, none⟩ = false :=
  ⟨⟨(h 0 _ rfl).1, (h 1 _ rfl).1⟩, (h 0 _ rfl).2, (h 1 _ rfl).2⟩
theorem Bx.set2 {w : World} {b : Nat} {x y : Value} (h : Bx w b [x, y]) (x' y' : Value) : Bx ((w.setCell ⟨b, 0, none⟩ x').setCell ⟨b, 1, none⟩ y') b [x', y'] :=
  (h.set (k := 0) (by simp) x').set (k := 1) (by simp) y'
theorem Bx.far2 {w : World} {b c : Nat} {vs : List Value} (h : Bx w b vs) (hc : c ≠ b) (x' y' : Value) : Bx ((w.setCell ⟨c, 0, none⟩ x').setCell ⟨c, 1, none⟩ y') b vs :=
  (h.far (p := ⟨c, 0, none⟩) hc x').far (p := ⟨c, 1, none⟩) hc y'
theorem Q.set2 {a w : World} (h : Q a w) {b : Nat} (hb : a.heap.size ≤ b) (x y : Value) : Q a ((w.setCell ⟨b, 0, none⟩ x).setCell ⟨b, 1, none⟩ y) := (h.setCell (p := ⟨b, 0, none⟩) hb x).setCell (p := ⟨b, 1, none⟩) hb y
theorem OwnK.set2 {α : Type} {K : Kind α} {w : World} {base n c : Nat} {A : Option Addr} {l : List α} (h : OwnK K w base A n c l) {b : Nat} (hp : b < base) (x y : Value) : OwnK K ((w.setCell ⟨b, 0, none⟩ x).setCell ⟨b, 1, none⟩ y) base A n c l :=
  (h.setCell (p := ⟨b, 0, none⟩) hp x).setCell (p := ⟨b, 1, none⟩) hp y

/-- a state of the call's own, told by its ending. -/
def RetSt (w : World) (s : Bm.Sta) (e : Ending) (w' : World) : Prop :=
  ∃ A c B d, e = .returned (staV A s.data.length c B s.toks.length d) ∧ OwnK pairK w' w.heap.size A s.data.length c s.data ∧ OwnK pairK w' w.heap.size B s.toks.length d s.toks ∧ Q w w'
def RetS (w : World) (s : Bm.Sta × Nat) (e : Ending) (w' : World) : Prop :=
  ∃ A c B d, e = .returned (.tuple #[staV A s.1.data.length c B s.1.toks.length d, .int .i64 (s.2 : Int)]) ∧ OwnK pairK w' w.heap.size A s.1.data.length c s.1.data ∧ OwnK pairK w' w.heap.size B s.1.toks.length d s.1.toks ∧ Q w w'

theorem word_any (k : Int) (w : World) : Calls Tryz.prog 146 #[.int .i64 k] w fun e w' => e = .returned (.string (Bm.word k)) ∧ w' = w := by
  by_cases h : k = 1
  · subst h
    go_enter Tryz.func146, Tryz.ntmps146
    go_wp2
    go_ret
    exact ⟨rfl, rfl⟩
  · have HW := Lib.hid (show Bm.word k = ⟨#[103]⟩ by unfold Bm.word; rw [if_neg h])
    have h' : (k == 1) = false := by simpa using h
    clear h
    go_enter Tryz.func146, Tryz.ntmps146
    go_wp2
    go_ret
    exact ⟨by rw [HW.out]; rfl, rfl⟩

set_option maxHeartbeats 2000000 in
theorem bown_any (A B : Option Addr) (n c m d : Nat) (l t : List Pr) (w : World) (hA : In_ pairK w A n c l) (hB : In_ pairK w B m d t) :
    Calls Tryz.prog 142 #[staV A n c B m d] w (RetSt w ⟨l, t⟩) := by
  have HA := Lib.hid (fun W q => clonePairs A n c l W (hA.q q))
  have HB := Lib.hid (fun W q => clonePairs B m d t W (hB.q q))
  have HN := Lib.hid hA.len
  have HM := Lib.hid hB.len
  clear hA hB
  go_enter Tryz.func142, Tryz.ntmps142
  go_upto_region 1 with (fail)
  have X : Hid (Bx ((w.alloc (.cells #[.slice A n c, .slice B m d] 30)).alloc (.cells #[.slice none 0 0, .slice none 0 0] 30)) w.heap.size [.slice A n c, .slice B m d] ∧
      Bx ((w.alloc (.cells #[.slice A n c, .slice B m d] 30)).alloc (.cells #[.slice none 0 0, .slice none 0 0] 30)) (w.heap.size + 1) [.slice none 0 0, .slice none 0 0] ∧
      Q w ((w.alloc (.cells #[.slice A n c, .slice B m d] 30)).alloc (.cells #[.slice none 0 0, .slice none 0 0] 30)) ∧ w.heap.size + 1 + 1 ≤ ((w.alloc (.cells #[.slice A n c, .slice B m d] 30)).alloc (.cells #[.slice none 0 0, .slice none 0 0] 30)).heap.size) := by
    refine Lib.hid ⟨(Bx.new w [.slice A n c, .slice B m d] 30).alloc _, ?_, ((Q.refl w).alloc _).alloc _, by simp⟩
    have := Bx.new (w.alloc (.cells #[.slice A n c, .slice B m d] 30)) [.slice none 0 0, .slice none 0 0] 30
    simpa using this
  generalize ((w.alloc (.cells #[.slice A n c, .slice B m d] 30)).alloc (.cells #[.slice none 0 0, .slice none 0 0] 30)) = w2 at X ⊢
  obtain ⟨⟨c0, c1⟩, _⟩ := X.out.1.get2
  go_wp2
  go_region_held3 (fun w' => w'.cell? ⟨w.heap.size, 0, none⟩ = some (.slice A n c) ∧ w'.cell? ⟨w.heap.size, 1, none⟩ = some (.slice B m d))
    (first
      | go_keep
      | (go_split_ands
         (repeat' apply And.intro) <;> exact box_ ‹Q _ _› (by assumption)))
    (first
      | (go_at_call 101
         (with_reducible refine (HA.out _ X.out.2.2.1.drew).mono ?_)
         rintro e w3 ⟨A3, c3, rfl, o3, y3⟩)
      | (go_at_call 101
         (with_reducible refine (HB.out _ (X.out.2.2.1.drew.trans y3)).mono ?_)
         rintro e w4 ⟨A4, c4, rfl, o4, y4⟩
         obtain ⟨⟨p0, p1⟩, p2, p3⟩ := (((X.out.2.1.q (Q.refl _).drew).q y3).q y4).get2))
  have HO3 := Lib.hid (o3.q y4)
  have HO4 := Lib.hid o4
  have HY := Lib.hid ((X.out.2.2.1.drew.trans y3).trans y4)
  have HR := Lib.hid ((((X.out.2.1.q (Q.refl _).drew).q y3).q y4).set2 (.slice A3 n c3) (.slice A4 m c4))
  have HS := Lib.hid (show w.heap.size + 1 + 1 ≤ w3.heap.size from Nat.le_trans X.out.2.2.2 y3.size)
  clear o3 o4 y3 y4
  obtain ⟨⟨r0, r1⟩, _⟩ := HR.out.get2
  go_wp2
  refine bodyPost_ret (v := staV A3 n c3 A4 m c4) (by simp [results, Tryz.results142, go_sem, r0, r1]) rfl ?_
  refine ⟨A3, c3, A4, c4, by rw [HN.out, HM.out], ?_, ?_, HY.out.set2 (by omega) _ _⟩
  · rw [HN.out]; exact (HO3.out.set2 (b := w.heap.size + 1) (by have := X.out.2.2.2; simp only [World.size_drew]; omega) _ _).lower (by have := X.out.2.2.2; simp only [World.size_drew]; omega)
  · rw [HM.out]; exact (HO4.out.set2 (b := w.heap.size + 1) (by have := HS.out; omega) _ _).lower (by have := HS.out; omega)

theorem decided_any (tok : ByteArray) (A B : Option Addr) (n c m d : Nat) (t : List Pr) (w : World) (hB : Lst pairK w B m t) (hm : m ≤ maxLen) :
    Calls Tryz.prog 143 #[staV A n c B m d, .string tok] w fun e w' => e = .returned (.tuple #[.string (find tok t).1, .bool (find tok t).2]) ∧ Q w w' := by
  have K := Lib.hid (fun W q => tfind_any tok B m d t W (hB.q q) hm)
  clear hB
  go_enter Tryz.func143, Tryz.ntmps143
  go_wp2_with fail
  refine (K.out _ ((Q.refl _).alloc _)).mono ?_
  rintro e w1 ⟨rfl, q1⟩
  have Q1 := Lib.hid (((Q.refl w).alloc _).trans q1)
  clear q1
  go_wp2
  go_ret2
  exact ⟨rfl, Q1.out⟩

/-- where Do stands. -/
structure Ds (w : World) (A : Option Addr) (n c : Nat) (B : Option Addr) (m d : Nat) (k : Int) (tok : ByteArray) (C : Option Addr) (p q : Nat) (wi : World) : Prop where
  b1 : Bx wi w.heap.size [.slice A n c, .slice B m d]
  b2 : Bx wi (w.heap.size + 1) [.int .i64 k, .string tok, .slice C p q]
  b3 : Bx wi (w.heap.size + 1 + 1) [.slice none 0 0, .slice none 0 0]
  q : Q w wi
  l : w.heap.size + 1 + 1 + 1 ≤ wi.heap.size
theorem Ds.step {w wi wj : World} {A B C : Option Addr} {n c m d p q : Nat} {k : Int} {tok : ByteArray} (h : Ds w A n c B m d k tok C p q wi) (y : Q wi wj) : Ds w A n c B m d k tok C p q wj :=
  ⟨h.b1.q y, h.b2.q y, h.b3.q y, h.q.trans y, Nat.le_trans h.l y.size⟩
theorem Ds.new (w : World) (A : Option Addr) (n c : Nat) (B : Option Addr) (m d : Nat) (k : Int) (tok : ByteArray) (C : Option Addr) (p q : Nat) :
    Ds w A n c B m d k tok C p q (((w.alloc (.cells #[.slice A n c, .slice B m d] 30)).alloc (.cells #[.int .i64 k, .string tok, .slice C p q] 48)).alloc (.cells #[.slice none 0 0, .slice none 0 0] 30)) := by
  refine ⟨((Bx.new w [.slice A n c, .slice B m d] 30).alloc _).alloc _, ?_, ?_, (((Q.refl w).alloc _).alloc _).alloc _, by simp⟩
  · have := (Bx.new (w.alloc (.cells #[.slice A n c, .slice B m d] 30)) [.int .i64 k, .string tok, .slice C p q] 48).alloc (.cells #[.slice none 0 0, .slice none 0 0] 30)
    simpa using this
  · have := Bx.new ((w.alloc (.cells #[.slice A n c, .slice B m d] 30)).alloc (.cells #[.int .i64 k, .string tok, .slice C p q] 48)) [.slice none 0 0, .slice none 0 0] 30
    simpa using this
theorem Ds.get {w wi : World} {A B C : Option Addr} {n c m d p q : Nat} {k : Int} {tok : ByteArray} (h : Ds w A n c B m d k tok C p q wi) :
    (wi.cell? ⟨w.heap.size, 0, none⟩ = some (.slice A n c) ∧ wi.cell? ⟨w.heap.size, 1, none⟩ = some (.slice B m d)) ∧ (wi.cell? ⟨w.heap.size + 1, 0, none⟩ = some (.int .i64 k) ∧ wi.cell? ⟨w.heap.size + 1, 1, none⟩ = some (.string tok) ∧ wi.cell? ⟨w.heap.size + 1, 2, none⟩ = some (.slice C p q)) :=
  ⟨h.b1.get2.1, h.b2.get3.1⟩

set_option maxHeartbeats 8000000 in
theorem bdo_any (k : Int) (tok : ByteArray) (A B C : Option Addr) (n c m d p q : Nat) (l t : List Pr) (ws : List Wr) (w : World) (hA : In_ pairK w A n c l) (hB : In_ pairK w B m d t) (hC : Lst writeK w C p ws) (hp : p ≤ maxLen) (hb : (n + 24) * 32 ≤ 140737488355328) (hb2 : (m + 1) * 32 ≤ 140737488355328) :
    Calls Tryz.prog 96 #[staV A n c B m d, batV k tok C p q] w (RetS w (Bm.doo ⟨l, t⟩ ⟨k, tok, ws⟩)) := by
  have KM := Lib.hid (fun W y => may_any k tok C p q ws W (hC.q y) hp)
  have KD := Lib.hid (fun W y => decided_any tok A B n c m d t W (hB.lst.q y) hB.max)
  have KO := Lib.hid (fun W y => bown_any A B n c m d l t W (hA.q y) (hB.q y))
  have hn := hA.len
  have hm := hB.len
  have hpl := hC.len
  cases hmay : Bm.may ⟨k, tok, ws⟩ with
  | false =>
    have HR := Lib.hid (show Bm.doo ⟨l, t⟩ ⟨k, tok, ws⟩ = (⟨l, t⟩, 1) by unfold Bm.doo; rw [if_pos hmay])
    rw [hmay] at KM
    clear hA hB hC hmay hn hm hpl
    go_enter Tryz.func96, Tryz.ntmps96
    go_upto_region 1 with (fail)
    have X := Lib.hid (Ds.new w A n c B m d k tok C p q)
    generalize (((w.alloc (.cells #[.slice A n c, .slice B m d] 30)).alloc (.cells #[.int .i64 k, .string tok, .slice C p q] 48)).alloc (.cells #[.slice none 0 0, .slice none 0 0] 30)) = w2 at X ⊢
    obtain ⟨⟨c0, c1⟩, d0, d1, d2⟩ := X.out.get
    go_wp2_with fail
    refine (KM.out _ X.out.q).mono ?_
    rintro e w3 ⟨rfl, q3⟩
    have X3 := Lib.hid (X.out.step q3)
    clear q3 X c0 c1 d0 d1 d2
    obtain ⟨⟨c0, c1⟩, d0, d1, d2⟩ := X3.out.get
    go_wp2_with fail
    refine (KO.out _ X3.out.q).mono ?_
    rintro e w5 ⟨A5, c5, B5, d5, rfl, o5, t5, q5⟩
    have X5 := Lib.hid (X3.out.step q5)
    have HO := Lib.hid o5
    have HT := Lib.hid t5
    have HS := Lib.hid X3.out.l
    clear q5 o5 t5 c0 c1 d0 d1 d2
    obtain ⟨⟨p0, p1⟩, p2, p3⟩ := X5.out.b3.get2
    go_wp2
    obtain ⟨⟨r0, r1⟩, _⟩ := (X5.out.b3.set2 (.slice A5 l.length c5) (.slice B5 t.length d5)).get2
    refine bodyPost_ret (v := .tuple #[staV A5 l.length c5 B5 t.length d5, .int .i64 1]) (by simp [results, Tryz.results96, go_sem, r0, r1]) rfl ?_
    rw [HR.out]
    exact ⟨A5, c5, B5, d5, rfl, (HO.out.set2 (b := w.heap.size + 1 + 1) (by have := HS.out; omega) _ _).lower (by have := HS.out; omega), (HT.out.set2 (b := w.heap.size + 1 + 1) (by have := HS.out; omega) _ _).lower (by have := HS.out; omega), X5.out.q.set2 (by omega) _ _⟩
  | true =>
    rw [hmay] at KM
    cases hf : (find tok t).2 with
    | true =>
      have HR := Lib.hid (show Bm.doo ⟨l, t⟩ ⟨k, tok, ws⟩ = (⟨l, t⟩, 8) by unfold Bm.doo; rw [if_neg (by rw [hmay]; simp), if_pos hf])
      rw [hf] at KD
      generalize (find tok t).1 = fv at KD
      clear hA hB hC hmay hn hm hpl hf
      go_enter Tryz.func96, Tryz.ntmps96
      go_upto_region 1 with (fail)
      have X := Lib.hid (Ds.new w A n c B m d k tok C p q)
      generalize (((w.alloc (.cells #[.slice A n c, .slice B m d] 30)).alloc (.cells #[.int .i64 k, .string tok, .slice C p q] 48)).alloc (.cells #[.slice none 0 0, .slice none 0 0] 30)) = w2 at X ⊢
      obtain ⟨⟨c0, c1⟩, d0, d1, d2⟩ := X.out.get
      go_wp2_with fail
      refine (KM.out _ X.out.q).mono ?_
      rintro e w3 ⟨rfl, q3⟩
      have X3 := Lib.hid (X.out.step q3)
      clear q3 X c0 c1 d0 d1 d2
      obtain ⟨⟨c0, c1⟩, d0, d1, d2⟩ := X3.out.get
      go_wp2_with fail
      refine (KD.out _ X3.out.q).mono ?_
      rintro e w4 ⟨rfl, q4⟩
      have X4 := Lib.hid (X3.out.step q4)
      clear q4 X3 c0 c1 d0 d1 d2
      obtain ⟨⟨c0, c1⟩, d0, d1, d2⟩ := X4.out.get
      go_wp2_with fail
      refine (KO.out _ X4.out.q).mono ?_
      rintro e w5 ⟨A5, c5, B5, d5, rfl, o5, t5, q5⟩
      have X5 := Lib.hid (X4.out.step q5)
      have HO := Lib.hid o5
      have HT := Lib.hid t5
      have HS := Lib.hid X4.out.l
      clear q5 o5 t5 c0 c1 d0 d1 d2
      obtain ⟨⟨p0, p1⟩, p2, p3⟩ := X5.out.b3.get2
      go_wp2
      obtain ⟨⟨r0, r1⟩, _⟩ := (X5.out.b3.set2 (.slice A5 l.length c5) (.slice B5 t.length d5)).get2
      refine bodyPost_ret (v := .tuple #[staV A5 l.length c5 B5 t.length d5, .int .i64 8]) (by simp [results, Tryz.results96, go_sem, r0, r1]) rfl ?_
      rw [HR.out]
      exact ⟨A5, c5, B5, d5, rfl, (HO.out.set2 (b := w.heap.size + 1 + 1) (by have := HS.out; omega) _ _).lower (by have := HS.out; omega), (HT.out.set2 (b := w.heap.size + 1 + 1) (by have := HS.out; omega) _ _).lower (by have := HS.out; omega), X5.out.q.set2 (by omega) _ _⟩
    | false =>
      have HR := Lib.hid (show Bm.doo ⟨l, t⟩ ⟨k, tok, ws⟩ = (⟨apply l ws, put t ⟨tok, Bm.word k⟩⟩, 0) by unfold Bm.doo; rw [if_neg (by rw [hmay]; simp), if_neg (by rw [hf]; simp)])
      have hp24 := Bm.may_len hmay
      simp only at hp24
      rw [hf] at KD
      generalize (find tok t).1 = fv at KD
      have KA := Lib.hid (fun W y => apply_any A C n c p q l ws W (hA.q y) (hC.q y) (by omega))
      have KP := Lib.hid (fun W y => tput_any tok (Bm.word k) B m d t W (hB.q y) hb2)
      clear hA hB hC hmay hn hm hpl hf hp24
      go_enter Tryz.func96, Tryz.ntmps96
      go_upto_region 1 with (fail)
      have X := Lib.hid (Ds.new w A n c B m d k tok C p q)
      generalize (((w.alloc (.cells #[.slice A n c, .slice B m d] 30)).alloc (.cells #[.int .i64 k, .string tok, .slice C p q] 48)).alloc (.cells #[.slice none 0 0, .slice none 0 0] 30)) = w2 at X ⊢
      obtain ⟨⟨c0, c1⟩, d0, d1, d2⟩ := X.out.get
      go_wp2_with fail
      refine (KM.out _ X.out.q).mono ?_
      rintro e w3 ⟨rfl, q3⟩
      have X3 := Lib.hid (X.out.step q3)
      clear q3 X c0 c1 d0 d1 d2
      obtain ⟨⟨c0, c1⟩, d0, d1, d2⟩ := X3.out.get
      go_wp2_with fail
      refine (KD.out _ X3.out.q).mono ?_
      rintro e w4 ⟨rfl, q4⟩
      have X4 := Lib.hid (X3.out.step q4)
      clear q4 X3 c0 c1 d0 d1 d2
      obtain ⟨⟨c0, c1⟩, d0, d1, d2⟩ := X4.out.get
      have HS4 := Lib.hid X4.out.l
      go_upto_region 6 with (fail)
      refine wp_region_held_drew (S := fun w' => Bx w' w.heap.size [.slice A n c, .slice B m d] ∧ Bx w' (w.heap.size + 1) [.int .i64 k, .string tok, .slice C p q]) (by kernel_rfl) ?szz0 (fun hHeld => ?rzz0)
      case szz0 =>
        exact ⟨X4.out.b1.drew, X4.out.b2.drew⟩
      case' rzz0 => skip
      refine wpAnyH_take (i := 0) (oi := ?ozz1) (v := ?vzz1) ?hzz1 ?azz1 ?bzz1 ?czz1 ?qzz1 ?yzz1 ?szz1 ?rzz1
      case hzz1 => simp only [List.getElem?_toArray, List.getElem?_cons_zero]; rfl
      case azz1 => kernel_rfl
      case bzz1 => kernel_rfl
      case czz1 => kernel_rfl
      case yzz1 =>
        refine Or.inl ⟨by rfl, ?_⟩
        intro w hSw
        have z := hSw.1.get2.1
        have zz := hSw.2.get3.1
        obtain ⟨s0, s1⟩ := z
        obtain ⟨s2, s3, s4⟩ := zz
        go_simp
        try with_reducible rfl
      case qzz1 => exact fun _ _ _ h => h
      case szz1 => first | assumption | trivial
      case' rzz1 => simp only [Act.put, List.setIfInBounds_toArray, List.set_cons_zero, List.set_cons_succ]
      refine wpAnyH_take (i := 1) (oi := ?ozz2) (v := ?vzz2) ?hzz2 ?azz2 ?bzz2 ?czz2 ?qzz2 ?yzz2 ?szz2 ?rzz2
      case hzz2 => simp only [List.getElem?_toArray, List.getElem?_cons_zero, List.getElem?_cons_succ]; rfl
      case azz2 => kernel_rfl
      case bzz2 => kernel_rfl
      case czz2 => kernel_rfl
      case yzz2 =>
        refine Or.inl ⟨by rfl, ?_⟩
        intro w hSw
        have z := hSw.1.get2.1
        have zz := hSw.2.get3.1
        obtain ⟨s0, s1⟩ := z
        obtain ⟨s2, s3, s4⟩ := zz
        go_simp
        try with_reducible rfl
      case qzz2 => exact fun _ _ _ h => h
      case szz2 => first | assumption | trivial
      case' rzz2 => simp only [Act.put, List.setIfInBounds_toArray, List.set_cons_zero, List.set_cons_succ]
      refine wpAnyH_take (i := 2) (oi := ?ozz3) (v := ?vzz3) ?hzz3 ?azz3 ?bzz3 ?czz3 ?qzz3 ?yzz3 ?szz3 ?rzz3
      case hzz3 => simp only [List.getElem?_toArray, List.getElem?_cons_zero, List.getElem?_cons_succ]; rfl
      case azz3 => kernel_rfl
      case bzz3 => kernel_rfl
      case czz3 => kernel_rfl
      case yzz3 =>
        refine Or.inl ⟨by rfl, ?_⟩
        intro w hSw
        have z := hSw.1.get2.1
        have zz := hSw.2.get3.1
        obtain ⟨s0, s1⟩ := z
        obtain ⟨s2, s3, s4⟩ := zz
        go_simp
        try with_reducible rfl
      case qzz3 => exact fun _ _ _ h => h
      case szz3 => first | assumption | trivial
      case' rzz3 => simp only [Act.put, List.setIfInBounds_toArray, List.set_cons_zero, List.set_cons_succ]
      refine wpAnyH_take (i := 3) (oi := ?ozz4) (v := ?vzz4) ?hzz4 ?azz4 ?bzz4 ?czz4 ?qzz4 ?yzz4 ?szz4 ?rzz4
      case hzz4 => simp only [List.getElem?_toArray, List.getElem?_cons_zero, List.getElem?_cons_succ]; rfl
      case azz4 => kernel_rfl
      case bzz4 => kernel_rfl
      case czz4 => kernel_rfl
      case yzz4 =>
        refine Or.inl ⟨by rfl, ?_⟩
        intro w hSw
        have z := hSw.1.get2.1
        have zz := hSw.2.get3.1
        obtain ⟨s0, s1⟩ := z
        obtain ⟨s2, s3, s4⟩ := zz
        go_simp
        try with_reducible rfl
      case qzz4 => exact fun _ _ _ h => h
      case szz4 => first | assumption | trivial
      case' rzz4 => simp only [Act.put, List.setIfInBounds_toArray, List.set_cons_zero, List.set_cons_succ]
      refine wpAnyH_take (i := 5) (oi := ?ozz5) (v := ?vzz5) ?hzz5 ?azz5 ?bzz5 ?czz5 ?qzz5 ?yzz5 ?szz5 ?rzz5
      case hzz5 => simp only [List.getElem?_toArray, List.getElem?_cons_zero, List.getElem?_cons_succ]; rfl
      case azz5 => kernel_rfl
      case bzz5 => kernel_rfl
      case czz5 => kernel_rfl
      case yzz5 =>
        refine Or.inl ⟨by rfl, ?_⟩
        intro w hSw
        have z := hSw.1.get2.1
        have zz := hSw.2.get3.1
        obtain ⟨s0, s1⟩ := z
        obtain ⟨s2, s3, s4⟩ := zz
        go_simp
        try with_reducible rfl
      case qzz5 => exact fun _ _ _ h => h
      case szz5 => first | assumption | trivial
      case' rzz5 => simp only [Act.put, List.setIfInBounds_toArray, List.set_cons_zero, List.set_cons_succ]
      refine wpAnyH_take (i := 6) (oi := ?ozz6) (v := ?vzz6) ?hzz6 ?azz6 ?bzz6 ?czz6 ?qzz6 ?yzz6 ?szz6 ?rzz6
      case hzz6 => simp only [List.getElem?_toArray, List.getElem?_cons_zero, List.getElem?_cons_succ]; rfl
      case azz6 => kernel_rfl
      case bzz6 => kernel_rfl
      case czz6 => kernel_rfl
      case yzz6 =>
        refine Or.inl ⟨by rfl, ?_⟩
        intro w hSw
        have z := hSw.1.get2.1
        have zz := hSw.2.get3.1
        obtain ⟨s0, s1⟩ := z
        obtain ⟨s2, s3, s4⟩ := zz
        go_simp
        try with_reducible rfl
      case qzz6 => exact fun _ _ _ h => h
      case szz6 => first | assumption | trivial
      case' rzz6 => simp only [Act.put, List.setIfInBounds_toArray, List.set_cons_zero, List.set_cons_succ]
      refine wpAnyH_take (i := 7) (oi := ?ozz7) (v := ?vzz7) ?hzz7 ?azz7 ?bzz7 ?czz7 ?qzz7 ?yzz7 ?szz7 ?rzz7
      case hzz7 => simp only [List.getElem?_toArray, List.getElem?_cons_zero, List.getElem?_cons_succ]; rfl
      case azz7 => kernel_rfl
      case bzz7 => kernel_rfl
      case czz7 => kernel_rfl
      case yzz7 =>
        refine Or.inl ⟨by rfl, ?_⟩
        intro w hSw
        have z := hSw.1.get2.1
        have zz := hSw.2.get3.1
        obtain ⟨s0, s1⟩ := z
        obtain ⟨s2, s3, s4⟩ := zz
        go_simp
        try with_reducible rfl
      case qzz7 => exact fun _ _ _ h => h
      case szz7 => first | assumption | trivial
      case' rzz7 => simp only [Act.put, List.setIfInBounds_toArray, List.set_cons_zero, List.set_cons_succ]
      refine wpAnyH_take (i := 8) (oi := ?ozz8) (v := ?vzz8) ?hzz8 ?azz8 ?bzz8 ?czz8 ?qzz8 ?yzz8 ?szz8 ?rzz8
      case hzz8 => simp only [List.getElem?_toArray, List.getElem?_cons_zero, List.getElem?_cons_succ]; rfl
      case azz8 => kernel_rfl
      case bzz8 => kernel_rfl
      case czz8 => kernel_rfl
      case yzz8 =>
        refine Or.inl ⟨by rfl, ?_⟩
        intro w hSw
        have z := hSw.1.get2.1
        have zz := hSw.2.get3.1
        obtain ⟨s0, s1⟩ := z
        obtain ⟨s2, s3, s4⟩ := zz
        go_simp
        try with_reducible rfl
      case qzz8 => exact fun _ _ _ h => h
      case szz8 => first | assumption | trivial
      case' rzz8 => simp only [Act.put, List.setIfInBounds_toArray, List.set_cons_zero, List.set_cons_succ]
      refine wpAnyH_take (i := 9) (oi := ?ozz9) (v := ?vzz9) ?hzz9 ?azz9 ?bzz9 ?czz9 ?qzz9 ?yzz9 ?szz9 ?rzz9
      case hzz9 => simp only [List.getElem?_toArray, List.getElem?_cons_zero, List.getElem?_cons_succ]; rfl
      case azz9 => kernel_rfl
      case bzz9 => kernel_rfl
      case czz9 => kernel_rfl
      case yzz9 =>
        refine Or.inl ⟨by rfl, ?_⟩
        intro w hSw
        have z := hSw.1.get2.1
        have zz := hSw.2.get3.1
        obtain ⟨s0, s1⟩ := z
        obtain ⟨s2, s3, s4⟩ := zz
        go_simp
        try with_reducible rfl
      case qzz9 => exact fun _ _ _ h => h
      case szz9 => first | assumption | trivial
      case' rzz9 => simp only [Act.put, List.setIfInBounds_toArray, List.set_cons_zero, List.set_cons_succ]
      refine wpAnyH_take (i := 10) (oi := ?ozz10) (v := ?vzz10) ?hzz10 ?azz10 ?bzz10 ?czz10 ?qzz10 ?yzz10 ?szz10 ?rzz10
      case hzz10 => simp only [List.getElem?_toArray, List.getElem?_cons_zero, List.getElem?_cons_succ]; rfl
      case azz10 => kernel_rfl
      case bzz10 => kernel_rfl
      case czz10 => kernel_rfl
      case yzz10 =>
        refine Or.inl ⟨by rfl, ?_⟩
        intro w hSw
        have z := hSw.1.get2.1
        have zz := hSw.2.get3.1
        obtain ⟨s0, s1⟩ := z
        obtain ⟨s2, s3, s4⟩ := zz
        go_simp
        try with_reducible rfl
      case qzz10 => exact fun _ _ _ h => h
      case szz10 => first | assumption | trivial
      case' rzz10 => simp only [Act.put, List.setIfInBounds_toArray, List.set_cons_zero, List.set_cons_succ]
      refine wpAnyH_ready (rs := [4]) (by kernel_rfl) (by simp) ?_
      refine AllReadyH.cons (o := ?ozz16) ?hzz16 (fun K hK => ?kzz16) ?mzz16
      case hzz16 => simp only [List.getElem?_toArray, List.getElem?_cons_zero, List.getElem?_cons_succ]; rfl
      case kzz16 =>
        go_simp
        refine (KA.out _ X4.out.q.drew).mono ?_
        rintro e w5 ⟨A5, c5, rfl, o5, y5⟩
        have HS5 := Lib.hid (show w.heap.size + 1 + 1 + 1 ≤ w5.heap.size from ((X4.out.step (Q.refl _).drew).step y5).l)
        go_wp2_with fail
        refine hK.out _ _ ?Szz16 (fun hHeld => ?Rzz16)
        case Szz16 =>
          exact ⟨hHeld.1.q y5, hHeld.2.q y5⟩
        case Rzz16 =>
          clear hK K
          try simp only [Act.put, List.setIfInBounds_toArray, List.set_cons_zero, List.set_cons_succ]
          have hC := hHeld
          refine wpAnyH_ready (rs := [11]) (by kernel_rfl) (by simp) ?_
          refine AllReadyH.cons (o := ?ozz15) ?hzz15 (fun K hK => ?kzz15) ?mzz15
          case hzz15 => simp only [List.getElem?_toArray, List.getElem?_cons_zero, List.getElem?_cons_succ]; rfl
          case kzz15 =>
            go_simp
            refine (word_any k _).mono ?_
            rintro e w6 ⟨rfl, rfl⟩
            go_wp2_with fail
            refine hK.out _ _ ?Szz15 (fun hHeld => ?Rzz15)
            case Szz15 =>
              exact hC
            case Rzz15 =>
              clear hK K
              try simp only [Act.put, List.setIfInBounds_toArray, List.set_cons_zero, List.set_cons_succ]
              refine wpAnyH_ready (rs := [12]) (by kernel_rfl) (by simp) ?_
              refine AllReadyH.cons (o := ?ozz14) ?hzz14 (fun K hK => ?kzz14) ?mzz14
              case hzz14 => simp only [List.getElem?_toArray, List.getElem?_cons_zero, List.getElem?_cons_succ]; rfl
              case kzz14 =>
                go_simp
                refine (KP.out _ (X4.out.q.drew.trans y5)).mono ?_
                rintro e w7 ⟨A7, c7, rfl, o7, y7⟩
                have X7 := Lib.hid (((X4.out.step (Q.refl _).drew).step y5).step y7)
                have HO := Lib.hid (o5.q y7)
                have HT := Lib.hid o7
                clear o5 o7 y5 y7
                go_wp2_with fail
                refine hK.out _ _ ?Szz14 (fun hHeld => ?Rzz14)
                case Szz14 =>
                  exact ⟨X7.out.b1, X7.out.b2⟩
                case Rzz14 =>
                  clear hK K
                  try simp only [Act.put, List.setIfInBounds_toArray, List.set_cons_zero, List.set_cons_succ]
                  refine wpAnyH_take (i := 13) (oi := ?ozz11) (v := ?vzz11) ?hzz11 ?azz11 ?bzz11 ?czz11 ?qzz11 ?yzz11 ?szz11 ?rzz11
                  case hzz11 => simp only [List.getElem?_toArray, List.getElem?_cons_zero, List.getElem?_cons_succ]; rfl
                  case azz11 => kernel_rfl
                  case bzz11 => kernel_rfl
                  case czz11 => kernel_rfl
                  case yzz11 =>
                    refine Or.inl ⟨by rfl, ?_⟩
                    intro w hSw
                    have z := hSw.1.get2.1
                    have zz := hSw.2.get3.1
                    obtain ⟨s0, s1⟩ := z
                    obtain ⟨s2, s3, s4⟩ := zz
                    go_simp
                    try with_reducible rfl
                  case qzz11 => exact fun _ _ _ h => h
                  case szz11 => first | assumption | trivial
                  case' rzz11 => simp only [Act.put, List.setIfInBounds_toArray, List.set_cons_zero, List.set_cons_succ]
                  refine wpAnyH_ready (rs := [14]) (by kernel_rfl) (by simp) ?_
                  refine AllReadyH.cons (o := ?ozz13) ?hzz13 (fun K hK => ?kzz13) ?mzz13
                  case hzz13 => simp only [List.getElem?_toArray, List.getElem?_cons_zero, List.getElem?_cons_succ]; rfl
                  case kzz13 =>
                    obtain ⟨⟨p0, p1⟩, p2, p3⟩ := X7.out.b3.get2
                    go_simp
                    refine hK.out _ _ ?Szz13 (fun hHeld => ?Rzz13)
                    case Szz13 =>
                      exact ⟨X7.out.b1.far2 (by omega) _ _, X7.out.b2.far2 (by omega) _ _⟩
                    case Rzz13 =>
                      clear hK K
                      try simp only [Act.put, List.setIfInBounds_toArray, List.set_cons_zero, List.set_cons_succ]
                      refine wpAnyH_take (i := 15) (oi := ?ozz12) (v := ?vzz12) ?hzz12 ?azz12 ?bzz12 ?czz12 ?qzz12 ?yzz12 ?szz12 ?rzz12
                      case hzz12 => simp only [List.getElem?_toArray, List.getElem?_cons_zero, List.getElem?_cons_succ]; rfl
                      case azz12 => kernel_rfl
                      case bzz12 => kernel_rfl
                      case czz12 => kernel_rfl
                      case yzz12 =>
                        refine Or.inl ⟨by rfl, ?_⟩
                        intro w hSw
                        have z := hSw.1.get2.1
                        have zz := hSw.2.get3.1
                        obtain ⟨s0, s1⟩ := z
                        obtain ⟨s2, s3, s4⟩ := zz
                        go_simp
                        try with_reducible rfl
                      case qzz12 => exact fun _ _ _ h => h
                      case szz12 => first | assumption | trivial
                      case' rzz12 => simp only [Act.put, List.setIfInBounds_toArray, List.set_cons_zero, List.set_cons_succ]
                      refine wpAnyH_done (by kernel_rfl) ?_ _
                      obtain ⟨⟨r0, r1⟩, _⟩ := (X7.out.b3.set2 (.slice A5 (apply l ws).length c5) (.slice A7 (put t ⟨tok, Bm.word k⟩).length c7)).get2
                      go_wp2
                      refine bodyPost_ret (v := .tuple #[staV A5 (apply l ws).length c5 A7 (put t ⟨tok, Bm.word k⟩).length c7, .int .i64 0]) (by simp [results, Tryz.results96, go_sem, r0, r1]) rfl ?_
                      rw [HR.out]
                      exact ⟨A5, c5, A7, c7, rfl, (HO.out.set2 (b := w.heap.size + 1 + 1) (by have := HS4.out; simp only [World.size_drew]; omega) _ _).lower (by have := HS4.out; simp only [World.size_drew]; omega), (HT.out.set2 (b := w.heap.size + 1 + 1) (by have := HS5.out; omega) _ _).lower (by have := HS5.out; omega), X7.out.q.set2 (by omega) _ _⟩
                  case' mzz13 => skip
                  exact AllReadyH.nil
              case' mzz14 => skip
              exact AllReadyH.nil
          case' mzz15 => skip
          exact AllReadyH.nil
      case' mzz16 => skip
      exact AllReadyH.nil
end Go.Proofs.YtbbfbdfmeifdfaaGreatDoor
