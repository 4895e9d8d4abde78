/- For every disk, name and row: a row that was laid, with room and power, is loaded as it was, where no two files have that name, or its fresh one. Its second form: where what it reads is of bulk at most 1048576. -/
import Derived.Test.YtodfdklcioafmaaB7
import Derived.Test.YtodfdklcioafmaaB10
import Derived.Test.YtodfdklcioafmaaB4
import Derived.Test.YtodfdklcioafmaaB5
namespace Go.Proofs.Ytodfdklcioafmaa.runLoadsUpto
set_option maxRecDepth 100000
open Go.ChangeShapes Go.WideShapes Go.ChangeAt Go.RowKit Dkm Wm
set_option linter.unusedVariables false
set_option linter.unusedSimpArgs false

def isN (nm : ByteArray) (f : Fil) : Bool := decide (f.nm = nm)
def cnt (nm : ByteArray) (l : List Fil) (a : Nat) : Nat := (l.take a).countP (isN nm)
theorem cnt_le (nm : ByteArray) (l : List Fil) (a : Nat) : cnt nm l a ≤ a := Nat.le_trans List.countP_le_length (List.length_take_le _ _)
theorem cnt_yes {nm : ByteArray} {l : List Fil} {a : Nat} (h : a < l.length) (e : l[a].nm = nm) : cnt nm l (a + 1) = cnt nm l a + 1 := by
  unfold cnt; rw [List.take_succ_eq_append_getElem h, List.countP_append]; simp [isN, e]
theorem cnt_no {nm : ByteArray} {l : List Fil} {a : Nat} (h : a < l.length) (e : l[a].nm ≠ nm) : cnt nm l (a + 1) = cnt nm l a := by
  unfold cnt; rw [List.take_succ_eq_append_getElem h, List.countP_append]; simp [isN, e]
/-- no two files have that name. -/
def Sole (nm : ByteArray) (l : List Fil) : Prop := ∀ i j, ∀ hi : i < l.length, ∀ hj : j < l.length, l[i].nm = nm → l[j].nm = nm → i = j
theorem sole_lt {nm : ByteArray} {l : List Fil} (h : cnt nm l l.length ≤ 1) {i j : Nat} (hi : i < l.length) (hj : j < l.length) (hij : i < j) (ei : l[i].nm = nm) (ej : l[j].nm = nm) : False := by
  have h1 : cnt nm l (j + 1) ≤ cnt nm l l.length := by
    unfold cnt
    rw [List.take_length]
    exact List.Sublist.countP_le (List.take_sublist _ _)
  rw [cnt_yes hj ej] at h1
  have h2 : 0 < cnt nm l j := by
    unfold cnt
    rw [List.countP_pos_iff]
    exact ⟨l[i], by rw [List.mem_take_iff_getElem]; exact ⟨i, by omega, rfl⟩, by simp [isN, ei]⟩
  omega
theorem sole_of {nm : ByteArray} {l : List Fil} (h : cnt nm l l.length ≤ 1) : Sole nm l := by
  intro i j hi hj ei ej
  rcases Nat.lt_trichotomy i j with hlt | he | hlt
  · exact (sole_lt h hi hj hlt ei ej).elim
  · exact he
  · exact (sole_lt h hj hi hlt ej ei).elim
theorem sole_gone {nm : ByteArray} {l : List Fil} (hu : Sole nm l) {k : Nat} (hk : k < l.length) (hn : l[k].nm = nm) : ∀ f ∈ l.eraseIdx k, f.nm ≠ nm := by
  intro f hf e
  obtain ⟨i, hi, hne, rfl⟩ := List.mem_eraseIdx_iff_getElem.1 hf
  exact hne (hu i k hi hk e hn)
theorem sole_erase {nm : ByteArray} {l : List Fil} (hu : Sole nm l) (k : Nat) : Sole nm (l.eraseIdx k) := by
  intro i j hi hj ei ej
  rw [List.getElem_eraseIdx] at ei ej
  split at ei <;> split at ej
  · exact hu i j _ _ ei ej
  · have := hu i (j + 1) _ _ ei ej; omega
  · have := hu (i + 1) j _ _ ei ej; omega
  · have := hu (i + 1) (j + 1) _ _ ei ej; omega

/-- the last file of a row gets a name that was there once at most. -/
theorem ren_last {d : Dk} {fr nm s : ByteArray} {l : List Fil} (hne : nm ≠ fr) (hfs : d.fs = l ++ [⟨fr, s, ⟨#[]⟩⟩]) (hg : ∀ f ∈ l, f.nm ≠ fr) (hu : Sole nm l) (h : (ren d fr nm).2 = 0) : redd nm (ren d fr nm).1.fs = (s, 0) := by
  have hk : l.length < (l ++ [(⟨fr, s, ⟨#[]⟩⟩ : Fil)]).length := by simp
  have hgl : (l ++ [(⟨fr, s, ⟨#[]⟩⟩ : Fil)])[l.length] = ⟨fr, s, ⟨#[]⟩⟩ := by simp
  have ho : (opn fr d.fs).2 = l.length := by
    rw [hfs, opn_at hk (by rw [hgl]) (fun j hj hjl => by rw [List.getElem_append_left hjl]; exact hg _ (List.getElem_mem hjl))]
  have hset : ∀ g : Fil, (l ++ [(⟨fr, s, ⟨#[]⟩⟩ : Fil)]).set l.length g = l ++ [g] := fun g => by simp
  have e2 : s ++ (⟨#[]⟩ : ByteArray) = s := ByteArray.append_empty
  have hlast : ∀ m : List Fil, (∀ f ∈ m, f.nm ≠ nm) → redd nm (m ++ [(⟨nm, s, ⟨#[]⟩⟩ : Fil)]) = (s, 0) := by
    intro m hm
    have hk : m.length < (m ++ [(⟨nm, s, ⟨#[]⟩⟩ : Fil)]).length := by simp
    have hgl : (m ++ [(⟨nm, s, ⟨#[]⟩⟩ : Fil)])[m.length] = ⟨nm, s, ⟨#[]⟩⟩ := by simp
    rw [redd_at hk (by rw [hgl]) (fun j hj hjl => by rw [List.getElem_append_left hjl]; exact hm _ (List.getElem_mem hjl)), hgl, e2]
  have hnf : ∀ g : Dk, g.fs = d.fs → (nmd g (opn fr d.fs).2 nm).fs = l ++ [⟨nm, s, ⟨#[]⟩⟩] := by
    intro g hgf
    have ho' : (opn fr (l ++ [(⟨fr, s, ⟨#[]⟩⟩ : Fil)])).2 = l.length := by rw [← hfs]; exact ho
    unfold nmd
    simp only [hgf, hfs, ho']
    rw [hset]
    simp
  unfold ren at h ⊢
  split at h
  · simp at h
  · rename_i h1
    split at h
    · simp at h
    · rename_i h2
      split at h
      · simp at h
      · rename_i h3
        split at h
        · rename_i h4; exact absurd h4.symm hne
        · rename_i h4
          split at h
          · simp at h
          · rename_i h5
            rw [if_neg h1, if_neg h2, if_neg h3, if_neg h4, if_neg h5]
            split
            · rename_i h6
              obtain ⟨k, hkl, hkn, hkf, _, hko⟩ := Rn.hit_some h6
              have hkl2 : k < l.length := by
                rcases Nat.lt_or_ge k l.length with hlt | hge
                · exact hlt
                · exfalso
                  have hke : k = l.length := by rw [hfs] at hkl; simp at hkl; omega
                  subst hke
                  simp only [hfs, hgl] at hkn
                  exact hne hkn.symm
              show redd nm ((nmd (pow d).1 (opn fr d.fs).2 nm).fs.eraseIdx (opn nm d.fs).2) = _
              rw [hnf _ (pow_fs d), hko, List.eraseIdx_append_of_lt_length hkl2]
              refine hlast _ (sole_gone hu hkl2 ?_)
              simp only [hfs, List.getElem_append_left hkl2] at hkn
              exact hkn
            · rename_i h6
              show redd nm (nmd (pow d).1 (opn fr d.fs).2 nm).fs = _
              rw [hnf _ (pow_fs d)]
              refine hlast _ fun f hf => Rn.hit_no (nm := nm) (l := d.fs) (by simpa using h6) f (by rw [hfs]; exact List.mem_append_left _ hf)
theorem lay_read {d : Dk} {nm s : ByteArray} (h1 : Sole nm d.fs) (h2 : Sole (Rn.freshB nm) d.fs) (h : (Rn.lay d nm s).2 = 0) : redd nm (Rn.lay d nm s).1.fs = (s, 0) := by
  have hne := Rn.fresh_ne nm
  have h3 : (Rn.lay3 d nm s).2 = 0 := by
    unfold Rn.lay at h
    split at h
    · assumption
    · exact h
  have e4 : Rn.lay d nm s = ren (Rn.lay3 d nm s).1 (Rn.freshB nm) nm := by unfold Rn.lay; rw [if_pos h3]
  have hl2 : (Rn.lay2 d nm s).2 = 0 := by
    unfold Rn.lay3 at h3
    split at h3
    · assumption
    · exact h3
  have hl1 : (Rn.lay1 d nm).2 = 0 := by
    unfold Rn.lay2 at hl2
    split at hl2
    · assumption
    · exact hl2
  have e2 : Rn.lay2 d nm s = appd (Rn.lay1 d nm).1 (Rn.freshB nm) s := by unfold Rn.lay2; rw [if_pos hl1]
  have e3 : Rn.lay3 d nm s = syn (Rn.lay2 d nm s).1 (Rn.freshB nm) := by unfold Rn.lay3; rw [if_pos hl2]
  have g1 : (∀ f ∈ (Rn.lay1 d nm).1.fs, f.nm ≠ Rn.freshB nm) ∧ Sole nm (Rn.lay1 d nm).1.fs := by
    unfold Rn.lay1 at hl1 ⊢
    split at hl1
    · rename_i hh
      rw [if_pos hh]
      obtain ⟨k, hk, hkn, he⟩ := Rn.del_ok hl1
      rw [he]
      exact ⟨sole_gone h2 hk hkn, sole_erase h1 k⟩
    · rename_i hh
      rw [if_neg hh]
      exact ⟨Rn.hit_no (by simpa using hh), h1⟩
  rw [e2] at hl2
  have f2 := Rn.appd_ok g1.1 hl2
  rw [e3] at h3
  have f3 := Rn.syn_ok (by rw [e2]; exact f2) g1.1 h3
  rw [e4] at h ⊢
  exact ren_last hne (by rw [e3]; exact f3) g1.1 g1.2 h

set_option maxHeartbeats 8000000 in
set_option maxRecDepth 100000 in
theorem walk (A : Option Addr) (n c : Nat) (d : Dk) (nm : ByteArray) (B : Option Addr) (m cb : Nat) (l : List Prm.Pr) (w : World) (hd : DkIn w A n c d) (hsm : ∀ f ∈ d.fs, f.sf.size ≤ 1048576 ∧ f.wt.size ≤ 1048576) (hn : nm.size ≤ 140737488351232) (hl : In_ pairK w B m cb l) (u0 : m ≤ 1048576) :
    Calls Try.prog 9 #[dkv A n c d.room d.fuse d.off, .string nm, .slice B m cb] w fun e w' => e = .returned (.bool true) ∧ Q w w' := by
  have hB30 : Bnd 1073741824 d := ⟨fun f hf => by have := hsm f hf; omega, hd.bnd.few, hd.room, hd.fuse⟩
  have V0 := Lib.hid (And.intro (DV.new (W := w) (d := d) hd.dsk) ((Q.refl w).alloc (.cells #[.slice A n c, .int .i64 d.room, .int .i64 d.fuse, .bool d.off] 24)))
  have HDL := Lib.hid hd.dsk.len
  have HL := Lib.hid hl
  have hfew := hd.dsk.few
  have HLen := Lib.hid hl.len
  have KB := Lib.hid (fun W (h : In_ pairK W B m cb l) => bytes_any B m cb l W h.lst (by omega))
  have KL := Lib.hid (fun (s : ByteArray) (hs : s.size ≤ 2305843009213693952) (W : World) (hW : Dsk W A n c d.fs) => lay_any nm s A n c d W hW hd.bnd hs hn)
  have HBd := Lib.hid hB30
  have HFr := Lib.hid (show (⟨#[110, 46]⟩ : ByteArray) ++ nm = Rn.freshB nm from rfl)
  have HRd := Lib.hid (fun s h1 h2 h => lay_read (d := d) (nm := nm) (s := s) h1 h2 h)
  have HSo := Lib.hid (fun k (hk : k = d.fs.length) (x : ByteArray) (h : cnt x d.fs k ≤ 1) => sole_of (nm := x) (l := d.fs) (by rw [← hk]; exact h))
  generalize Rn.freshB nm = fr at HFr HRd
  have hz : (⟨#[110, 46]⟩ : ByteArray).size = 2 := rfl
  have hn2 : (⟨#[110, 46]⟩ : ByteArray).size + nm.size ≤ 140737488351234 := by rw [hz]; omega
  clear hd hsm hB30 hl hz
  go_enter Try.func9, Try.ntmps9
  go_wp2_with fail
  refine (rshown_any _).mono ?_
  rintro e w1 ⟨rfl, q1⟩
  have HV := Lib.hid (V0.out.1.q q1)
  have HQ := Lib.hid (V0.out.2.trans q1)
  clear V0 q1
  go_wp2
  go_loopw [8, 9, 10] (fun s8 s9 s10 wr => ∃ a : Nat, a ≤ n ∧ s10 = .int .i64 a ∧ s8 = .int .i64 (cnt nm d.fs a) ∧ s9 = .int .i64 (cnt fr d.fs a) ∧ Q w1 wr) (fun _ _ i _ => n - (intOf i).toNat)
  case atStart => exact ⟨0, Nat.zero_le _, rfl, by simp [cnt], by simp [cnt], Q.refl _⟩
  case round =>
    obtain ⟨a, ha, rfl, rfl, rfl, hq⟩ := hrel
    have HQA := Lib.hid hq
    clear hq
    have b1 := cnt_le nm d.fs a
    have b2 := cnt_le fr d.fs a
    obtain ⟨⟨e0, e1, e2, e3⟩, _⟩ := (HV.out.q HQA.out).get
    by_cases hlt : a < n
    · have hal : a < d.fs.length := by have := HDL.out; omega
      obtain ⟨ad, rfl, hbk, c0, c1, c2⟩ := (HV.out.q HQA.out).dsk.files.load hlt hal
      have q4 : (a : Int) < (n : Int) := by omega
      have y1 := fun h => cnt_yes (nm := nm) hal h
      have y2 := fun h => cnt_no (nm := nm) hal h
      have y3 := fun h => cnt_yes (nm := fr) hal h
      have y4 := fun h => cnt_no (nm := fr) hal h
      clear c1 c2
      by_cases g1 : d.fs[a].nm = nm
      · by_cases g2 : d.fs[a].nm = fr
        · have z1 := Lib.hid (y1 g1)
          have z2 := Lib.hid (y3 g2)
          have t1 := str_eqb g1
          have t2 := str_eqb g2
          clear g1 g2 y1 y2 y3 y4
          generalize d.fs[a].nm = fa at c0 t1 t2
          have t2' : (fa.toList == ((⟨#[110, 46]⟩ : ByteArray) ++ nm).toList) = (fa.toList == fr.toList) := by rw [HFr.out]
          rw [t2] at t2'
          go_wp2
          go_roundw
          case rel => exact ⟨a + 1, by omega, by go_num, by rw [z1.out]; (try first | rfl | go_num), by rw [z2.out]; (try first | rfl | go_num), HQA.out⟩
          case measure => simp [intOf]; omega
        · have z1 := Lib.hid (y1 g1)
          have z2 := Lib.hid (y4 g2)
          have t1 := str_eqb g1
          have t2 := str_ne g2
          clear g1 g2 y1 y2 y3 y4
          generalize d.fs[a].nm = fa at c0 t1 t2
          have t2' : (fa.toList == ((⟨#[110, 46]⟩ : ByteArray) ++ nm).toList) = (fa.toList == fr.toList) := by rw [HFr.out]
          rw [t2] at t2'
          go_wp2
          go_roundw
          case rel => exact ⟨a + 1, by omega, by go_num, by rw [z1.out]; (try first | rfl | go_num), by rw [z2.out]; (try first | rfl | go_num), HQA.out⟩
          case measure => simp [intOf]; omega
      · by_cases g2 : d.fs[a].nm = fr
        · have z1 := Lib.hid (y2 g1)
          have z2 := Lib.hid (y3 g2)
          have t1 := str_ne g1
          have t2 := str_eqb g2
          clear g1 g2 y1 y2 y3 y4
          generalize d.fs[a].nm = fa at c0 t1 t2
          have t2' : (fa.toList == ((⟨#[110, 46]⟩ : ByteArray) ++ nm).toList) = (fa.toList == fr.toList) := by rw [HFr.out]
          rw [t2] at t2'
          go_wp2
          go_roundw
          case rel => exact ⟨a + 1, by omega, by go_num, by rw [z1.out]; (try first | rfl | go_num), by rw [z2.out]; (try first | rfl | go_num), HQA.out⟩
          case measure => simp [intOf]; omega
        · have z1 := Lib.hid (y2 g1)
          have z2 := Lib.hid (y4 g2)
          have t1 := str_ne g1
          have t2 := str_ne g2
          clear g1 g2 y1 y2 y3 y4
          generalize d.fs[a].nm = fa at c0 t1 t2
          have t2' : (fa.toList == ((⟨#[110, 46]⟩ : ByteArray) ++ nm).toList) = (fa.toList == fr.toList) := by rw [HFr.out]
          rw [t2] at t2'
          go_wp2
          go_roundw
          case rel => exact ⟨a + 1, by omega, by go_num, by rw [z1.out]; (try first | rfl | go_num), by rw [z2.out]; (try first | rfl | go_num), HQA.out⟩
          case measure => simp [intOf]; omega
    · have hae : a = d.fs.length := by have := HDL.out; omega
      have S1 := Lib.hid (HSo.out a hae nm)
      have S2 := Lib.hid (HSo.out a hae fr)
      clear hae HSo
      generalize cnt nm d.fs a = k1 at b1 S1 ⊢
      generalize cnt fr d.fs a = k2 at b2 S2 ⊢
      have VA := Lib.hid (HV.out.q HQA.out)
      have QA := Lib.hid (HQ.out.trans HQA.out)
      have IL := Lib.hid (HL.out.q QA.out)
      clear HV HQA HQ e0 e1 e2 e3
      have hbm : (Rn.bytesM l).2 = 0 → Rn.may l = true ∧ (Rn.bytesM l).1 = Rn.bytes l := by
        unfold Rn.bytesM
        cases hm : Rn.may l with
        | true => intro _; exact ⟨rfl, rfl⟩
        | false => intro h; exact absurd h (by simp)
      have hsz : (Rn.bytesM l).1.length ≤ 137483000000 := by
        unfold Rn.bytesM
        cases hm : Rn.may l with
        | false => simp
        | true =>
          have h0 := HLen.out
          have h1 := Rn.body_length l (Rn.may_big hm) (by unfold Dm.maxU; omega)
          have h2 := sld_length (Rn.body l) (by omega)
          simp only [if_true]
          unfold Rn.bytes; omega
      generalize Rn.bytesM l = bm at KB hbm hsz
      obtain ⟨bl, be⟩ := bm
      simp only at hbm hsz KB
      obtain ⟨F, hF, hFs, hFl⟩ := bytes_of bl
      rw [← hF] at KB
      have KX := Lib.hid (KL.out F (by omega))
      have hRd := fun h1 h2 h => HRd.out F h1 h2 h
      have hBx := HBd.out.lay (by omega) nm F
      generalize Rn.lay d nm F = x at KX hRd hBx
      obtain ⟨x, er⟩ := x
      simp only at hRd hBx
      have HBx := Lib.hid hBx
      have HBm := Lib.hid hbm
      have HFl := Lib.hid hFl
      have HRx := Lib.hid hRd
      clear hbm hBx hRd hF hFs hFl HRd KL
      have hcase : (1 < k1 ∨ 1 < k2 ∨ be ≠ 0 ∨ er ≠ 0) ∨ (k1 ≤ 1 ∧ k2 ≤ 1 ∧ be = 0 ∧ er = 0) := by
        by_cases h1 : 1 < k1
        · exact .inl (.inl h1)
        · by_cases h2 : 1 < k2
          · exact .inl (.inr (.inl h2))
          · by_cases h3 : be = 0
            · by_cases h4 : er = 0
              · exact .inr ⟨by omega, by omega, h3, h4⟩
              · exact .inl (.inr (.inr (.inr h4)))
            · exact .inl (.inr (.inr (.inl h3)))
      obtain ⟨⟨e0, e1, e2, e3⟩, _⟩ := VA.out.get
      rcases hcase with hc | ⟨hc1, hc2, rfl, rfl⟩
      · by_cases h1 : 1 < k1
        · have j1 : (1 : Int) < (k1 : Int) := by omega
          clear hc
          go_wp2_with fail
          refine (KB.out _ IL.out).mono ?_
          rintro e w2 ⟨rfl, q2⟩
          have V2 := Lib.hid (VA.out.q q2)
          have Q2 := Lib.hid (QA.out.trans q2)
          clear q2 e0 e1 e2 e3
          obtain ⟨⟨e0, e1, e2, e3⟩, _⟩ := V2.out.get
          go_wp2_with fail
          refine (KX.out _ V2.out.dsk).mono ?_
          rintro e w3 ⟨A3, n3, c3, rfl, D3, _, q3⟩
          go_wp2_with fail
          go_ret
          exact ⟨rfl, Q2.out.trans (q3.alloc _)⟩
        · have j1 : ¬ (1 : Int) < (k1 : Int) := by omega
          by_cases h2 : 1 < k2
          · have j2 : (1 : Int) < (k2 : Int) := by omega
            clear hc
            go_wp2_with fail
            refine (KB.out _ IL.out).mono ?_
            rintro e w2 ⟨rfl, q2⟩
            have V2 := Lib.hid (VA.out.q q2)
            have Q2 := Lib.hid (QA.out.trans q2)
            clear q2 e0 e1 e2 e3
            obtain ⟨⟨e0, e1, e2, e3⟩, _⟩ := V2.out.get
            go_wp2_with fail
            refine (KX.out _ V2.out.dsk).mono ?_
            rintro e w3 ⟨A3, n3, c3, rfl, D3, _, q3⟩
            go_wp2_with fail
            go_ret
            exact ⟨rfl, Q2.out.trans (q3.alloc _)⟩
          · have j2 : ¬ (1 : Int) < (k2 : Int) := by omega
            by_cases h3 : be = 0
            · have j3 : (be != 0) = false := by simpa using h3
              have h4 : er ≠ 0 := by omega
              have j4 : (er != 0) = true := by simpa using h4
              clear hc h3 h4
              go_wp2_with fail
              refine (KB.out _ IL.out).mono ?_
              rintro e w2 ⟨rfl, q2⟩
              have V2 := Lib.hid (VA.out.q q2)
              have Q2 := Lib.hid (QA.out.trans q2)
              clear q2 e0 e1 e2 e3
              obtain ⟨⟨e0, e1, e2, e3⟩, _⟩ := V2.out.get
              go_wp2_with fail
              refine (KX.out _ V2.out.dsk).mono ?_
              rintro e w3 ⟨A3, n3, c3, rfl, D3, _, q3⟩
              go_wp2_with fail
              go_ret
              exact ⟨rfl, Q2.out.trans (q3.alloc _)⟩
            · have j3 : (be != 0) = true := by simpa using h3
              clear hc h3
              go_wp2_with fail
              refine (KB.out _ IL.out).mono ?_
              rintro e w2 ⟨rfl, q2⟩
              have V2 := Lib.hid (VA.out.q q2)
              have Q2 := Lib.hid (QA.out.trans q2)
              clear q2 e0 e1 e2 e3
              obtain ⟨⟨e0, e1, e2, e3⟩, _⟩ := V2.out.get
              go_wp2_with fail
              refine (KX.out _ V2.out.dsk).mono ?_
              rintro e w3 ⟨A3, n3, c3, rfl, D3, _, q3⟩
              go_wp2_with fail
              go_ret
              exact ⟨rfl, Q2.out.trans (q3.alloc _)⟩
      · have j1 : ¬ (1 : Int) < (k1 : Int) := by omega
        have j2 : ¬ (1 : Int) < (k2 : Int) := by omega
        have hrd := HRx.out (S1.out hc1) (S2.out hc2) rfl
        obtain ⟨hmay, hbl⟩ := HBm.out rfl
        have hfz := redd_size (nm := nm) HBx.out.sum
        rw [hrd] at hfz
        have hML : Rn.loadM nm x.fs = (l, 0) := by
          unfold Rn.loadM
          rw [hrd, if_neg (by simp)]
          simp only
          rw [HFl.out, hbl]
          have hlow : (Rn.body l).length ≤ (Rn.bytes l).length := by unfold Rn.bytes sld; rw [List.length_append, List.length_append]; omega
          have hll : (Rn.bytes l).length ≤ 1073741824 := by rw [← hbl, ← HFl.out, Rn.size_data]; exact hfz
          exact Rn.take_bytes l _ hmay (by unfold Dm.maxU; omega) (by omega)
        have KO := Lib.hid (fun A3 n3 c3 W (hW : Dsk W A3 n3 c3 x.fs) => load_any nm A3 n3 c3 x W hW HBx.out.sum)
        rw [hML] at KO
        have KO := Lib.hid (show ∀ A3 n3 c3 W, Dsk W A3 n3 c3 x.fs → Calls Try.prog 13 #[dkv A3 n3 c3 x.room x.fuse x.off, .string nm] W fun e w' => ∃ A c, e = .returned (.tuple #[.slice A l.length c, .int .i64 0]) ∧ OwnK pairK w' W.heap.size A l.length c l ∧ Q W w' from KO.out)
        clear hrd hmay hbl hfz hML hc1 hc2
        go_wp2_with fail
        refine (KB.out _ IL.out).mono ?_
        rintro e w2 ⟨rfl, q2⟩
        have V2 := Lib.hid (VA.out.q q2)
        have Q2 := Lib.hid (QA.out.trans q2)
        clear q2 e0 e1 e2 e3
        obtain ⟨⟨e0, e1, e2, e3⟩, _⟩ := V2.out.get
        go_wp2_with fail
        refine (KX.out _ V2.out.dsk).mono ?_
        rintro e w3 ⟨A3, n3, c3, rfl, D3, _, q3⟩
        have X3 := Lib.hid (And.intro (DV.new (W := w3) (d := x) D3) (Q2.out.trans (q3.alloc (.cells #[.slice A3 n3 c3, .int .i64 x.room, .int .i64 x.fuse, .bool x.off] 24))))
        clear D3 q3 e0 e1 e2 e3
        obtain ⟨⟨e0, e1, e2, e3⟩, _⟩ := X3.out.1.get
        go_wp2_with fail
        refine (KO.out A3 n3 c3 _ X3.out.1.dsk).mono ?_
        rintro e w4 ⟨A4, c4, rfl, o4, q4⟩
        have Q4 := Lib.hid (X3.out.2.trans q4)
        have O4 := Lib.hid o4
        have hl4 := Lib.hid (Nat.le_trans o4.le o4.cap)
        clear o4 q4 X3
        go_wp2_with fail
        refine (refSame_any B A4 m cb l.length c4 l l _ (HL.out.lst.q Q4.out) O4.out.lst HL.out.max hl4.out).mono ?_
        rw [show decide (l = l) = true from decide_eq_true rfl]
        rintro e w5 ⟨rfl, q5⟩
        go_wp2
        all_goals go_ret
        all_goals exact ⟨by first | rfl | simp, Q4.out.trans q5⟩

theorem opened (W : World) (args : Array Value) (hn : args.size = 3) (h : ∀ (j : Nat) t v, Try.f9.params[j]? = some t → args[j]? = some v → RdV W t v ∧ (true = true → RdU W t v.cells.toList)) :
    Calls Try.prog 9 args W fun e W' => e = .returned (.bool true) ∧ Q W W' := by
  obtain ⟨v0, v1, v2, rfl⟩ := args3 hn
  rw [Try.params9] at h
  obtain ⟨cs, rfl, hr⟩ := (h 0 24 v0 rfl rfl).1.struct Try.underlying24
  obtain ⟨A, n, c, d, rfl, hd⟩ := open_disk hr
  have hu := (h 0 24 (.agg #[.slice A n c, .int .i64 d.room, .int .i64 d.fuse, .bool d.off]) rfl rfl).2 rfl
  rw [show (Value.agg (#[.slice A n c, .int .i64 d.room, .int .i64 d.fuse, .bool d.off] : Array Value)).cells.toList = [.slice A n c, .int .i64 d.room, .int .i64 d.fuse, .bool d.off] by simp [Value.cells]] at hu
  obtain ⟨nm, rfl, s1⟩ := (h 1 9 v1 rfl rfl).1.string Try.underlying9
  obtain ⟨A0, n0, c0, e0, r0⟩ := (h 2 31 v2 rfl rfl).1.slice Try.underlying31
  obtain ⟨B0, m0, d0, l, f0, hd0, hb0, hp0⟩ := open_pairs r0
  simp only [List.cons.injEq, Value.slice.injEq, and_true] at f0
  obtain ⟨rfl, rfl, rfl⟩ := f0
  subst e0
  have u0 := small_list hd0 (fun a ha => RdU.cap (w := W) (t := 31) (a := a) (len := n0) (cap := c0) (by subst ha; exact ((h 2 31 _ rfl rfl).2 rfl)) Try.underlying31)
  exact walk A n c d nm A0 n0 c0 l W hd (hd.small hu) s1 hd0 u0

set_option maxRecDepth 100000 in
theorem lifted (os : Os) (started : os.Started) (H : Type) (enc : TypeId × Value → H) (F : Stop.Interp) :
    ReturnsInHanded {} Try.checked os 9 .any ((Rows.OpenSpec.upto Rows.runLoadsSpec).pre6 enc Try.prog Try.f9 Rows.runLoadsUptoRow.domain false) (((Rows.OpenSpec.upto Rows.runLoadsSpec).at F).post enc Try.prog Try.f9 false true false false) :=
  framedU (s := Rows.runLoadsSpec) 3 Try.func9 (by rw [Try.params9]; rfl) rfl (by kernel_rfl) (by kernel_rfl) (by kernel_rfl)
    (fun H ds h => by match ds, h with | [d0, d1, d2], _ => exact ⟨rfl, rfl, rfl⟩)
    opened os started H enc F
    (OpenSpec.witness (enc := enc) (C := Try.checked) (s := Rows.OpenSpec.upto Rows.runLoadsSpec) (k := Rows.uptoSmall) rfl false ⟨#[], #[.agg #[.slice none 0 0, .int .i64 0, .int .i64 0, .bool false], .string ByteArray.empty, .slice none 0 0], []⟩ 8 (by kernel_rfl) (by kernel_rfl) (by kernel_rfl)
      (x := ([.agg [.nil, .lit (.int .i64 0), .lit (.int .i64 0), .lit (.bool false)], .lit (.string []), .nil], [], [])) (by kernel_rfl) (by kernel_rfl) (by kernel_rfl))

theorem proved : Rows.RunLoadsUptoSaid :=
  OpenClaim.holds_of_cond 9 Try.f9 rfl rfl rfl rfl rfl rfl rfl ⟨rfl, rfl, rfl, rfl, rfl⟩ rfl rfl rfl rfl rfl (by kernel_rfl) Try.func9 (by kernel_rfl)
    (of_decide_eq_true (by kernel_rfl)) (by unfold Func.isWrapper; first | (rw [if_pos (by decide +kernel)]; kernel_rfl) | (rw [if_neg (by decide +kernel)]; exact ⟨rfl, rfl⟩))
    (fun os started H enc _ F => lifted os started H enc F)
end Go.Proofs.Ytodfdklcioafmaa.runLoadsUpto
