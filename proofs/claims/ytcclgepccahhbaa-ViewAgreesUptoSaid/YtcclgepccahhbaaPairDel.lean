/- Contracts: slices.DeleteFunc by a key, at a list of the call's own. -/
import Derived.Test.YtcclgepccahhbaaKindRow
import Derived.Test.YtcclgepccahhbaaPair
import Derived.Test.YtcclgepccahhbaaApp
namespace Go.Proofs.Ytcclgepccahhbaa
set_option maxRecDepth 100000
open Go.RowKit Prm
set_option linter.unusedVariables false

theorem zero_pair : ∀ W, (zeroValue pairK.T).run Try.prog W = .ok pairK.z W := by
  obtain ⟨t, hi, hz, hs, hy⟩ := info_parts pairK.info
  intro W
  simp [zeroValue, typeInfo, hi, hz]

def keep (key : ByteArray) (p : Pr) : Bool := !hasK key p
theorem drop_all {key : ByteArray} {l : List Pr} (h : ∀ a ∈ l, hasK key a = false) : drop l key = l := by
  unfold drop
  exact List.filter_eq_self.2 fun a ha => by rw [h a ha]; rfl
theorem filter_first {key : ByteArray} {l : List Pr} {k : Nat} (hk : k < l.length) (h : hasK key l[k] = true) (hf : ∀ j, ∀ hj : j < l.length, j < k → hasK key l[j] = false) : (l.take (k + 1)).filter (keep key) = l.take k := by
  rw [List.take_succ_eq_append_getElem hk, List.filter_append]
  have h1 : (l.take k).filter (keep key) = l.take k := List.filter_eq_self.2 fun a ha => by
    obtain ⟨j, hj, rfl⟩ := List.mem_iff_getElem.1 ha
    rw [List.length_take] at hj
    rw [List.getElem_take, keep, hf j (by omega) (by omega)]; rfl
  rw [h1, List.filter_cons, keep, h]; simp
theorem filter_keep {key : ByteArray} {l cur : List Pr} {a b : Nat} (hb : b < l.length) (hab : a < b) (hc : cur.length = l.length) (h1 : cur.take a = (l.take b).filter (keep key)) (h2 : cur.drop b = l.drop b) (hk : hasK key l[b] = false) :
    (cur.set a l[b]).take (a + 1) = (l.take (b + 1)).filter (keep key) ∧ (cur.set a l[b]).drop (b + 1) = l.drop (b + 1) := by
  constructor
  · rw [List.take_succ_eq_append_getElem (by simp; omega), List.take_set_of_le (Nat.le_refl _), h1, List.getElem_set_self, List.take_succ_eq_append_getElem hb, List.filter_append, List.filter_cons, keep, hk]
    simp
  · rw [List.drop_set_of_lt (by omega), ← List.drop_drop, ← List.drop_drop, h2]
theorem filter_skip {key : ByteArray} {l cur : List Pr} {a b : Nat} (hb : b < l.length) (h1 : cur.take a = (l.take b).filter (keep key)) (h2 : cur.drop b = l.drop b) (hk : hasK key l[b] = true) :
    cur.take a = (l.take (b + 1)).filter (keep key) ∧ cur.drop (b + 1) = l.drop (b + 1) := by
  constructor
  · rw [h1, List.take_succ_eq_append_getElem hb, List.filter_append, List.filter_cons, keep, hk]; simp
  · rw [← List.drop_drop, ← List.drop_drop, h2]

set_option maxHeartbeats 4000000 in
theorem deleteFunc (key : ByteArray) (B base : Nat) (A : Option Addr) (n c : Nat) (l : List Pr) (w : World) (h : OwnK pairK w base A n c l) (hB : B < w.heap.size) (hc : w.cell? ⟨B, 0, none⟩ = some (.string key)) (hne : ∀ g, A = some ⟨g, 0, none⟩ → B ≠ g) (hbase : base ≤ w.heap.size) :
    Calls Try.prog 48 #[.slice A n c, .func (.func 45) #[] #[.pointer (some ⟨B, 0, none⟩)]] w fun e w' => RetB pairK w base (drop l key).length (drop l key) e w' := by
  have HO := Lib.hid h
  have HC := Lib.hid hc
  have hcap := h.cap
  have hle := h.le
  have HM := Lib.hid (Nat.le_trans hle hcap)
  unfold maxLen at hcap
  rcases idx_cases (hasK key) l 0 with ⟨hp, hall⟩ | ⟨k, hk, hp, hkn, hfirst⟩
  · have HP := Lib.hid hp
    rw [drop_all hall]
    have HL := Lib.hid h.len
    clear hp hall h hc
    go_enter Try.func48, Try.ntmps48
    go_wp2_with fail
    refine (pindexFunc _ _ key (fun p B w => has1 p key B w) (.inl rfl) B A n c l _ hB HC.out HO.out.lst HM.out).mono ?_
    rintro e w1 ⟨rfl, q1⟩
    rw [HP.out]
    go_wp2
    go_ret
    exact ⟨A, c, by rw [HL.out]; rfl, by rw [HL.out]; exact HO.out.q q1, q1.below.mono hbase⟩
  · have HP := Lib.hid (hp.trans (by simp : ((0 + k : Nat) : Int) = (k : Int)))
    have HF := Lib.hid (filter_first hk hkn hfirst)
    have hkl : k < n := by have := h.len; omega
    obtain ⟨g, rfl⟩ : ∃ g, A = some ⟨g, 0, none⟩ := by
      rcases h.parts with ⟨_, e, _⟩ | ⟨g, cur, rfl, _⟩
      · omega
      · exact ⟨g, rfl⟩
    have hbg := hne g rfl
    have HL := Lib.hid h.len
    have hgb := Lib.hid h.block_lt
    clear hp hkn hfirst h hc hk hne
    have hk1 : ((k : Int) == -1) = false := by simp
    go_enter Try.func48, Try.ntmps48
    go_wp2_with fail
    refine (pindexFunc _ _ key (fun p B w => has1 p key B w) (.inl rfl) B (some ⟨g, 0, none⟩) n c l _ hB HC.out HO.out.lst HM.out).mono ?_
    rintro e w1 ⟨rfl, q1⟩
    rw [HP.out]
    have Q1 := Lib.hid q1
    clear q1
    go_wp2
    go_loopw [5, 6] (fun i j wr => ∃ (a b : Nat) (cur : List Pr), i = .int .i64 a ∧ j = .int .i64 b ∧ a < b ∧ b ≤ n ∧ OwnK pairK wr base (some ⟨g, 0, none⟩) n c cur ∧ cur.take a = (l.take b).filter (keep key) ∧ cur.drop b = l.drop b ∧ Below base w wr ∧ wr.cell? ⟨B, 0, none⟩ = some (.string key)) (fun _ j _ => n - (intOf j).toNat)
    case atStart => exact ⟨k, k + 1, l, rfl, by go_num, Nat.lt_succ_self k, hkl, HO.out.q Q1.out, HF.out.symm, rfl, Q1.out.below.mono hbase, (Q1.out.below.cell (p := ⟨B, 0, none⟩) hB).trans HC.out⟩
    case round =>
      obtain ⟨a, b, cur, rfl, rfl, hab, hbn, ho, h1, h2, hbl, hcl⟩ := hrel
      have H1 := Lib.hid h1
      have H2 := Lib.hid h2
      have HOr := Lib.hid ho
      have HBl := Lib.hid hbl
      have HCl := Lib.hid hcl
      have hBr := block_lt_of_cell hcl
      have hgr := ho.block_lt
      have hcl' := ho.len
      have HCu := Lib.hid hcl'
      clear h1 h2 ho hbl hcl
      by_cases hlt : b < n
      · have hbl' : b < l.length := by have := HL.out; omega
        have hbc : b < cur.length := by omega
        have hac : a < cur.length := by omega
        have he : cur[b] = l[b] := by
          have e1 : (cur.drop b)[0]? = (l.drop b)[0]? := by rw [H2.out]
          rw [List.getElem?_drop, List.getElem?_drop, Nat.add_zero, List.getElem?_eq_getElem hbc, List.getElem?_eq_getElem hbl'] at e1
          exact Option.some.inj e1
        have c0 := HOr.out.cells hbc 0 _ rfl
        have c1 := HOr.out.cells hbc 1 _ rfl
        rw [he] at c0 c1
        have HE := Lib.hid he
        have c0 : wr.cell? ⟨g, b * 2, none⟩ = some (.string l[b].key) := c0
        have c1 : wr.cell? ⟨g, b * 2 + 1, none⟩ = some (.string l[b].val) := c1
        have hbi : (b : Int) < (n : Int) := by omega
        clear he hcl'
        go_wp2_with fail
        refine (has1 l[b] key B _ (by simp; omega) (box_ ((Q.refl _).alloc _) HCl.out)).mono ?_
        rintro e w2 ⟨rfl, q2⟩
        have O2 := Lib.hid ((HOr.out.alloc (.cells #[.string l[b].key, .string l[b].val] 44)).q q2)
        have B2 := Lib.hid ((HBl.out.alloc (by have := HBl.out.size; omega) (.cells #[.string l[b].key, .string l[b].val] 44)).trans (q2.below.mono (by simp; have := HBl.out.size; omega)))
        have C2 := Lib.hid (box_ (((Q.refl wr).alloc (.cells #[.string l[b].key, .string l[b].val] 44)).trans q2) HCl.out)
        obtain ⟨x0, x1⟩ : w2.cell? ⟨wr.heap.size, 0, none⟩ = some (.string l[b].key) ∧ w2.cell? ⟨wr.heap.size, 1, none⟩ = some (.string l[b].val) := ⟨box_ q2 (by simp), box_ q2 (by simp)⟩
        have ac0 : w2.cell? ⟨g, a * 2, none⟩ = some (.string cur[a].key) := O2.out.cells hac 0 _ rfl
        have ac1 : w2.cell? ⟨g, a * 2 + 1, none⟩ = some (.string cur[a].val) := O2.out.cells hac 1 _ rfl
        have f0 : w2.frozen? ⟨g, a * 2, none⟩ = false := O2.out.free _
        have f1 : w2.frozen? ⟨g, a * 2 + 1, none⟩ = false := O2.out.free _
        have hai : (a : Int) < (n : Int) := by omega
        clear q2 c0 c1
        by_cases hh : hasK key l[b] = true
        · have HS := Lib.hid (filter_skip hbl' H1.out H2.out hh)
          go_wp2
          go_roundw
          case rel => exact ⟨a, b + 1, cur, rfl, by go_num, by omega, by omega, O2.out, HS.out.1, HS.out.2, B2.out, C2.out⟩
          case measure => simp [intOf]; omega
        · have hf : hasK key l[b] = false := by simpa using hh
          have HS := Lib.hid (filter_keep hbl' hab (HCu.out.trans HL.out.symm) H1.out H2.out hf)
          have O3 := Lib.hid (O2.out.put hac l[b])
          have B3 := Lib.hid (O2.out.below_set B2.out (pairK.row l[b]) (a * 2))
          have hgB : (⟨g, a * 2, none⟩ : Addr) ≠ ⟨B, 0, none⟩ := by intro e; injection e with e; exact hbg e.symm
          have hgB1 : (⟨g, a * 2 + 1, none⟩ : Addr) ≠ ⟨B, 0, none⟩ := by intro e; injection e with e; exact hbg e.symm
          have C3 := Lib.hid (show ((w2.setCell ⟨g, a * 2, none⟩ (.string l[b].key)).setCell ⟨g, a * 2 + 1, none⟩ (.string l[b].val)).cell? ⟨B, 0, none⟩ = some (.string key) by
            rw [World.cell?_setCell_other _ _ _ _ hgB1, World.cell?_setCell_other _ _ _ _ hgB]; exact C2.out)
          clear hh
          go_wp2
          go_roundw
          case rel => exact ⟨a + 1, b + 1, cur.set a l[b], by go_num, by go_num, by omega, by omega, O3.out, HS.out.1, HS.out.2, B3.out, C3.out⟩
          case measure => simp [intOf]; omega
      · have hbn' : b = n := by omega
        have HBN := Lib.hid hbn'
        have HLD := Lib.hid (show drop l key = cur.take a by rw [H1.out, hbn', ← HL.out, List.take_length]; rfl)
        have HLA := Lib.hid (show (drop l key).length = a by rw [HLD.out, List.length_take, hcl', Nat.min_eq_left (by omega)])
        obtain ⟨xs, hr, hx⟩ := HOr.out.row
        obtain ⟨zs, hzl, hcl⟩ := run_clearK pairK hr (fun u hu => by simp [pairK, Value.cells] at hu; rcases hu with rfl | rfl <;> rfl) zero_pair 0 (a * 2) (n - a) 0 (by omega) (by show a * 2 + (n - a) * 2 ≤ c * 2; omega)
        have hcl := hcl (c - a)
        have hcl : (Builtin.clear_ #[31] 0 #[.slice (some ⟨g, a * 2, none⟩) (n - a) (c - a)]).run Try.prog wr = .ok (.tuple #[]) (wr.setCells g (a * 2) zs) := hcl
        have HZ := Lib.hid hzl
        have HR := Lib.hid hr
        have HX := Lib.hid hx
        have hca : ¬ (c = a) := by omega
        have han : a ≤ n := by omega
        have hac2 : a ≤ c := by omega
        have B3 := Lib.hid (HOr.out.below_set HBl.out zs (a * 2))
        generalize hW : wr.setCells g (a * 2) zs = W3 at hcl B3
        have HW := Lib.hid hW
        clear hr hx hzl hW hbn' hcl'
        go_wp2_with (simp only [hcl])
        go_ret
        refine ⟨_, c, by rw [HLA.out]; rfl, ?_, B3.out⟩
        rw [HLA.out, HLD.out, ← HW.out]
        have h1 := HR.out.sets (a * 2) zs (by rw [HZ.out]; show a * 2 + (n - a) * 2 ≤ c * 2; omega)
        refine h1.own hac2 ?_
        have h2 : (xs.take (a * 2)).length = a * pairK.k := by rw [List.length_take, HR.out.len]; show min (a * 2) (c * 2) = a * 2; omega
        rw [List.append_assoc, List.take_left' h2, pairK.rows_take, ← HX.out, List.take_take]
        congr 1
        show a * 2 = min (a * 2) (n * 2)
        omega
end Go.Proofs.Ytcclgepccahhbaa
