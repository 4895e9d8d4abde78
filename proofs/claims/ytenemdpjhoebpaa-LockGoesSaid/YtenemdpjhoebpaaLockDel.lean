/- Contracts: slices.DeleteFunc at holds and claims of the call's own. -/
import Derived.Test.YtenemdpjhoebpaaLockFind
import Derived.Test.YtenemdpjhoebpaaFilt
import Derived.Test.YtenemdpjhoebpaaKindRow
import Derived.Test.YtenemdpjhoebpaaApp
namespace Go.Proofs.Ytenemdpjhoebpaa
set_option maxRecDepth 100000
open Go.RowKit Prm Lm Sm
set_option linter.unusedVariables false
set_option linter.unusedSimpArgs false

/-- a list of the call's own, cut short where it lies; nothing else has turned. -/
def RetG {α : Type} (K : Kind α) (w : World) (base : Nat) (A : Option Addr) (n c : Nat) (l : List α) (e : Ending) (w' : World) : Prop :=
  e = .returned (.slice A l.length c) ∧ OwnK K w' base A l.length c l ∧ w.grownBy w' (Value.slice A n c).ownBlock
theorem grown_q {w w' : World} (q : Q w w') (b : Option Nat) : w.grownBy w' b := ⟨q.below.os, q.below.tape, q.below.output, q.size, fun i hi _ => q.below.block i hi⟩

set_option maxHeartbeats 4000000 in
theorem delete_free1 (txn : Int) (B base : Nat) (A : Option Addr) (n c : Nat) (l : List Ho) (w : World) (h : OwnK holdK w base A n c l) (hcp : Cap1 w txn B) (hne : ∀ g, A = some ⟨g, 0, none⟩ → B ≠ g) (hbase : base ≤ w.heap.size) :
    Calls Try.prog 46 #[.slice A n c, .func (.func 47) #[] #[.pointer (some ⟨B, 0, none⟩)]] w fun e w' => RetG holdK w base A n c (stay (isH txn) l) e w' := by
  have HO := Lib.hid h
  have HC := Lib.hid hcp
  have hcap := h.cap
  have hle := h.le
  have HM := Lib.hid (Nat.le_trans hle hcap)
  unfold maxLen at hcap
  have KF := Lib.hid (fun x W hh => free1_any x txn B W hh)
  have KI := Lib.hid (fun A n c l W hh hf hn => index_free1 txn B A n c l W hh hf hn)
  generalize hP : (isH txn) = P at KI ⊢
  have HP0 := Lib.hid hP
  clear hP
  rcases idx_cases P l 0 with ⟨hp, hall⟩ | ⟨k, hk, hp, hkn, hfirst⟩
  · have HP := Lib.hid hp
    rw [stay_all hall]
    have HL := Lib.hid h.len
    clear hp hall h hcp
    go_enter Try.func46, Try.ntmps46
    go_wp2_with fail
    refine (KI.out A n c l _ HC.out HO.out.lst HM.out).mono ?_
    rintro e w1 ⟨rfl, q1⟩
    rw [HP.out]
    go_wp2
    go_ret
    exact ⟨by rw [HL.out]; rfl, by rw [HL.out]; exact HO.out.q q1, grown_q q1 _⟩
  · have HP := Lib.hid (hp.trans (by simp : ((0 + k : Nat) : Int) = (k : Int)))
    have HF := Lib.hid (stay_first hk hkn hfirst)
    have hkl : k < n := by have := h.len; omega
    obtain ⟨g, rfl⟩ : ∃ g, A = some ⟨g, 0, none⟩ := by
      rcases h.parts with ⟨_, e, _⟩ | ⟨g, cur, rfl, _⟩
      · omega
      · exact ⟨g, rfl⟩
    have hbg := hne g rfl
    have HL := Lib.hid h.len
    have hgb := Lib.hid h.block_lt
    clear hp hkn hfirst h hcp hk hne
    have hk1 : ((k : Int) == -1) = false := by simp
    go_enter Try.func46, Try.ntmps46
    go_wp2_with fail
    refine (KI.out (some ⟨g, 0, none⟩) n c l _ HC.out HO.out.lst HM.out).mono ?_
    rintro e w1 ⟨rfl, q1⟩
    rw [HP.out]
    have Q1 := Lib.hid q1
    clear q1
    go_wp2
    go_loopw [5, 6] (fun i j wr => ∃ (a b : Nat) (cur : List Ho), i = .int .i64 a ∧ j = .int .i64 b ∧ a < b ∧ b ≤ n ∧ OwnK holdK wr base (some ⟨g, 0, none⟩) n c cur ∧ cur.take a = stay P (l.take b) ∧ cur.drop b = l.drop b ∧ w.grownBy wr (some g) ∧ Cap1 wr txn B) (fun _ j _ => n - (intOf j).toNat)
    case atStart => exact ⟨k, k + 1, l, rfl, by go_num, Nat.lt_succ_self k, hkl, HO.out.q Q1.out, HF.out.symm, rfl, only_q Q1.out, HC.out.q Q1.out⟩
    case round =>
      obtain ⟨a, b, cur, rfl, rfl, hab, hbn, ho, h1, h2, hbl, hcl⟩ := hrel
      have H1 := Lib.hid h1
      have H2 := Lib.hid h2
      have HOr := Lib.hid ho
      have HBl := Lib.hid hbl
      have HCl := Lib.hid hcl
      have hgr := ho.block_lt
      have hcl' := ho.len
      have HCu := Lib.hid hcl'
      clear h1 h2 ho hbl hcl
      by_cases hlt : b < n
      · have hbl' : b < l.length := by have := HL.out; omega
        have hbc : b < cur.length := by omega
        have hac : a < cur.length := by omega
        have he : cur[b] = l[b] := by
          have e1 : (cur.drop b)[0]? = (l.drop b)[0]? := by rw [H2.out]
          rw [List.getElem?_drop, List.getElem?_drop, Nat.add_zero, List.getElem?_eq_getElem hbc, List.getElem?_eq_getElem hbl'] at e1
          exact Option.some.inj e1
        have c0 := HOr.out.cells hbc 0 _ rfl
        have c1 := HOr.out.cells hbc 1 _ rfl
        have c2 := HOr.out.cells hbc 2 _ rfl
        have c3 := HOr.out.cells hbc 3 _ rfl
        rw [he] at c0 c1 c2 c3
        have HE := Lib.hid he
        have c0 : wr.cell? ⟨g, b * 4, none⟩ = some (.int .i64 l[b].txn) := c0
        have c1 : wr.cell? ⟨g, b * 4 + 1, none⟩ = some (.int .i64 l[b].w.mode) := c1
        have c2 : wr.cell? ⟨g, b * 4 + 2, none⟩ = some (.string l[b].w.lo) := c2
        have c3 : wr.cell? ⟨g, b * 4 + 3, none⟩ = some (.string l[b].w.hi) := c3
        have hbi : (b : Int) < (n : Int) := by omega
        clear he hcl'
        go_wp2_with fail
        refine (KF.out l[b] _ (HCl.out.q ((Q.refl _).alloc _))).mono ?_
        rintro e w2 ⟨rfl, q2⟩
        rw [HP0.out]
        have O2 := Lib.hid ((HOr.out.alloc (.cells #[.int .i64 l[b].txn, .int .i64 l[b].w.mode, .string l[b].w.lo, .string l[b].w.hi] 52)).q q2)
        have B2 := Lib.hid (HBl.out.trans (only_q (((Q.refl wr).alloc (.cells #[.int .i64 l[b].txn, .int .i64 l[b].w.mode, .string l[b].w.lo, .string l[b].w.hi] 52)).trans q2)))
        have C2 := Lib.hid (HCl.out.q (((Q.refl wr).alloc (.cells #[.int .i64 l[b].txn, .int .i64 l[b].w.mode, .string l[b].w.lo, .string l[b].w.hi] 52)).trans q2))
        obtain ⟨x0, x1, x2, x3⟩ : w2.cell? ⟨wr.heap.size, 0, none⟩ = some (.int .i64 l[b].txn) ∧ w2.cell? ⟨wr.heap.size, 1, none⟩ = some (.int .i64 l[b].w.mode) ∧ w2.cell? ⟨wr.heap.size, 2, none⟩ = some (.string l[b].w.lo) ∧ w2.cell? ⟨wr.heap.size, 3, none⟩ = some (.string l[b].w.hi) := ⟨box_ q2 (by simp), box_ q2 (by simp), box_ q2 (by simp), box_ q2 (by simp)⟩
        have ac0 : w2.cell? ⟨g, a * 4, none⟩ = some (.int .i64 cur[a].txn) := O2.out.cells hac 0 _ rfl
        have ac1 : w2.cell? ⟨g, a * 4 + 1, none⟩ = some (.int .i64 cur[a].w.mode) := O2.out.cells hac 1 _ rfl
        have ac2 : w2.cell? ⟨g, a * 4 + 2, none⟩ = some (.string cur[a].w.lo) := O2.out.cells hac 2 _ rfl
        have ac3 : w2.cell? ⟨g, a * 4 + 3, none⟩ = some (.string cur[a].w.hi) := O2.out.cells hac 3 _ rfl
        have f0 : w2.frozen? ⟨g, a * 4, none⟩ = false := O2.out.free _
        have f1 : w2.frozen? ⟨g, a * 4 + 1, none⟩ = false := O2.out.free _
        have f2 : w2.frozen? ⟨g, a * 4 + 2, none⟩ = false := O2.out.free _
        have f3 : w2.frozen? ⟨g, a * 4 + 3, none⟩ = false := O2.out.free _
        have hai : (a : Int) < (n : Int) := by omega
        clear q2 c0 c1 c2 c3
        by_cases hh : P l[b] = true
        · have HS := Lib.hid (stay_skip hbl' H1.out H2.out hh)
          go_wp2
          go_roundw
          case rel => exact ⟨a, b + 1, cur, rfl, by go_num, by omega, by omega, O2.out, HS.out.1, HS.out.2, B2.out, C2.out⟩
          case measure => simp [intOf]; omega
        · have hf : P l[b] = false := by simpa using hh
          have HS := Lib.hid (stay_keep hbl' hab (HCu.out.trans HL.out.symm) H1.out H2.out hf)
          have O3 := Lib.hid (O2.out.put hac l[b])
          have B3 := Lib.hid (only_sets (holdK.row l[b]) (a * 4) w2 B2.out)
          have C3 := Lib.hid (show Cap1 ((((w2.setCell ⟨g, a * 4, none⟩ (.int .i64 l[b].txn)).setCell ⟨g, a * 4 + 1, none⟩ (.int .i64 l[b].w.mode)).setCell ⟨g, a * 4 + 2, none⟩ (.string l[b].w.lo)).setCell ⟨g, a * 4 + 3, none⟩ (.string l[b].w.hi)) txn B from ⟨by simpa using C2.out.1, by
            rw [World.cell?_setCell_other _ _ _ _ (show (⟨g, a * 4 + 3, none⟩ : Addr) ≠ ⟨B, 0, none⟩ by intro e; injection e with e; exact hbg e.symm)]
            rw [World.cell?_setCell_other _ _ _ _ (show (⟨g, a * 4 + 2, none⟩ : Addr) ≠ ⟨B, 0, none⟩ by intro e; injection e with e; exact hbg e.symm)]
            rw [World.cell?_setCell_other _ _ _ _ (show (⟨g, a * 4 + 1, none⟩ : Addr) ≠ ⟨B, 0, none⟩ by intro e; injection e with e; exact hbg e.symm)]
            rw [World.cell?_setCell_other _ _ _ _ (show (⟨g, a * 4, none⟩ : Addr) ≠ ⟨B, 0, none⟩ by intro e; injection e with e; exact hbg e.symm)]
            exact C2.out.2⟩)
          clear hh
          go_wp2
          go_roundw
          case rel => exact ⟨a + 1, b + 1, cur.set a l[b], by go_num, by go_num, by omega, by omega, O3.out, HS.out.1, HS.out.2, B3.out, C3.out⟩
          case measure => simp [intOf]; omega
      · have hbn' : b = n := by omega
        have HBN := Lib.hid hbn'
        have HLD := Lib.hid (show stay P l = cur.take a by rw [H1.out, hbn', ← HL.out, List.take_length])
        have HLA := Lib.hid (show (stay P l).length = a by rw [HLD.out, List.length_take, hcl', Nat.min_eq_left (by omega)])
        obtain ⟨xs, hr, hx⟩ := HOr.out.row
        obtain ⟨zs, hzl, hcl⟩ := run_clearK holdK hr (fun u hu => by simp [holdK, Value.cells] at hu; rcases hu with rfl | rfl | rfl | rfl <;> rfl) (zero_kind holdK) 0 (a * 4) (n - a) 0 (by omega) (by show a * 4 + (n - a) * 4 ≤ c * 4; omega)
        have hcl := hcl (c - a)
        have hcl : (Builtin.clear_ #[22] 0 #[.slice (some ⟨g, a * 4, none⟩) (n - a) (c - a)]).run Try.prog wr = .ok (.tuple #[]) (wr.setCells g (a * 4) zs) := hcl
        have HZ := Lib.hid hzl
        have HR := Lib.hid hr
        have HX := Lib.hid hx
        have hca : ¬ (c = a) := by omega
        have han : a ≤ n := by omega
        have hac2 : a ≤ c := by omega
        have B3 := Lib.hid (only_sets zs (a * 4) wr HBl.out)
        generalize hW : wr.setCells g (a * 4) zs = W3 at hcl B3
        have HW := Lib.hid hW
        clear hr hx hzl hW hbn' hcl'
        go_wp2_with (simp only [hcl])
        go_ret
        refine ⟨by rw [HLA.out]; rfl, ?_, B3.out⟩
        rw [HLA.out, HLD.out, ← HW.out]
        have h1 := HR.out.sets (a * 4) zs (by rw [HZ.out]; show a * 4 + (n - a) * 4 ≤ c * 4; omega)
        refine h1.own hac2 ?_
        have h2 : (xs.take (a * 4)).length = a * holdK.k := by rw [List.length_take, HR.out.len]; show min (a * 4) (c * 4) = a * 4; omega
        rw [List.append_assoc, List.take_left' h2, holdK.rows_take, ← HX.out, List.take_take]
        congr 1
        show a * 4 = min (a * 4) (n * 4)
        omega

set_option maxHeartbeats 4000000 in
theorem delete_free2 (txn : Int) (B base : Nat) (A : Option Addr) (n c : Nat) (l : List Cl) (w : World) (h : OwnK claimK w base A n c l) (hcp : Cap1 w txn B) (hne : ∀ g, A = some ⟨g, 0, none⟩ → B ≠ g) (hbase : base ≤ w.heap.size) :
    Calls Try.prog 48 #[.slice A n c, .func (.func 49) #[] #[.pointer (some ⟨B, 0, none⟩)]] w fun e w' => RetG claimK w base A n c (stay (isC txn) l) e w' := by
  have HO := Lib.hid h
  have HC := Lib.hid hcp
  have hcap := h.cap
  have hle := h.le
  have HM := Lib.hid (Nat.le_trans hle hcap)
  unfold maxLen at hcap
  have KF := Lib.hid (fun x W hh => free2_any x txn B W hh)
  have KI := Lib.hid (fun A n c l W hh hf hn => index_free2 txn B A n c l W hh hf hn)
  generalize hP : (isC txn) = P at KI ⊢
  have HP0 := Lib.hid hP
  clear hP
  rcases idx_cases P l 0 with ⟨hp, hall⟩ | ⟨k, hk, hp, hkn, hfirst⟩
  · have HP := Lib.hid hp
    rw [stay_all hall]
    have HL := Lib.hid h.len
    clear hp hall h hcp
    go_enter Try.func48, Try.ntmps48
    go_wp2_with fail
    refine (KI.out A n c l _ HC.out HO.out.lst HM.out).mono ?_
    rintro e w1 ⟨rfl, q1⟩
    rw [HP.out]
    go_wp2
    go_ret
    exact ⟨by rw [HL.out]; rfl, by rw [HL.out]; exact HO.out.q q1, grown_q q1 _⟩
  · have HP := Lib.hid (hp.trans (by simp : ((0 + k : Nat) : Int) = (k : Int)))
    have HF := Lib.hid (stay_first hk hkn hfirst)
    have hkl : k < n := by have := h.len; omega
    obtain ⟨g, rfl⟩ : ∃ g, A = some ⟨g, 0, none⟩ := by
      rcases h.parts with ⟨_, e, _⟩ | ⟨g, cur, rfl, _⟩
      · omega
      · exact ⟨g, rfl⟩
    have hbg := hne g rfl
    have HL := Lib.hid h.len
    have hgb := Lib.hid h.block_lt
    clear hp hkn hfirst h hcp hk hne
    have hk1 : ((k : Int) == -1) = false := by simp
    go_enter Try.func48, Try.ntmps48
    go_wp2_with fail
    refine (KI.out (some ⟨g, 0, none⟩) n c l _ HC.out HO.out.lst HM.out).mono ?_
    rintro e w1 ⟨rfl, q1⟩
    rw [HP.out]
    have Q1 := Lib.hid q1
    clear q1
    go_wp2
    go_loopw [5, 6] (fun i j wr => ∃ (a b : Nat) (cur : List Cl), i = .int .i64 a ∧ j = .int .i64 b ∧ a < b ∧ b ≤ n ∧ OwnK claimK wr base (some ⟨g, 0, none⟩) n c cur ∧ cur.take a = stay P (l.take b) ∧ cur.drop b = l.drop b ∧ w.grownBy wr (some g) ∧ Cap1 wr txn B) (fun _ j _ => n - (intOf j).toNat)
    case atStart => exact ⟨k, k + 1, l, rfl, by go_num, Nat.lt_succ_self k, hkl, HO.out.q Q1.out, HF.out.symm, rfl, only_q Q1.out, HC.out.q Q1.out⟩
    case round =>
      obtain ⟨a, b, cur, rfl, rfl, hab, hbn, ho, h1, h2, hbl, hcl⟩ := hrel
      have H1 := Lib.hid h1
      have H2 := Lib.hid h2
      have HOr := Lib.hid ho
      have HBl := Lib.hid hbl
      have HCl := Lib.hid hcl
      have hgr := ho.block_lt
      have hcl' := ho.len
      have HCu := Lib.hid hcl'
      clear h1 h2 ho hbl hcl
      by_cases hlt : b < n
      · have hbl' : b < l.length := by have := HL.out; omega
        have hbc : b < cur.length := by omega
        have hac : a < cur.length := by omega
        have he : cur[b] = l[b] := by
          have e1 : (cur.drop b)[0]? = (l.drop b)[0]? := by rw [H2.out]
          rw [List.getElem?_drop, List.getElem?_drop, Nat.add_zero, List.getElem?_eq_getElem hbc, List.getElem?_eq_getElem hbl'] at e1
          exact Option.some.inj e1
        have c0 := HOr.out.cells hbc 0 _ rfl
        have c1 := HOr.out.cells hbc 1 _ rfl
        have c2 := HOr.out.cells hbc 2 _ rfl
        have c3 := HOr.out.cells hbc 3 _ rfl
        have c4 := HOr.out.cells hbc 4 _ rfl
        rw [he] at c0 c1 c2 c3 c4
        have HE := Lib.hid he
        have c0 : wr.cell? ⟨g, b * 5, none⟩ = some (.int .i64 l[b].txn) := c0
        have c1 : wr.cell? ⟨g, b * 5 + 1, none⟩ = some (.int .i64 l[b].w.mode) := c1
        have c2 : wr.cell? ⟨g, b * 5 + 2, none⟩ = some (.string l[b].w.lo) := c2
        have c3 : wr.cell? ⟨g, b * 5 + 3, none⟩ = some (.string l[b].w.hi) := c3
        have c4 : wr.cell? ⟨g, b * 5 + 4, none⟩ = some (.int .u64 (l[b].til : Int)) := c4
        have hbi : (b : Int) < (n : Int) := by omega
        clear he hcl'
        go_wp2_with fail
        refine (KF.out l[b] _ (HCl.out.q ((Q.refl _).alloc _))).mono ?_
        rintro e w2 ⟨rfl, q2⟩
        rw [HP0.out]
        have O2 := Lib.hid ((HOr.out.alloc (.cells #[.int .i64 l[b].txn, .int .i64 l[b].w.mode, .string l[b].w.lo, .string l[b].w.hi, .int .u64 (l[b].til : Int)] 55)).q q2)
        have B2 := Lib.hid (HBl.out.trans (only_q (((Q.refl wr).alloc (.cells #[.int .i64 l[b].txn, .int .i64 l[b].w.mode, .string l[b].w.lo, .string l[b].w.hi, .int .u64 (l[b].til : Int)] 55)).trans q2)))
        have C2 := Lib.hid (HCl.out.q (((Q.refl wr).alloc (.cells #[.int .i64 l[b].txn, .int .i64 l[b].w.mode, .string l[b].w.lo, .string l[b].w.hi, .int .u64 (l[b].til : Int)] 55)).trans q2))
        obtain ⟨x0, x1, x2, x3, x4⟩ : w2.cell? ⟨wr.heap.size, 0, none⟩ = some (.int .i64 l[b].txn) ∧ w2.cell? ⟨wr.heap.size, 1, none⟩ = some (.int .i64 l[b].w.mode) ∧ w2.cell? ⟨wr.heap.size, 2, none⟩ = some (.string l[b].w.lo) ∧ w2.cell? ⟨wr.heap.size, 3, none⟩ = some (.string l[b].w.hi) ∧ w2.cell? ⟨wr.heap.size, 4, none⟩ = some (.int .u64 (l[b].til : Int)) := ⟨box_ q2 (by simp), box_ q2 (by simp), box_ q2 (by simp), box_ q2 (by simp), box_ q2 (by simp)⟩
        have ac0 : w2.cell? ⟨g, a * 5, none⟩ = some (.int .i64 cur[a].txn) := O2.out.cells hac 0 _ rfl
        have ac1 : w2.cell? ⟨g, a * 5 + 1, none⟩ = some (.int .i64 cur[a].w.mode) := O2.out.cells hac 1 _ rfl
        have ac2 : w2.cell? ⟨g, a * 5 + 2, none⟩ = some (.string cur[a].w.lo) := O2.out.cells hac 2 _ rfl
        have ac3 : w2.cell? ⟨g, a * 5 + 3, none⟩ = some (.string cur[a].w.hi) := O2.out.cells hac 3 _ rfl
        have ac4 : w2.cell? ⟨g, a * 5 + 4, none⟩ = some (.int .u64 (cur[a].til : Int)) := O2.out.cells hac 4 _ rfl
        have f0 : w2.frozen? ⟨g, a * 5, none⟩ = false := O2.out.free _
        have f1 : w2.frozen? ⟨g, a * 5 + 1, none⟩ = false := O2.out.free _
        have f2 : w2.frozen? ⟨g, a * 5 + 2, none⟩ = false := O2.out.free _
        have f3 : w2.frozen? ⟨g, a * 5 + 3, none⟩ = false := O2.out.free _
        have f4 : w2.frozen? ⟨g, a * 5 + 4, none⟩ = false := O2.out.free _
        have hai : (a : Int) < (n : Int) := by omega
        clear q2 c0 c1 c2 c3 c4
        by_cases hh : P l[b] = true
        · have HS := Lib.hid (stay_skip hbl' H1.out H2.out hh)
          go_wp2
          go_roundw
          case rel => exact ⟨a, b + 1, cur, rfl, by go_num, by omega, by omega, O2.out, HS.out.1, HS.out.2, B2.out, C2.out⟩
          case measure => simp [intOf]; omega
        · have hf : P l[b] = false := by simpa using hh
          have HS := Lib.hid (stay_keep hbl' hab (HCu.out.trans HL.out.symm) H1.out H2.out hf)
          have O3 := Lib.hid (O2.out.put hac l[b])
          have B3 := Lib.hid (only_sets (claimK.row l[b]) (a * 5) w2 B2.out)
          have C3 := Lib.hid (show Cap1 (((((w2.setCell ⟨g, a * 5, none⟩ (.int .i64 l[b].txn)).setCell ⟨g, a * 5 + 1, none⟩ (.int .i64 l[b].w.mode)).setCell ⟨g, a * 5 + 2, none⟩ (.string l[b].w.lo)).setCell ⟨g, a * 5 + 3, none⟩ (.string l[b].w.hi)).setCell ⟨g, a * 5 + 4, none⟩ (.int .u64 (l[b].til : Int))) txn B from ⟨by simpa using C2.out.1, by
            rw [World.cell?_setCell_other _ _ _ _ (show (⟨g, a * 5 + 4, none⟩ : Addr) ≠ ⟨B, 0, none⟩ by intro e; injection e with e; exact hbg e.symm)]
            rw [World.cell?_setCell_other _ _ _ _ (show (⟨g, a * 5 + 3, none⟩ : Addr) ≠ ⟨B, 0, none⟩ by intro e; injection e with e; exact hbg e.symm)]
            rw [World.cell?_setCell_other _ _ _ _ (show (⟨g, a * 5 + 2, none⟩ : Addr) ≠ ⟨B, 0, none⟩ by intro e; injection e with e; exact hbg e.symm)]
            rw [World.cell?_setCell_other _ _ _ _ (show (⟨g, a * 5 + 1, none⟩ : Addr) ≠ ⟨B, 0, none⟩ by intro e; injection e with e; exact hbg e.symm)]
            rw [World.cell?_setCell_other _ _ _ _ (show (⟨g, a * 5, none⟩ : Addr) ≠ ⟨B, 0, none⟩ by intro e; injection e with e; exact hbg e.symm)]
            exact C2.out.2⟩)
          clear hh
          go_wp2
          go_roundw
          case rel => exact ⟨a + 1, b + 1, cur.set a l[b], by go_num, by go_num, by omega, by omega, O3.out, HS.out.1, HS.out.2, B3.out, C3.out⟩
          case measure => simp [intOf]; omega
      · have hbn' : b = n := by omega
        have HBN := Lib.hid hbn'
        have HLD := Lib.hid (show stay P l = cur.take a by rw [H1.out, hbn', ← HL.out, List.take_length])
        have HLA := Lib.hid (show (stay P l).length = a by rw [HLD.out, List.length_take, hcl', Nat.min_eq_left (by omega)])
        obtain ⟨xs, hr, hx⟩ := HOr.out.row
        obtain ⟨zs, hzl, hcl⟩ := run_clearK claimK hr (fun u hu => by simp [claimK, Value.cells] at hu; rcases hu with rfl | rfl | rfl | rfl | rfl <;> rfl) (zero_kind claimK) 0 (a * 5) (n - a) 0 (by omega) (by show a * 5 + (n - a) * 5 ≤ c * 5; omega)
        have hcl := hcl (c - a)
        have hcl : (Builtin.clear_ #[23] 0 #[.slice (some ⟨g, a * 5, none⟩) (n - a) (c - a)]).run Try.prog wr = .ok (.tuple #[]) (wr.setCells g (a * 5) zs) := hcl
        have HZ := Lib.hid hzl
        have HR := Lib.hid hr
        have HX := Lib.hid hx
        have hca : ¬ (c = a) := by omega
        have han : a ≤ n := by omega
        have hac2 : a ≤ c := by omega
        have B3 := Lib.hid (only_sets zs (a * 5) wr HBl.out)
        generalize hW : wr.setCells g (a * 5) zs = W3 at hcl B3
        have HW := Lib.hid hW
        clear hr hx hzl hW hbn' hcl'
        go_wp2_with (simp only [hcl])
        go_ret
        refine ⟨by rw [HLA.out]; rfl, ?_, B3.out⟩
        rw [HLA.out, HLD.out, ← HW.out]
        have h1 := HR.out.sets (a * 5) zs (by rw [HZ.out]; show a * 5 + (n - a) * 5 ≤ c * 5; omega)
        refine h1.own hac2 ?_
        have h2 : (xs.take (a * 5)).length = a * claimK.k := by rw [List.length_take, HR.out.len]; show min (a * 5) (c * 5) = a * 5; omega
        rw [List.append_assoc, List.take_left' h2, claimK.rows_take, ← HX.out, List.take_take]
        congr 1
        show a * 5 = min (a * 5) (n * 5)
        omega

end Go.Proofs.Ytenemdpjhoebpaa
