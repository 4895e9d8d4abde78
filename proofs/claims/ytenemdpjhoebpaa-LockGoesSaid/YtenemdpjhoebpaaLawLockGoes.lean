/- For every locks and transaction: a transaction that was freed holds nothing, and waits for nothing; nobody else loses what they hold; who is told holds what they waited for. No condition. -/
import Derived.Test.YtenemdpjhoebpaaLockLaw
namespace Go.Proofs.Ytenemdpjhoebpaa.lockGoes
set_option maxRecDepth 100000
open Go.ChangeShapes Go.WideShapes Go.ChangeAt Go.RowKit Prm Lm Sm
set_option linter.unusedVariables false
set_option linter.unusedSimpArgs false

theorem filt_succ {α : Type} (P : α → Bool) (l : List α) {k : Nat} (hk : k < l.length) : ((l.take (k + 1)).filter P).length = ((l.take k).filter P).length + (if P l[k] = true then 1 else 0) := by
  rw [List.take_succ_eq_append_getElem hk, List.filter_append, List.length_append]
  by_cases h : P l[k] = true <;> simp [h]
theorem filt_at {α : Type} (P : α → Bool) (l : List α) {k : Nat} (hk : k < l.length) (hp : P l[k] = true) (mm : List α) : ∃ h : ((l.take k).filter P).length < (l.filter P ++ mm).length, (l.filter P ++ mm)[((l.take k).filter P).length] = l[k] := by
  have e : l.filter P ++ mm = (l.take k).filter P ++ (l[k] :: ((l.drop (k + 1)).filter P ++ mm)) := by
    have h1 : l.filter P = (l.take k ++ l.drop k).filter P := by rw [List.take_append_drop]
    rw [h1, List.filter_append, List.drop_eq_getElem_cons hk, List.filter_cons_of_pos hp, List.append_assoc, List.cons_append]
  have h2 : (l.filter P ++ mm)[((l.take k).filter P).length]? = some l[k] := by
    rw [e, List.getElem?_append_right (Nat.le_refl _)]; simp
  exact List.getElem?_eq_some_iff.1 h2

set_option maxHeartbeats 8000000 in
theorem walk (A B : Option Addr) (n c m d : Nat) (l : Lo) (txn : Int) (w : World) (h : LIn w A n c B m d l) :
    Calls Try.prog 7 #[locV A n c B m d, .int .i64 txn] w fun e w' => e = .returned (.bool true) ∧ Q w w' := by
  have KS := Lib.hid (fun W => lsmall_any A B n c m d W)
  by_cases hs : n ≤ 200 ∧ m ≤ 40
  · rw [Go.Proofs.Ytenemdpjhoebpaa.few hs] at KS
    have K1 := Lib.hid (fun W q => lfree_any A B n c m d l txn W (h.held.q q) (h.queue.q q) h.loI (by omega))
    have HI := Lib.hid h
    have hnn := hs.1
    obtain ⟨⟨mm, g1, g2, g3⟩, g4⟩ := free_goes l txn
    have KW := Lib.hid (fun A B n c m d W hB hm => g4 ▸ lwaits_any A B n c m d (Lm.free l txn).1 txn W hB hm)
    have HNo := Lib.hid (show ∀ z ∈ (Lm.free l txn).1.held, ¬ z.txn = txn by
      rw [g1]
      intro z hz
      rcases List.mem_append.1 hz with hz | hz
      · have := (List.mem_filter.1 hz).2
        simpa using this
      · exact g3 z hz)
    obtain ⟨P, hPd⟩ : ∃ P : Ho → Bool, P = fun h => decide (h.txn ≠ txn) := ⟨_, rfl⟩
    rw [← hPd] at g1
    have HM := Lib.hid (And.intro g1 g2)
    have HFL := Lib.hid (show (Lm.free l txn).1.held.length ≤ 1000 by have h1 := free_len l txn; have h2 := h.held.len; have h3 := h.queue.len; omega)
    generalize Lm.free l txn = F at K1 KW HNo HM HFL
    clear g1 g2 g3 g4 h hs
    have HQ := Lib.hid ((Q.refl w).alloc (.cells #[.slice A n c, .slice B m d] 25))
    have XL : Hid (Bx (w.alloc (.cells #[.slice A n c, .slice B m d] 25)) w.heap.size [.slice A n c, .slice B m d]) := Lib.hid (Bx.new w [.slice A n c, .slice B m d] 25)
    go_enter Try.func7, Try.ntmps7
    go_wp2_with fail
    generalize w.alloc (.cells #[.slice A n c, .slice B m d] 25) = W0 at XL HQ ⊢
    generalize w.heap.size = gL at XL ⊢
    refine (lshown_any _).mono ?_
    rintro e w1 ⟨rfl, q1⟩
    have XL := Lib.hid (XL.out.q q1)
    have HQ := Lib.hid (HQ.out.trans q1)
    clear q1
    obtain ⟨⟨x0, x1⟩, x2, x3⟩ := XL.out.get2
    go_wp2_with fail
    refine (KS.out _).mono ?_
    rintro e w2 ⟨rfl, q1⟩
    have XL := Lib.hid (XL.out.q q1)
    have HQ := Lib.hid (HQ.out.trans q1)
    clear q1
    clear x0 x1 x2 x3
    obtain ⟨⟨x0, x1⟩, x2, x3⟩ := XL.out.get2
    go_wp2_with fail
    refine (K1.out _ HQ.out).mono ?_
    rintro e w3 ⟨A3, n3, c3, B3, m3, d3, C3, p3, q3, rfl, o3, u3, v3, z3⟩
    clear x0 x1 x2 x3
    go_upto_region 6 with (fail)
    have zb := (Q.refl w3).alloc (.cells #[.slice A3 n3 c3, .slice B3 m3 d3] 25)
    have za := z3.trans zb
    have O := Lib.hid (And.intro (o3.lst.q zb) (And.intro (u3.lst.q zb) (v3.lst.q zb)))
    have LM := Lib.hid (And.intro (Nat.le_trans o3.le o3.cap) (And.intro (Nat.le_trans u3.le u3.cap) (Nat.le_trans v3.le v3.cap)))
    have L3 := Lib.hid (And.intro o3.len v3.len)
    have hn3 : n3 ≤ 1000 := by have h1 := L3.out.1; have h2 := HFL.out; omega
    have XL := Lib.hid (XL.out.q za)
    have HQ := Lib.hid (HQ.out.trans za)
    have XK : Hid (Bx (w3.alloc (.cells #[.slice A3 n3 c3, .slice B3 m3 d3] 25)) w3.heap.size [.slice A3 n3 c3, .slice B3 m3 d3]) := Lib.hid (Bx.new w3 [.slice A3 n3 c3, .slice B3 m3 d3] 25)
    clear za zb z3 o3 u3 v3
    generalize w3.alloc (.cells #[.slice A3 n3 c3, .slice B3 m3 d3] 25) = W3 at *
    generalize w3.heap.size = g3 at *
    obtain ⟨⟨x0, x1⟩, x2, x3⟩ := XL.out.get2
    obtain ⟨⟨a0, a1⟩, a2, a3⟩ := XK.out.get2
    go_wp2
    go_loopw [9] (fun i wr => ∃ k : Nat, k ≤ n3 ∧ i = .int .i64 k ∧ Q W3 wr) (fun i _ => n3 - (intOf i).toNat)
    case atStart => exact ⟨0, Nat.zero_le _, rfl, Q.refl _⟩
    case round =>
      obtain ⟨k, hk, rfl, qr⟩ := hrel
      have HR := Lib.hid qr
      clear qr x0 x1 x2 x3 a0 a1 a2 a3
      obtain ⟨⟨x0, x1⟩, x2, x3⟩ := (XL.out.q HR.out).get2
      obtain ⟨⟨a0, a1⟩, a2, a3⟩ := (XK.out.q HR.out).get2
      by_cases hlt : k < n3
      · have hkl : k < F.1.held.length := by have := L3.out.1; omega
        have hkn : (k : Int) < (n3 : Int) := by omega
        have hz : (F.1.held[k].txn == txn) = false := by simpa using HNo.out _ (List.getElem_mem hkl)
        obtain ⟨ad, rfl, hab, k0, k1, k2, k3⟩ := load_hold (O.out.1.q HR.out) hlt hkl
        generalize F.1.held[k] = z at k0 k1 k2 k3 hz
        go_wp2
        go_roundw
        case rel => exact ⟨k + 1, by omega, by go_num, HR.out⟩
        case measure => simp [intOf]; omega
      · go_wp2
        clear hlt hk
        have X2 := Lib.hid (XL.out.q HR.out)
        have XK2 := Lib.hid (XK.out.q HR.out)
        have QW := HR
        clear HR
        go_loopw [10, 11] (fun o i wr => ∃ k : Nat, k ≤ n ∧ i = .int .i64 k ∧ o = .int .i64 (((l.held.take k).filter P).length : Int) ∧ Q W3 wr) (fun _ i _ => n - (intOf i).toNat)
        case atStart => exact ⟨0, Nat.zero_le _, rfl, by simp, QW.out⟩
        case round =>
          obtain ⟨k, hk, rfl, rfl, qr⟩ := hrel
          have HR := Lib.hid qr
          clear qr x0 x1 x2 x3 a0 a1 a2 a3 QW X2 XK2
          obtain ⟨⟨x0, x1⟩, x2, x3⟩ := (XL.out.q HR.out).get2
          obtain ⟨⟨a0, a1⟩, a2, a3⟩ := (XK.out.q HR.out).get2
          by_cases hlt : k < n
          · have hkl : k < l.held.length := by have := HI.out.held.len; omega
            have hkn : (k : Int) < (n : Int) := by omega
            have HS := Lib.hid (filt_succ P l.held hkl)
            have HA := Lib.hid (filt_at P l.held hkl)
            have hP : P l.held[k] = decide (l.held[k].txn ≠ txn) := by rw [hPd]
            have LK := Lib.hid (load_hold (HI.out.held.lst.q (HQ.out.trans HR.out)) hlt hkl)
            by_cases ht : l.held[k].txn = txn
            · have hz : (l.held[k].txn == txn) = true := by simpa using ht
              have HS2 := Lib.hid (show ((l.held.take (k + 1)).filter P).length = ((l.held.take k).filter P).length by rw [HS.out, hP, ht]; simp)
              obtain ⟨ad, rfl, hab, k0, k1, k2, k3⟩ := LK.out
              clear hP ht
              generalize l.held[k] = z at k0 k1 k2 k3 hz
              clear HS HA LK
              generalize ((l.held.take k).filter P).length = at_ at HS2 ⊢
              go_wp2
              go_roundw
              case rel => exact ⟨k + 1, by omega, by go_num, by rw [HS2.out], HR.out⟩
              case measure => simp [intOf]; omega
            · have hz : (l.held[k].txn == txn) = false := by simpa using ht
              have hp : P l.held[k] = true := by rw [hP]; simpa using ht
              have HS2 := Lib.hid (show ((l.held.take (k + 1)).filter P).length = ((l.held.take k).filter P).length + 1 by rw [HS.out, hp]; rfl)
              have ha := HA.out hp mm
              rw [← HM.out.1] at ha
              have hfl : ((l.held.take k).filter P).length ≤ k := Nat.le_trans (List.length_filter_le _ _) (by rw [List.length_take]; omega)
              generalize ((l.held.take k).filter P).length = at_ at HS2 ha hfl ⊢
              obtain ⟨hal, hae⟩ := ha
              have han : at_ < n3 := by have := L3.out.1; omega
              obtain ⟨ad, rfl, hab, k0, k1, k2, k3⟩ := LK.out
              obtain ⟨ae, hae3, hab2, y0, y1, y2, y3⟩ := load_hold (O.out.1.q HR.out) han hal
              rw [hae] at y0 y1 y2 y3
              cases hae3
              have hne := fun W => neq_ho W l.held[k] l.held[k]
              have hd : decide (l.held[k] = l.held[k]) = true := decide_eq_true rfl
              clear hP ht hp hae HS HA LK
              generalize l.held[k] = z at k0 k1 k2 k3 y0 y1 y2 y3 hz hne hd
              have e1 : decide ((n3 : Int) ≤ (at_ : Int)) = false := decide_eq_false (by omega)
              have e2 : decide (n3 ≤ at_) = false := decide_eq_false (by omega)
              have e3 : (at_ : Int) < (n3 : Int) := by omega
              go_wp2
              go_quiet (fail)
              go_wp2
              go_roundw
              case rel => exact ⟨k + 1, by omega, by go_num, by rw [HS2.out]; go_num, HR.out.drewN _⟩
              case measure => simp [intOf]; omega
          · have hkn2 : ¬ (k : Int) < (n : Int) := by omega
            have hend : (n3 : Int) = (((l.held.take k).filter P).length : Int) + (p3 : Int) := by
              have h1 := L3.out.1
              have h2 := L3.out.2
              have h3 : l.held.take k = l.held := List.take_of_length_le (by have := HI.out.held.len; omega)
              rw [h3]
              have h4 := HM.out.1
              have h5 := HM.out.2
              rw [h4, List.length_append] at h1
              rw [← h5, List.length_map] at h2
              omega
            generalize ((l.held.take k).filter P).length = at_ at hend ⊢
            have hat : (at_ : Int) + (p3 : Int) ≤ 1000 := by omega
            have he : ((n3 : Int) == (at_ : Int) + (p3 : Int)) = true := by simpa using hend
            have HE := Lib.hid hend
            clear hend
            go_wp2_with fail
            refine (KW.out _ _ _ _ _ _ _ (O.out.2.1.q HR.out) LM.out.2.1).mono ?_
            rintro e w9 ⟨rfl, z9⟩
            obtain ⟨⟨a0, a1⟩, a2, a3⟩ := (XK.out.q (HR.out.trans z9)).get2
            have HQ := Lib.hid (HQ.out.trans (HR.out.trans z9))
            clear z9
            go_wp2
            go_ret
            exact ⟨by first | rfl | (simp; done) | (simp [HE.out]; done), HQ.out⟩
  · rw [many hs] at KS
    clear h hs
    have HQ := Lib.hid ((Q.refl w).alloc (.cells #[.slice A n c, .slice B m d] 25))
    have XL : Hid (Bx (w.alloc (.cells #[.slice A n c, .slice B m d] 25)) w.heap.size [.slice A n c, .slice B m d]) := Lib.hid (Bx.new w [.slice A n c, .slice B m d] 25)
    go_enter Try.func7, Try.ntmps7
    go_wp2_with fail
    generalize w.alloc (.cells #[.slice A n c, .slice B m d] 25) = W0 at XL HQ ⊢
    generalize w.heap.size = gL at XL ⊢
    refine (lshown_any _).mono ?_
    rintro e w1 ⟨rfl, q1⟩
    have XL := Lib.hid (XL.out.q q1)
    have HQ := Lib.hid (HQ.out.trans q1)
    clear q1
    obtain ⟨⟨x0, x1⟩, x2, x3⟩ := XL.out.get2
    go_wp2_with fail
    refine (KS.out _).mono ?_
    rintro e w2 ⟨rfl, q1⟩
    have XL := Lib.hid (XL.out.q q1)
    have HQ := Lib.hid (HQ.out.trans q1)
    clear q1
    clear x0 x1 x2 x3
    obtain ⟨⟨x0, x1⟩, x2, x3⟩ := XL.out.get2
    go_wp2
    go_ret
    exact ⟨rfl, HQ.out⟩

theorem opened (W : World) (args : Array Value) (hn : args.size = 2) (h : ∀ (j : Nat) t v, Try.f7.params[j]? = some t → args[j]? = some v → RdV W t v) :
    Calls Try.prog 7 args W fun e W' => e = .returned (.bool true) ∧ Q W W' := by
  obtain ⟨v0, v1, rfl⟩ := args2 hn
  rw [Try.params7] at h
  obtain ⟨cs, rfl, hr⟩ := (h 0 25 v0 rfl rfl).struct Try.underlying25
  obtain ⟨A, n, c, B, m, d, l, rfl, hl⟩ := open_locks hr
  obtain ⟨x, rfl, x0⟩ := (h 1 3 v1 rfl rfl).int Try.underlying3
  exact walk A B n c m d l x W hl

set_option maxRecDepth 100000 in
theorem lifted (os : Os) (started : os.Started) (H : Type) (enc : TypeId × Value → H) :
    ReturnsInHanded {} Try.checked os 7 .any (Rows.lockGoesSpec.pre6 enc Try.prog Try.f7 Rows.lockGoesRow.domain false) (Rows.lockGoesSpec.post enc Try.prog Try.f7 false true false false) :=
  framed 2 Try.func7 (by rw [Try.params7]; rfl) rfl (by kernel_rfl) (by kernel_rfl) (by kernel_rfl)
    (fun H ds h => by match ds, h with | [d0, d1], _ => exact ⟨rfl, rfl, rfl⟩)
    opened os started H enc
    (ChangeSpec.witness6 (enc := enc) (C := Try.checked) false ⟨#[], #[.agg #[.slice none 0 0, .slice none 0 0], .int .i64 0], []⟩ 8 (by kernel_rfl) (by kernel_rfl) (by kernel_rfl) (by kernel_rfl))

theorem over : Rows.lockGoesRow.holds Try.pinned (OpenSpec.ofChange Rows.lockGoesSpec) :=
  OpenClaim.holds_of_wide 7 Try.f7 rfl rfl rfl rfl rfl rfl rfl ⟨rfl, rfl, rfl, rfl, rfl⟩ rfl rfl rfl rfl rfl (by kernel_rfl) Try.func7 (by kernel_rfl)
    (of_decide_eq_true (by kernel_rfl)) (by unfold Func.isWrapper; first | (rw [if_pos (by decide +kernel)]; kernel_rfl) | (rw [if_neg (by decide +kernel)]; exact ⟨rfl, rfl⟩))
    (fun os started H enc _ => lifted os started H enc)

theorem proved : Rows.LockGoesSaid := over
end Go.Proofs.Ytenemdpjhoebpaa.lockGoes
