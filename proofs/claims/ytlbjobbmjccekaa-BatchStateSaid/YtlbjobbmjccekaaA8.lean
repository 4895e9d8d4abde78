/- BatchBack, BatchBackRef, BatchSame, Bulk: merged. -/
import Derived.Test.YtlbjobbmjccekaaA4
import Derived.Test.YtlbjobbmjccekaaA7
import Derived.Test.YtlbjobbmjccekaaShelf
import Derived.Test.YtlbjobbmjccekaaA3
import Derived.Test.YtlbjobbmjccekaaA2
import Derived.Test.YtlbjobbmjccekaaA6
import Derived.Test.YtlbjobbmjccekaaA1
/- The contract of batch.Back. -/
namespace Go.Proofs.Ytlbjobbmjccekaa
set_option maxRecDepth 100000
open Go.RowKit Prm
set_option linter.unusedVariables false
set_option linter.unusedSimpArgs false

theorem isM_pre (m : UInt8) (k : ByteArray) : Lib.hasPrefix k.data.toList [m] = Bm.isM m k := by
  unfold Lib.hasPrefix Bm.isM
  cases k.data.toList with
  | nil => rfl
  | cons a l =>
    simp only [List.isPrefixOf, List.head?_cons, Bool.and_true]
    by_cases h : m = a
    · subst h; simp
    · simp [h, Ne.symm h]
theorem cutp_any (m : UInt8) (s : ByteArray) (w : World) :
    Calls Try.prog 61 #[.string s, .string ⟨#[m]⟩] w fun e w' => e = .returned (.tuple #[.string (if Bm.isM m s then Bm.cut s else s), .bool (Bm.isM m s)]) ∧ w' = w := by
  have h := Try.strings_CutPrefix s ⟨#[m]⟩ w
  have e1 : Lib.hasPrefix s.data.toList (⟨#[m]⟩ : ByteArray).data.toList = Bm.isM m s := isM_pre m s
  have e2 : (⟨(Lib.trimPrefix s.data.toList (⟨#[m]⟩ : ByteArray).data.toList).toArray⟩ : ByteArray) = if Bm.isM m s then Bm.cut s else s := by
    unfold Lib.trimPrefix
    rw [e1]
    split
    · show (⟨(s.data.toList.drop 1).toArray⟩ : ByteArray) = _
      unfold Bm.cut; rw [List.drop_one]
    · simp
  rw [e1, e2] at h
  exact h

/-- where Back stands. -/
structure Bk (w : World) (A : Option Addr) (n c : Nat) (B : Option Addr) (m d : Nat) (s : Bm.Sta) (wi : World) : Prop where
  res : Bx wi w.heap.size [.slice none 0 0, .slice none 0 0]
  bb : Bx wi (w.heap.size + 1) [.slice A n c, .slice B m d]
  o1 : OwnK pairK wi (w.heap.size + 1 + 1) A n c s.data
  o2 : OwnK pairK wi (w.heap.size + 1 + 1) B m d s.toks
  ap : Apt A B
  q : Q w wi
  l : w.heap.size + 1 + 1 ≤ wi.heap.size
section
variable {w wi wj : World} {A B : Option Addr} {n c m d : Nat} {s : Bm.Sta}
theorem Bk.step (h : Bk w A n c B m d s wi) (q : Q wi wj) : Bk w A n c B m d s wj :=
  ⟨h.res.q q, h.bb.q q, h.o1.q q, h.o2.q q, h.ap, h.q.trans q, Nat.le_trans h.l q.size⟩
theorem Bk.setData (h : Bk w A n c B m d s wi) {A' : Option Addr} {n' c' : Nat} {l' : List Pr} (ho : OwnK pairK wj (w.heap.size + 1 + 1) A' n' c' l') (hg : wi.grownBy wj (Value.slice A n c).ownBlock)
    (ht : (Value.slice A' n' c').ownBlock = (Value.slice A n c).ownBlock ∨ (Value.slice A' n' c').ownBlock = some wi.heap.size) : Bk w A' n' c' B m d ⟨l', s.toks⟩ (wj.setCell ⟨w.heap.size + 1, 0, none⟩ (.slice A' n' c')) := by
  have hb := grown_below h.o1 hg h.l
  exact ⟨(h.res.below hb (by omega)).far (by simp only; omega) _, (h.bb.below hb (by omega)).set (k := 0) (by simp) _, ho.setCell (by simp only; omega) _, (h.o2.away hg h.ap (fun _ => trivial)).setCell (by simp only; omega) _,
    Apt.app (n := n) (c := c) h.o2 h.ap ht, Q.setCell (a := w) (h.q.below.trans (hb.mono (by omega))) (by simp only; omega) _, by have := h.l; have := hb.size; simp only [World.size_setCell]; omega⟩
theorem Bk.setToks (h : Bk w A n c B m d s wi) {B' : Option Addr} {m' d' : Nat} {l' : List Pr} (ho : OwnK pairK wj (w.heap.size + 1 + 1) B' m' d' l') (hg : wi.grownBy wj (Value.slice B m d).ownBlock)
    (ht : (Value.slice B' m' d').ownBlock = (Value.slice B m d).ownBlock ∨ (Value.slice B' m' d').ownBlock = some wi.heap.size) : Bk w A n c B' m' d' ⟨s.data, l'⟩ (wj.setCell ⟨w.heap.size + 1, 1, none⟩ (.slice B' m' d')) := by
  have hb := grown_below h.o2 hg h.l
  exact ⟨(h.res.below hb (by omega)).far (by simp only; omega) _, (h.bb.below hb (by omega)).set (k := 1) (by simp) _, (h.o1.away hg h.ap.symm (fun _ => trivial)).setCell (by simp only; omega) _, ho.setCell (by simp only; omega) _,
    (Apt.app (n := m) (c := d) h.o1 h.ap.symm ht).symm, Q.setCell (a := w) (h.q.below.trans (hb.mono (by omega))) (by simp only; omega) _, by have := h.l; have := hb.size; simp only [World.size_setCell]; omega⟩
theorem Bk.new (w : World) : Bk w none 0 0 none 0 0 ⟨[], []⟩ ((w.alloc (.cells #[.slice none 0 0, .slice none 0 0] 40)).alloc (.cells #[.slice none 0 0, .slice none 0 0] 40)) := by
  refine ⟨(Bx.new w [.slice none 0 0, .slice none 0 0] 40).alloc _, ?_, OwnK.nil_ _ _ _, OwnK.nil_ _ _ _, (fun a b e => by cases e), ((Q.refl w).alloc _).alloc _, by simp⟩
  have := Bx.new (w.alloc (.cells #[.slice none 0 0, .slice none 0 0] 40)) [.slice none 0 0, .slice none 0 0] 40
  simpa using this
end
namespace Bm
theorem backL_at {l : List Pr} {j : Nat} (h : j < l.length) (s : Sta) : backL (l.drop j) s = match step s l[j] with | some t => backL (l.drop (j + 1)) t | none => none := by
  rw [List.drop_eq_getElem_cons h]; rfl
theorem step_d {s : Sta} {p : Pr} (h1 : isM 100 p.key = true) (h2 : s.toks = []) : step s p = some ⟨s.data ++ [⟨cut p.key, p.val⟩], s.toks⟩ := by unfold step; rw [if_pos ⟨h1, h2⟩]
theorem step_t {s : Sta} {p : Pr} (h0 : ¬(isM 100 p.key = true ∧ s.toks = [])) (h1 : isM 116 p.key = true) (h2 : cg p.val = true) : step s p = some ⟨s.data, s.toks ++ [⟨cut p.key, p.val⟩]⟩ := by unfold step; rw [if_neg h0, if_pos ⟨h1, h2⟩]
theorem step_n {s : Sta} {p : Pr} (h0 : ¬(isM 100 p.key = true ∧ s.toks = [])) (h1 : ¬(isM 116 p.key = true ∧ cg p.val = true)) : step s p = none := by unfold step; rw [if_neg h0, if_neg h1]
def none_ : Sta × Nat := (⟨[], []⟩, 3)
theorem back_some {l : List Pr} {s : Sta} (h : backL l ⟨[], []⟩ = some s) : back l = (s, 0) := by unfold back; rw [h]
theorem back_none {l : List Pr} (h : backL l ⟨[], []⟩ = none) : back l = none_ := by unfold back; rw [h]; rfl
theorem cg_c : cg ⟨#[99]⟩ = true := by decide
theorem cg_g : cg ⟨#[103]⟩ = true := by decide
theorem cg_no {v : ByteArray} (h1 : ¬ v = ⟨#[99]⟩) (h2 : ¬ v = ⟨#[103]⟩) : cg v = false := by unfold cg; simp [h1, h2]
theorem isM_two {k : ByteArray} (h : isM 100 k = true) : isM 116 k = false := by
  unfold isM at h ⊢
  simp only [decide_eq_true_eq] at h
  simp [h]
end Bm

set_option maxHeartbeats 8000000 in
set_option maxRecDepth 100000 in
theorem bback_any (A0 : Option Addr) (n c0 : Nat) (l : List Pr) (w : World) (hf : Lst pairK w A0 n l) (hb : n * 32 ≤ 140737488355328) :
    Calls Try.prog 28 #[.slice A0 n c0] w (RetS w (Bm.back l)) := by
  have HF := Lib.hid hf
  have HL := Lib.hid hf.len
  have hn0 : n ≤ 9223372036854775807 := by omega
  have hbn := Lib.hid (fun h => Bm.back_none (l := l) h)
  have hbs := Lib.hid (fun s h => Bm.back_some (l := l) (s := s) h)
  clear hf
  generalize hR : Bm.back l = R at hbn hbs ⊢
  clear hR
  go_enter Try.func28, Try.ntmps28
  go_upto_region 2 with (fail)
  have X0 := Lib.hid (Bk.new w)
  generalize ((w.alloc (.cells #[.slice none 0 0, .slice none 0 0] 40)).alloc (.cells #[.slice none 0 0, .slice none 0 0] 40)) = w2 at X0 ⊢
  go_wp2
  go_loopw [13] (fun i wr => ∃ (j : Nat) (sd st : List Pr) (A : Option Addr) (c : Nat) (B : Option Addr) (d : Nat), j ≤ n ∧ i = .int .i64 j ∧ Bk w A sd.length c B st.length d ⟨sd, st⟩ wr ∧ Bm.backL l ⟨[], []⟩ = Bm.backL (l.drop j) ⟨sd, st⟩ ∧ sd.length + st.length = j) (fun i _ => n - (intOf i).toNat)
  case atStart => exact ⟨0, [], [], none, 0, none, 0, Nat.zero_le _, rfl, X0.out, rfl, rfl⟩
  case round =>
    obtain ⟨j, sd, st, A, c, B, d, hj, rfl, x1, hT, hsum⟩ := hrel
    have X := Lib.hid x1
    have HT := Lib.hid hT
    clear x1 hT X0
    by_cases hlt : j < n
    · have hjl : j < l.length := by have := HL.out; omega
      have hjn : (j : Int) < (n : Int) := by omega
      have HA := Lib.hid (HT.out.trans (Bm.backL_at hjl ⟨sd, st⟩))
      obtain ⟨ad, rfl, hab, y0, y1⟩ := load_pair (HF.out.q X.out.q) hlt hjl
      generalize l[j] = x at y0 y1 HA
      obtain ⟨a, b⟩ := x
      dsimp only at y0 y1
      have K1 := Lib.hid (fun W => cutp_any 100 a W)
      have K2 := Lib.hid (fun W => cutp_any 116 a W)
      have hs1 : (sd.length + 1) * 32 ≤ 140737488355328 := by omega
      have hs2 : (st.length + 1) * 32 ≤ 140737488355328 := by omega
      cases ha : Bm.isM 100 a with
      | true =>
        by_cases hst : st = []
        · have HN := Lib.hid (HA.out.trans (by rw [Bm.step_d (s := ⟨sd, st⟩) (p := ⟨a, b⟩) ha hst]) : Bm.backL l ⟨[], []⟩ = Bm.backL (l.drop (j + 1)) ⟨sd ++ [⟨Bm.cut a, b⟩], st⟩)
          rw [ha] at K1
          simp only [if_true] at K1
          generalize Bm.cut a = Ka at K1 HN
          generalize (if Bm.isM 116 a = true then Bm.cut a else a) = Kt at K2
          generalize Bm.isM 116 a = it at K2
          have hl0 : ((st.length : Int) == 0) = true := by rw [hst]; rfl
          obtain ⟨⟨b0, b1⟩, b2, b3⟩ := X.out.bb.get2
          clear ha HA hst
          go_wp2_with fail
          refine (K1.out _).mono ?_
          rintro e w5 ⟨rfl, rfl⟩
          go_wp2_with fail
          refine (K2.out _).mono ?_
          rintro e w6 ⟨rfl, rfl⟩
          obtain ⟨⟨p0, p1⟩, p2, p3⟩ := (X.out.step ((Q.refl _).alloc (.cells #[.string a, .string b] 99))).bb.get2
          go_wp2_with (at_builtin
                       refine wpl_appKG pairK rfl (.tmp 39) (.tmp 44) 38 rfl rfl (w.heap.size + 1 + 1) A sd.length c sd rfl (X.out.step (((Q.refl _).alloc (.cells #[.string a, .string b] 99)).alloc _)).o1 (some ⟨wr.heap.size + 1, 0, none⟩) 1 1 [⟨Ka, b⟩] rfl (by have := lit_pair (wr.alloc (.cells #[.string a, .string b] 99)) ⟨Ka, b⟩; simpa using this) (fun e => by cases e) (by show (sd.length + 1) * 32 ≤ _; omega) (X.out.step (((Q.refl _).alloc (.cells #[.string a, .string b] 99)).alloc _)).l ?_
                       intro A5 c5 w5 o5 g5 t5
                       have X5 := Lib.hid ((X.out.step (((Q.refl _).alloc (.cells #[.string a, .string b] 99)).alloc (.cells #[.string Ka, .string b] 99))).setData o5 g5 t5)
                       obtain ⟨⟨a0, a1⟩, a2, a3⟩ := ((X.out.step (((Q.refl _).alloc (.cells #[.string a, .string b] 99)).alloc (.cells #[.string Ka, .string b] 99))).bb.below (grown_below (X.out.step (((Q.refl _).alloc (.cells #[.string a, .string b] 99)).alloc (.cells #[.string Ka, .string b] 99))).o1 g5 (X.out.step (((Q.refl _).alloc (.cells #[.string a, .string b] 99)).alloc _)).l) (by omega)).get2
                       clear o5 g5 t5)
          go_roundw
          case rel => exact ⟨j + 1, sd ++ [⟨Ka, b⟩], st, A5, c5, B, d, by omega, by go_num, by rw [List.length_append]; exact X5.out, HN.out, by rw [List.length_append]; show sd.length + 1 + st.length = _; omega⟩
          case measure => simp [intOf]; omega
        · have hl1 : st.length ≠ 0 := fun e => hst (List.eq_nil_of_length_eq_zero e)
          generalize hmm : st.length = m at X hsum hs2 hl1
          clear hmm
          have hl0 : ((m : Int) == 0) = false := by simp; omega
          clear hl1
          have HB := Lib.hid (hbn.out (HA.out.trans (by rw [Bm.step_n (s := ⟨sd, st⟩) (p := ⟨a, b⟩) (fun h => hst h.2) (fun h => by have := h.1; simp only at this; rw [Bm.isM_two ha] at this; cases this)])))
          rw [ha] at K1
          rw [Bm.isM_two ha] at K2
          simp only [if_true, Bool.false_eq_true, if_false] at K1 K2
          generalize Bm.cut a = Ka at K1
          clear ha HA hst
          go_wp2_with fail
          refine (K1.out _).mono ?_
          rintro e w5 ⟨rfl, rfl⟩
          go_wp2_with fail
          refine (K2.out _).mono ?_
          rintro e w6 ⟨rfl, rfl⟩
          have X6 := Lib.hid (X.out.step ((Q.refl _).alloc (.cells #[.string a, .string b] 99)))
          obtain ⟨⟨b0, b1⟩, b2, b3⟩ := X6.out.bb.get2
          obtain ⟨⟨p0, p1⟩, p2, p3⟩ := X6.out.res.get2
          go_wp2
          obtain ⟨⟨r0, r1⟩, _⟩ := (X6.out.res.set2 (.slice none 0 0) (.slice none 0 0)).get2
          refine bodyPost_ret (v := .tuple #[staV none 0 0 none 0 0, .int .i64 3]) (by simp [results, Try.results28, go_sem, r0, r1]) rfl ?_
          rw [HB.out]
          exact ⟨none, 0, none, 0, rfl, OwnK.nil_ _ _ _, OwnK.nil_ _ _ _, X6.out.q.set2 (Nat.le_refl _) _ _⟩
      | false =>
        rw [ha] at K1
        simp only [Bool.false_eq_true, if_false] at K1
        cases ht : Bm.isM 116 a with
        | false =>
          have HB := Lib.hid (hbn.out (HA.out.trans (by rw [Bm.step_n (s := ⟨sd, st⟩) (p := ⟨a, b⟩) (fun h => by have := h.1; simp only at this; rw [ha] at this; cases this) (fun h => by have := h.1; simp only at this; rw [ht] at this; cases this)])))
          rw [ht] at K2
          simp only [Bool.false_eq_true, if_false] at K2
          clear ha ht HA
          go_wp2_with fail
          refine (K1.out _).mono ?_
          rintro e w5 ⟨rfl, rfl⟩
          go_wp2_with fail
          refine (K2.out _).mono ?_
          rintro e w6 ⟨rfl, rfl⟩
          have X6 := Lib.hid (X.out.step ((Q.refl _).alloc (.cells #[.string a, .string b] 99)))
          obtain ⟨⟨p0, p1⟩, p2, p3⟩ := X6.out.res.get2
          go_wp2
          obtain ⟨⟨r0, r1⟩, _⟩ := (X6.out.res.set2 (.slice none 0 0) (.slice none 0 0)).get2
          refine bodyPost_ret (v := .tuple #[staV none 0 0 none 0 0, .int .i64 3]) (by simp [results, Try.results28, go_sem, r0, r1]) rfl ?_
          rw [HB.out]
          exact ⟨none, 0, none, 0, rfl, OwnK.nil_ _ _ _, OwnK.nil_ _ _ _, X6.out.q.set2 (Nat.le_refl _) _ _⟩
        | true =>
          rw [ht] at K2
          simp only [if_true] at K2
          by_cases hc : b = ⟨#[99]⟩
          · subst hc
            have HN := Lib.hid (HA.out.trans (by rw [Bm.step_t (s := ⟨sd, st⟩) (p := ⟨a, ⟨#[99]⟩⟩) (fun h => by have := h.1; simp only at this; rw [ha] at this; cases this) ht Bm.cg_c]) : Bm.backL l ⟨[], []⟩ = Bm.backL (l.drop (j + 1)) ⟨sd, st ++ [⟨Bm.cut a, ⟨#[99]⟩⟩]⟩)
            generalize Bm.cut a = Kt at K2 HN
            clear ha ht HA
            go_wp2_with fail
            refine (K1.out _).mono ?_
            rintro e w5 ⟨rfl, rfl⟩
            go_wp2_with fail
            refine (K2.out _).mono ?_
            rintro e w6 ⟨rfl, rfl⟩
            obtain ⟨⟨p0, p1⟩, p2, p3⟩ := (X.out.step ((Q.refl _).alloc (.cells #[.string a, .string ⟨#[99]⟩] 99))).bb.get2
            go_wp2_with (at_builtin
                         refine wpl_appKG pairK rfl (.tmp 60) (.tmp 65) 38 rfl rfl (w.heap.size + 1 + 1) B st.length d st rfl (X.out.step (((Q.refl _).alloc (.cells #[.string a, .string ⟨#[99]⟩] 99)).alloc _)).o2 (some ⟨wr.heap.size + 1, 0, none⟩) 1 1 [⟨Kt, ⟨#[99]⟩⟩] rfl (by have := lit_pair (wr.alloc (.cells #[.string a, .string ⟨#[99]⟩] 99)) ⟨Kt, ⟨#[99]⟩⟩; simpa using this) (fun e => by cases e) (by show (st.length + 1) * 32 ≤ _; omega) (X.out.step (((Q.refl _).alloc (.cells #[.string a, .string ⟨#[99]⟩] 99)).alloc _)).l ?_
                         intro A5 c5 w5 o5 g5 t5
                         have X5 := Lib.hid ((X.out.step (((Q.refl _).alloc (.cells #[.string a, .string ⟨#[99]⟩] 99)).alloc (.cells #[.string Kt, .string ⟨#[99]⟩] 99))).setToks o5 g5 t5)
                         obtain ⟨⟨a0, a1⟩, a2, a3⟩ := ((X.out.step (((Q.refl _).alloc (.cells #[.string a, .string ⟨#[99]⟩] 99)).alloc (.cells #[.string Kt, .string ⟨#[99]⟩] 99))).bb.below (grown_below (X.out.step (((Q.refl _).alloc (.cells #[.string a, .string ⟨#[99]⟩] 99)).alloc (.cells #[.string Kt, .string ⟨#[99]⟩] 99))).o2 g5 (X.out.step (((Q.refl _).alloc (.cells #[.string a, .string ⟨#[99]⟩] 99)).alloc _)).l) (by omega)).get2
                         clear o5 g5 t5)
            go_roundw
            case rel => exact ⟨j + 1, sd, st ++ [⟨Kt, ⟨#[99]⟩⟩], A, c, A5, c5, by omega, by go_num, by rw [List.length_append]; exact X5.out, HN.out, by rw [List.length_append]; show sd.length + (st.length + 1) = _; omega⟩
            case measure => simp [intOf]; omega
          · by_cases hg : b = ⟨#[103]⟩
            · subst hg
              have HN := Lib.hid (HA.out.trans (by rw [Bm.step_t (s := ⟨sd, st⟩) (p := ⟨a, ⟨#[103]⟩⟩) (fun h => by have := h.1; simp only at this; rw [ha] at this; cases this) ht Bm.cg_g]) : Bm.backL l ⟨[], []⟩ = Bm.backL (l.drop (j + 1)) ⟨sd, st ++ [⟨Bm.cut a, ⟨#[103]⟩⟩]⟩)
              generalize Bm.cut a = Kt at K2 HN
              clear ha ht HA hc
              go_wp2_with fail
              refine (K1.out _).mono ?_
              rintro e w5 ⟨rfl, rfl⟩
              go_wp2_with fail
              refine (K2.out _).mono ?_
              rintro e w6 ⟨rfl, rfl⟩
              obtain ⟨⟨p0, p1⟩, p2, p3⟩ := (X.out.step ((Q.refl _).alloc (.cells #[.string a, .string ⟨#[103]⟩] 99))).bb.get2
              go_wp2_with (at_builtin
                           refine wpl_appKG pairK rfl (.tmp 60) (.tmp 65) 38 rfl rfl (w.heap.size + 1 + 1) B st.length d st rfl (X.out.step (((Q.refl _).alloc (.cells #[.string a, .string ⟨#[103]⟩] 99)).alloc _)).o2 (some ⟨wr.heap.size + 1, 0, none⟩) 1 1 [⟨Kt, ⟨#[103]⟩⟩] rfl (by have := lit_pair (wr.alloc (.cells #[.string a, .string ⟨#[103]⟩] 99)) ⟨Kt, ⟨#[103]⟩⟩; simpa using this) (fun e => by cases e) (by show (st.length + 1) * 32 ≤ _; omega) (X.out.step (((Q.refl _).alloc (.cells #[.string a, .string ⟨#[103]⟩] 99)).alloc _)).l ?_
                           intro A5 c5 w5 o5 g5 t5
                           have X5 := Lib.hid ((X.out.step (((Q.refl _).alloc (.cells #[.string a, .string ⟨#[103]⟩] 99)).alloc (.cells #[.string Kt, .string ⟨#[103]⟩] 99))).setToks o5 g5 t5)
                           obtain ⟨⟨a0, a1⟩, a2, a3⟩ := ((X.out.step (((Q.refl _).alloc (.cells #[.string a, .string ⟨#[103]⟩] 99)).alloc (.cells #[.string Kt, .string ⟨#[103]⟩] 99))).bb.below (grown_below (X.out.step (((Q.refl _).alloc (.cells #[.string a, .string ⟨#[103]⟩] 99)).alloc (.cells #[.string Kt, .string ⟨#[103]⟩] 99))).o2 g5 (X.out.step (((Q.refl _).alloc (.cells #[.string a, .string ⟨#[103]⟩] 99)).alloc _)).l) (by omega)).get2
                           clear o5 g5 t5)
              go_roundw
              case rel => exact ⟨j + 1, sd, st ++ [⟨Kt, ⟨#[103]⟩⟩], A, c, A5, c5, by omega, by go_num, by rw [List.length_append]; exact X5.out, HN.out, by rw [List.length_append]; show sd.length + (st.length + 1) = _; omega⟩
              case measure => simp [intOf]; omega
            · have HB := Lib.hid (hbn.out (HA.out.trans (by rw [Bm.step_n (s := ⟨sd, st⟩) (p := ⟨a, b⟩) (fun h => by have := h.1; simp only at this; rw [ha] at this; cases this) (fun h => by have := h.2; simp only at this; rw [Bm.cg_no hc hg] at this; cases this)])))
              have hc1 : (b.toList == (⟨#[99]⟩ : ByteArray).toList) = false := by rw [same_str]; simpa using hc
              have hg1 : (b.toList == (⟨#[103]⟩ : ByteArray).toList) = false := by rw [same_str]; simpa using hg
              have hc2 : (b.toList == [99]) = false := by rw [show (⟨#[99]⟩ : ByteArray).toList = [99] by rw [ByteArray.toList_eq]] at hc1; exact hc1
              have hg2 : (b.toList == [103]) = false := by rw [show (⟨#[103]⟩ : ByteArray).toList = [103] by rw [ByteArray.toList_eq]] at hg1; exact hg1
              generalize Bm.cut a = Kt at K2
              clear ha ht HA hc hg
              go_wp2_with fail
              refine (K1.out _).mono ?_
              rintro e w5 ⟨rfl, rfl⟩
              go_wp2_with fail
              refine (K2.out _).mono ?_
              rintro e w6 ⟨rfl, rfl⟩
              have X6 := Lib.hid (X.out.step ((Q.refl _).alloc (.cells #[.string a, .string b] 99)))
              obtain ⟨⟨p0, p1⟩, p2, p3⟩ := X6.out.res.get2
              go_wp2
              obtain ⟨⟨r0, r1⟩, _⟩ := (X6.out.res.set2 (.slice none 0 0) (.slice none 0 0)).get2
              refine bodyPost_ret (v := .tuple #[staV none 0 0 none 0 0, .int .i64 3]) (by simp [results, Try.results28, go_sem, r0, r1]) rfl ?_
              rw [HB.out]
              exact ⟨none, 0, none, 0, rfl, OwnK.nil_ _ _ _, OwnK.nil_ _ _ _, X6.out.q.set2 (Nat.le_refl _) _ _⟩
    · have hjn : ¬((j : Int) < (n : Int)) := by omega
      have HB := Lib.hid (hbs.out ⟨sd, st⟩ (HT.out.trans (by rw [List.drop_of_length_le (by have := HL.out; omega)]; rfl)))
      obtain ⟨⟨b0, b1⟩, b2, b3⟩ := X.out.bb.get2
      obtain ⟨⟨p0, p1⟩, p2, p3⟩ := X.out.res.get2
      go_wp2
      obtain ⟨⟨r0, r1⟩, _⟩ := (X.out.res.set2 (.slice A sd.length c) (.slice B st.length d)).get2
      refine bodyPost_ret (v := .tuple #[staV A sd.length c B st.length d, .int .i64 0]) (by simp [results, Try.results28, go_sem, r0, r1]) rfl ?_
      rw [HB.out]
      exact ⟨A, c, B, d, rfl, (X.out.o1.set2 (b := w.heap.size) (by omega) _ _).lower (by omega), (X.out.o2.set2 (b := w.heap.size) (by omega) _ _).lower (by omega), X.out.q.set2 (Nat.le_refl _) _ _⟩
end Go.Proofs.Ytlbjobbmjccekaa

/- The contract of the document's Back. -/
namespace Go.Proofs.Ytlbjobbmjccekaa
set_option maxRecDepth 100000
open Go.RowKit Prm
set_option linter.unusedVariables false
set_option linter.unusedSimpArgs false

namespace Bm
theorem isM_at (m : UInt8) {a : ByteArray} (h : 0 < a.size) : isM m a = decide ((a[0]'h).toNat = m.toNat) := by
  have e := ldrop_at a 0 h
  rw [List.drop_zero] at e
  unfold isM
  rw [e, List.head?_cons]
  by_cases hh : a[0]'h = m
  · rw [hh]; simp
  · have : ¬ (a[0]'h).toNat = m.toNat := fun e => hh (UInt8.toNat_inj.1 e)
    simp [hh, this]
theorem isM_empty (m : UInt8) : isM m ⟨#[]⟩ = false := rfl
theorem cut_ext (a : ByteArray) : a.extract 1 a.size = cut a := by
  rw [extract_list]
  unfold cut
  rw [List.take_of_length_le (by rw [Rn.size_data]; exact Nat.le_refl _), List.drop_one]
end Bm

set_option maxHeartbeats 8000000 in
set_option maxRecDepth 100000 in
theorem refBack_any (A0 : Option Addr) (n c0 : Nat) (l : List Pr) (w : World) (hf : Lst pairK w A0 n l) (hb : n * 32 ≤ 140737488355328) (hks : KeysLow l) :
    Calls Try.prog 29 #[.slice A0 n c0] w (RetS w (Bm.back l)) := by
  have HF := Lib.hid hf
  have HL := Lib.hid hf.len
  have HKs := Lib.hid hks
  have hn0 : n ≤ 9223372036854775807 := by omega
  have hbn := Lib.hid (fun h => Bm.back_none (l := l) h)
  have hbs := Lib.hid (fun s h => Bm.back_some (l := l) (s := s) h)
  clear hf hks
  generalize hR : Bm.back l = R at hbn hbs ⊢
  clear hR
  go_enter Try.func29, Try.ntmps29
  go_upto_region 2 with (fail)
  have X0 := Lib.hid (Bk.new w)
  generalize ((w.alloc (.cells #[.slice none 0 0, .slice none 0 0] 40)).alloc (.cells #[.slice none 0 0, .slice none 0 0] 40)) = w2 at X0 ⊢
  go_wp2
  go_loopw [5] (fun i wr => ∃ (j : Nat) (sd st : List Pr) (A : Option Addr) (c : Nat) (B : Option Addr) (d : Nat), j ≤ n ∧ i = .int .i64 j ∧ Bk w A sd.length c B st.length d ⟨sd, st⟩ wr ∧ Bm.backL l ⟨[], []⟩ = Bm.backL (l.drop j) ⟨sd, st⟩ ∧ sd.length + st.length = j) (fun i _ => n - (intOf i).toNat)
  case atStart => exact ⟨0, [], [], none, 0, none, 0, Nat.zero_le _, rfl, X0.out, rfl, rfl⟩
  case round =>
    obtain ⟨j, sd, st, A, c, B, d, hj, rfl, x1, hT, hsum⟩ := hrel
    have X := Lib.hid x1
    have HT := Lib.hid hT
    clear x1 hT X0
    by_cases hlt : j < n
    · have hjl : j < l.length := by have := HL.out; omega
      have hjn : (j : Int) < (n : Int) := by omega
      have hj0 : (0 : Int) ≤ (j : Int) := by omega
      have HA := Lib.hid (HT.out.trans (Bm.backL_at hjl ⟨sd, st⟩))
      have hky := HKs.out l[j] (List.getElem_mem hjl)
      obtain ⟨ad, rfl, hab, y0, y1⟩ := load_pair HF.out hlt hjl
      have y0 := box_ X.out.q y0
      have y1 := box_ X.out.q y1
      have hab2 : ad.block < wr.heap.size := Nat.lt_of_lt_of_le hab X.out.q.size
      generalize l[j] = x at y0 y1 HA hky
      obtain ⟨a, b⟩ := x
      dsimp only at y0 y1 hky
      have hs1 : (sd.length + 1) * 32 ≤ 140737488355328 := by omega
      have hs2 : (st.length + 1) * 32 ≤ 140737488355328 := by omega
      by_cases hz : a = ⟨#[]⟩
      · subst hz
        have HB := Lib.hid (hbn.out (HA.out.trans (by rw [Bm.step_n (s := ⟨sd, st⟩) (p := ⟨⟨#[]⟩, b⟩) (fun h => by cases h.1) (fun h => by cases h.1)])))
        clear HA
        obtain ⟨⟨p0, p1⟩, p2, p3⟩ := X.out.res.get2
        obtain ⟨⟨b0, b1⟩, b2, b3⟩ := X.out.bb.get2
        go_wp2
        obtain ⟨⟨r0, r1⟩, _⟩ := (X.out.res.set2 (.slice none 0 0) (.slice none 0 0)).get2
        refine bodyPost_ret (v := .tuple #[staV none 0 0 none 0 0, .int .i64 3]) (by simp [results, Try.results29, go_sem, r0, r1]) rfl ?_
        rw [HB.out]
        exact ⟨none, 0, none, 0, rfl, OwnK.nil_ _ _ _, OwnK.nil_ _ _ _, X.out.q.set2 (Nat.le_refl _) _ _⟩
      have hpos : 0 < a.size := by
        rcases Nat.eq_zero_or_pos a.size with e | e
        · exact absurd (show a = ByteArray.empty by simpa using e) hz
        · exact e
      have hpi : (0 : Int) < (a.size : Int) := by omega
      have hpj : (1 : Int) ≤ (a.size : Int) := by omega
      have hz0 : ((a.size : Int) == 0) = false := beq_eq_false_iff_ne.2 (by omega)
      have i1 := Bm.isM_at 100 hpos
      have i2 := Bm.isM_at 116 hpos
      have HE := Lib.hid (Bm.cut_ext a)
      by_cases ha : (a[0]'hpos).toNat = 100
      · have ha2 : ¬ (a[0]'hpos).toNat = 116 := by omega
        rw [show (100 : UInt8).toNat = 100 from rfl, decide_eq_true ha] at i1
        rw [show (116 : UInt8).toNat = 116 from rfl, decide_eq_false ha2] at i2
        have f1 : ((a[0]'hpos).toNat == 100) = true := by simpa using ha
        have f2 : (((a[0]'hpos).toNat : Int) == 100) = true := beq_iff_eq.2 (by omega)
        have f3 : ((a[0]'hpos).toNat != 116) = true := by simpa using ha2
        have f4 : (((a[0]'hpos).toNat : Int) != 116) = true := by simp; omega
        by_cases hst : st = []
        · have HN := Lib.hid (HA.out.trans (by rw [Bm.step_d (s := ⟨sd, st⟩) (p := ⟨a, b⟩) i1 hst]) : Bm.backL l ⟨[], []⟩ = Bm.backL (l.drop (j + 1)) ⟨sd ++ [⟨Bm.cut a, b⟩], st⟩)
          have hl0 : ((st.length : Int) == 0) = true := by rw [hst]; rfl
          obtain ⟨⟨b0, b1⟩, b2, b3⟩ := X.out.bb.get2
          have hE := HE.out
          generalize Bm.cut a = Ka at HN hE
          clear ha ha2 HA hst i1 i2 HE hz
          go_wp2
          refine wp_region_heldL 13 (Below (w.heap.size + 1 + 1) wr) (by kernel_rfl) ?szz0 (fun hHeld => ?rzz0)
          case szz0 =>
            exact (Below.refl _ _).drew
          case' rzz0 => skip
          refine wpAnyL_take (i := 0) (oi := ?ozz1) (v := ?vzz1) ?hzz1 ?azz1 ?bzz1 ?czz1 ?kzz1 ?qzz1 ?yzz1 ?szz1 ?rzz1
          case hzz1 => simp only [List.getElem?_toArray, List.getElem?_cons_zero]; rfl
          case azz1 => kernel_rfl
          case bzz1 => kernel_rfl
          case czz1 => kernel_rfl
          case kzz1 => kernel_rfl
          case yzz1 =>
            refine Or.inl ⟨by rfl, ?_⟩
            intro w hSw
            have s0 := box_b hSw b0 (by simp only; omega)
            have s1 := box_b hSw y0 (by rw [addr_block]; omega)
            have s2 := box_b hSw y1 (by simp only [addr_block]; omega)
            go_simp
            try with_reducible rfl
          case qzz1 => exact fun _ _ _ h => h
          case szz1 => first | assumption | trivial
          case' rzz1 => simp only [Act.put, List.setIfInBounds_toArray, List.set_cons_zero, List.set_cons_succ]
          refine wpAnyL_take (i := 1) (oi := ?ozz2) (v := ?vzz2) ?hzz2 ?azz2 ?bzz2 ?czz2 ?kzz2 ?qzz2 ?yzz2 ?szz2 ?rzz2
          case hzz2 => simp only [List.getElem?_toArray, List.getElem?_cons_zero, List.getElem?_cons_succ]; rfl
          case azz2 => kernel_rfl
          case bzz2 => kernel_rfl
          case czz2 => kernel_rfl
          case kzz2 => kernel_rfl
          case yzz2 =>
            refine Or.inl ⟨by rfl, ?_⟩
            intro w hSw
            have s0 := box_b hSw b0 (by simp only; omega)
            have s1 := box_b hSw y0 (by rw [addr_block]; omega)
            have s2 := box_b hSw y1 (by simp only [addr_block]; omega)
            go_simp
            try with_reducible rfl
          case qzz2 => exact fun _ _ _ h => h
          case szz2 => first | assumption | trivial
          case' rzz2 => simp only [Act.put, List.setIfInBounds_toArray, List.set_cons_zero, List.set_cons_succ]
          refine wpAnyL_take (i := 2) (oi := ?ozz3) (v := ?vzz3) ?hzz3 ?azz3 ?bzz3 ?czz3 ?kzz3 ?qzz3 ?yzz3 ?szz3 ?rzz3
          case hzz3 => simp only [List.getElem?_toArray, List.getElem?_cons_zero, List.getElem?_cons_succ]; rfl
          case azz3 => kernel_rfl
          case bzz3 => kernel_rfl
          case czz3 => kernel_rfl
          case kzz3 => kernel_rfl
          case yzz3 =>
            refine Or.inl ⟨by rfl, ?_⟩
            intro w hSw
            have s0 := box_b hSw b0 (by simp only; omega)
            have s1 := box_b hSw y0 (by rw [addr_block]; omega)
            have s2 := box_b hSw y1 (by simp only [addr_block]; omega)
            go_simp
            try with_reducible rfl
          case qzz3 => exact fun _ _ _ h => h
          case szz3 => first | assumption | trivial
          case' rzz3 => simp only [Act.put, List.setIfInBounds_toArray, List.set_cons_zero, List.set_cons_succ]
          refine wpAnyL_take (i := 3) (oi := ?ozz4) (v := ?vzz4) ?hzz4 ?azz4 ?bzz4 ?czz4 ?kzz4 ?qzz4 ?yzz4 ?szz4 ?rzz4
          case hzz4 => simp only [List.getElem?_toArray, List.getElem?_cons_zero, List.getElem?_cons_succ]; rfl
          case azz4 => kernel_rfl
          case bzz4 => kernel_rfl
          case czz4 => kernel_rfl
          case kzz4 => kernel_rfl
          case yzz4 =>
            refine Or.inl ⟨by rfl, ?_⟩
            intro w hSw
            have s0 := box_b hSw b0 (by simp only; omega)
            have s1 := box_b hSw y0 (by rw [addr_block]; omega)
            have s2 := box_b hSw y1 (by simp only [addr_block]; omega)
            go_simp
            try with_reducible rfl
          case qzz4 => exact fun _ _ _ h => h
          case szz4 => first | assumption | trivial
          case' rzz4 => simp only [Act.put, List.setIfInBounds_toArray, List.set_cons_zero, List.set_cons_succ]
          refine wpAnyL_take (i := 4) (oi := ?ozz5) (v := ?vzz5) ?hzz5 ?azz5 ?bzz5 ?czz5 ?kzz5 ?qzz5 ?yzz5 ?szz5 ?rzz5
          case hzz5 => simp only [List.getElem?_toArray, List.getElem?_cons_zero, List.getElem?_cons_succ]; rfl
          case azz5 => kernel_rfl
          case bzz5 => kernel_rfl
          case czz5 => kernel_rfl
          case kzz5 => kernel_rfl
          case yzz5 =>
            refine Or.inl ⟨by rfl, ?_⟩
            intro w hSw
            have s0 := box_b hSw b0 (by simp only; omega)
            have s1 := box_b hSw y0 (by rw [addr_block]; omega)
            have s2 := box_b hSw y1 (by simp only [addr_block]; omega)
            go_simp
            try with_reducible rfl
          case qzz5 => exact fun _ _ _ h => h
          case szz5 => first | assumption | trivial
          case' rzz5 => simp only [Act.put, List.setIfInBounds_toArray, List.set_cons_zero, List.set_cons_succ]
          refine wpAnyL_take (i := 5) (oi := ?ozz6) (v := ?vzz6) ?hzz6 ?azz6 ?bzz6 ?czz6 ?kzz6 ?qzz6 ?yzz6 ?szz6 ?rzz6
          case hzz6 => simp only [List.getElem?_toArray, List.getElem?_cons_zero, List.getElem?_cons_succ]; rfl
          case azz6 => kernel_rfl
          case bzz6 => kernel_rfl
          case czz6 => kernel_rfl
          case kzz6 => kernel_rfl
          case yzz6 =>
            refine Or.inl ⟨by rfl, ?_⟩
            intro w hSw
            have s0 := box_b hSw b0 (by simp only; omega)
            have s1 := box_b hSw y0 (by rw [addr_block]; omega)
            have s2 := box_b hSw y1 (by simp only [addr_block]; omega)
            go_simp
            try with_reducible rfl
          case qzz6 => exact fun _ _ _ h => h
          case szz6 => first | assumption | trivial
          case' rzz6 => simp only [Act.put, List.setIfInBounds_toArray, List.set_cons_zero, List.set_cons_succ]
          refine wpAnyL_take (i := 6) (oi := ?ozz7) (v := ?vzz7) ?hzz7 ?azz7 ?bzz7 ?czz7 ?kzz7 ?qzz7 ?yzz7 ?szz7 ?rzz7
          case hzz7 => simp only [List.getElem?_toArray, List.getElem?_cons_zero, List.getElem?_cons_succ]; rfl
          case azz7 => kernel_rfl
          case bzz7 => kernel_rfl
          case czz7 => kernel_rfl
          case kzz7 => kernel_rfl
          case yzz7 =>
            refine Or.inl ⟨by rfl, ?_⟩
            intro w hSw
            have s0 := box_b hSw b0 (by simp only; omega)
            have s1 := box_b hSw y0 (by rw [addr_block]; omega)
            have s2 := box_b hSw y1 (by simp only [addr_block]; omega)
            go_simp
            try with_reducible rfl
          case qzz7 => exact fun _ _ _ h => h
          case szz7 => first | assumption | trivial
          case' rzz7 => simp only [Act.put, List.setIfInBounds_toArray, List.set_cons_zero, List.set_cons_succ]
          refine wpAnyL_take (i := 7) (oi := ?ozz8) (v := ?vzz8) ?hzz8 ?azz8 ?bzz8 ?czz8 ?kzz8 ?qzz8 ?yzz8 ?szz8 ?rzz8
          case hzz8 => simp only [List.getElem?_toArray, List.getElem?_cons_zero, List.getElem?_cons_succ]; rfl
          case azz8 => kernel_rfl
          case bzz8 => kernel_rfl
          case czz8 => kernel_rfl
          case kzz8 => kernel_rfl
          case yzz8 =>
            refine Or.inl ⟨by rfl, ?_⟩
            intro w hSw
            have s0 := box_b hSw b0 (by simp only; omega)
            have s1 := box_b hSw y0 (by rw [addr_block]; omega)
            have s2 := box_b hSw y1 (by simp only [addr_block]; omega)
            go_simp
            try with_reducible rfl
          case qzz8 => exact fun _ _ _ h => h
          case szz8 => first | assumption | trivial
          case' rzz8 => simp only [Act.put, List.setIfInBounds_toArray, List.set_cons_zero, List.set_cons_succ]
          refine wpAnyL_take (i := 8) (oi := ?ozz9) (v := ?vzz9) ?hzz9 ?azz9 ?bzz9 ?czz9 ?kzz9 ?qzz9 ?yzz9 ?szz9 ?rzz9
          case hzz9 => simp only [List.getElem?_toArray, List.getElem?_cons_zero, List.getElem?_cons_succ]; rfl
          case azz9 => kernel_rfl
          case bzz9 => kernel_rfl
          case czz9 => kernel_rfl
          case kzz9 => kernel_rfl
          case yzz9 =>
            refine Or.inl ⟨by rfl, ?_⟩
            intro w hSw
            have s0 := box_b hSw b0 (by simp only; omega)
            have s1 := box_b hSw y0 (by rw [addr_block]; omega)
            have s2 := box_b hSw y1 (by simp only [addr_block]; omega)
            go_simp
            try with_reducible rfl
          case qzz9 => exact fun _ _ _ h => h
          case szz9 => first | assumption | trivial
          case' rzz9 => simp only [Act.put, List.setIfInBounds_toArray, List.set_cons_zero, List.set_cons_succ]
          refine wpAnyL_take (i := 9) (oi := ?ozz10) (v := ?vzz10) ?hzz10 ?azz10 ?bzz10 ?czz10 ?kzz10 ?qzz10 ?yzz10 ?szz10 ?rzz10
          case hzz10 => simp only [List.getElem?_toArray, List.getElem?_cons_zero, List.getElem?_cons_succ]; rfl
          case azz10 => kernel_rfl
          case bzz10 => kernel_rfl
          case czz10 => kernel_rfl
          case kzz10 => kernel_rfl
          case yzz10 =>
            refine Or.inl ⟨by rfl, ?_⟩
            intro w hSw
            have s0 := box_b hSw b0 (by simp only; omega)
            have s1 := box_b hSw y0 (by rw [addr_block]; omega)
            have s2 := box_b hSw y1 (by simp only [addr_block]; omega)
            go_simp
            try with_reducible rfl
          case qzz10 => exact fun _ _ _ h => h
          case szz10 => first | assumption | trivial
          case' rzz10 => simp only [Act.put, List.setIfInBounds_toArray, List.set_cons_zero, List.set_cons_succ]
          refine wpAnyL_ready (rs := [10]) (by kernel_rfl) (by simp) ?_
          refine AllReadyL.cons (o := ?ozz14) ?hzz14 (fun K hK => ?kzz14) ?mzz14
          case hzz14 => simp only [List.getElem?_toArray, List.getElem?_cons_zero, List.getElem?_cons_succ]; rfl
          case kzz14 =>
            go_simp
            refine hK.out _ _ ?Szz14 (fun hHeld => ?Rzz14)
            case Szz14 =>
              first | exact ((Below.refl _ _).drew).alloc (by have := X.out.l; simp only [World.size_drew]; omega) _ | exact ((Below.refl _ _).alloc (by have := X.out.l; omega) _).drew
            case Rzz14 =>
              clear hK K
              try simp only [Act.put, List.setIfInBounds_toArray, List.set_cons_zero, List.set_cons_succ]
              refine wpAnyL_ready (rs := [11]) (by kernel_rfl) (by simp) ?_
              refine AllReadyL.cons (o := ?ozz13) ?hzz13 (fun K hK => ?kzz13) ?mzz13
              case hzz13 => simp only [List.getElem?_toArray, List.getElem?_cons_zero, List.getElem?_cons_succ]; rfl
              case kzz13 =>
                refine step_appKG pairK (by rfl) _ _ _ rfl (by rfl) (w.heap.size + 1 + 1) A sd.length c sd (by rfl) (X.out.step (((Q.refl wr).alloc (.cells #[.string Ka, .string b] 99)).drew)).o1 (some ⟨wr.heap.size, 0, none⟩) 1 1 [⟨Ka, b⟩] (by rfl) (by have := (lit_pair wr ⟨Ka, b⟩).q (Q.refl _).drew; simpa using this) (fun e => by cases e) (by show (sd.length + 1) * 32 ≤ _; omega) (X.out.step (((Q.refl wr).alloc (.cells #[.string Ka, .string b] 99)).drew)).l ?_
                intro A6 c6 w6 o6 g6 t6
                refine hK.out _ _ ?Szz13 (fun hHeld => ?Rzz13)
                case Szz13 =>
                  exact (((Below.refl _ wr).alloc (by have := X.out.l; omega) (.cells #[.string Ka, .string b] 99)).drew).trans (grown_below (X.out.step (((Q.refl wr).alloc (.cells #[.string Ka, .string b] 99)).drew)).o1 g6 (X.out.step (((Q.refl wr).alloc (.cells #[.string Ka, .string b] 99)).drew)).l)
                case Rzz13 =>
                  clear hK K
                  try simp only [Act.put, List.setIfInBounds_toArray, List.set_cons_zero, List.set_cons_succ]
                  refine wpAnyL_take (i := 12) (oi := ?ozz11) (v := ?vzz11) ?hzz11 ?azz11 ?bzz11 ?czz11 ?kzz11 ?qzz11 ?yzz11 ?szz11 ?rzz11
                  case hzz11 => simp only [List.getElem?_toArray, List.getElem?_cons_zero, List.getElem?_cons_succ]; rfl
                  case azz11 => kernel_rfl
                  case bzz11 => kernel_rfl
                  case czz11 => kernel_rfl
                  case kzz11 => kernel_rfl
                  case yzz11 =>
                    refine Or.inl ⟨by rfl, ?_⟩
                    intro w hSw
                    skip
                    go_simp
                    try with_reducible rfl
                  case qzz11 => exact fun _ _ _ h => h
                  case szz11 => first | assumption | trivial
                  case' rzz11 => simp only [Act.put, List.setIfInBounds_toArray, List.set_cons_zero, List.set_cons_succ]
                  refine wpAnyL_ready (rs := [13]) (by kernel_rfl) (by simp) ?_
                  refine AllReadyL.consK (o := ?ozz12) ?hzz12 ?lzz12 (fun K hK => ?kzz12) ?mzz12
                  case hzz12 => simp only [List.getElem?_toArray, List.getElem?_cons_zero, List.getElem?_cons_succ]; rfl
                  case lzz12 => kernel_rfl
                  case kzz12 =>
                    obtain ⟨⟨p0, p1⟩, p2, p3⟩ := ((X.out.step (((Q.refl wr).alloc (.cells #[.string Ka, .string b] 99)).drew)).bb.below (grown_below (X.out.step (((Q.refl wr).alloc (.cells #[.string Ka, .string b] 99)).drew)).o1 g6 (X.out.step (((Q.refl wr).alloc (.cells #[.string Ka, .string b] 99)).drew)).l) (by omega)).get2
                    go_simp
                    refine hK.out _ _ ?Rzz12
                    case Rzz12 =>
                      clear hK K
                      try simp only [Act.put, List.setIfInBounds_toArray, List.set_cons_zero, List.set_cons_succ]
                      refine wpAnyH_done (by kernel_rfl) ?_ _
                      have X9 := Lib.hid ((X.out.step (((Q.refl wr).alloc (.cells #[.string Ka, .string b] 99)).drew)).setData o6 g6 t6)
                      go_wp2
                      go_roundw
                      case rel => exact ⟨j + 1, sd ++ [⟨Ka, b⟩], st, A6, c6, B, d, by omega, by go_num, by rw [List.length_append]; exact X9.out, HN.out, by rw [List.length_append]; show sd.length + 1 + st.length = _; omega⟩
                      case measure => simp [intOf]; omega
                  case' mzz12 => skip
                  exact AllReadyL.nil
              case' mzz13 => skip
              exact AllReadyL.nil
          case' mzz14 => skip
          exact AllReadyL.nil
        · have hl1 : st.length ≠ 0 := fun e => hst (List.eq_nil_of_length_eq_zero e)
          have HB := Lib.hid (hbn.out (HA.out.trans (by rw [Bm.step_n (s := ⟨sd, st⟩) (p := ⟨a, b⟩) (fun h => hst h.2) (fun h => by have := h.1; simp only at this; rw [i2] at this; cases this)])))
          generalize hmm : st.length = m at X hsum hs2 hl1
          clear hmm
          have hl0 : ((m : Int) == 0) = false := by simp; omega
          clear hl1 HA hst i1 i2 HE hz ha ha2
          obtain ⟨⟨p0, p1⟩, p2, p3⟩ := X.out.res.get2
          obtain ⟨⟨b0, b1⟩, b2, b3⟩ := X.out.bb.get2
          go_wp2
          obtain ⟨⟨r0, r1⟩, _⟩ := (X.out.res.set2 (.slice none 0 0) (.slice none 0 0)).get2
          refine bodyPost_ret (v := .tuple #[staV none 0 0 none 0 0, .int .i64 3]) (by simp [results, Try.results29, go_sem, r0, r1]) rfl ?_
          rw [HB.out]
          exact ⟨none, 0, none, 0, rfl, OwnK.nil_ _ _ _, OwnK.nil_ _ _ _, X.out.q.set2 (Nat.le_refl _) _ _⟩
      · have ha1 : (a[0]'hpos).toNat ≠ 100 := ha
        rw [show (100 : UInt8).toNat = 100 from rfl, decide_eq_false ha] at i1
        have f1 : ((a[0]'hpos).toNat == 100) = false := by simpa using ha
        have f2 : (((a[0]'hpos).toNat : Int) == 100) = false := by simp; omega
        by_cases ht : (a[0]'hpos).toNat = 116
        · rw [show (116 : UInt8).toNat = 116 from rfl, decide_eq_true ht] at i2
          have f3 : ((a[0]'hpos).toNat != 116) = false := by simpa using ht
          have f4 : (((a[0]'hpos).toNat : Int) != 116) = false := by simp; omega
          by_cases hc : b = ⟨#[99]⟩
          · subst hc
            have HN := Lib.hid (HA.out.trans (by rw [Bm.step_t (s := ⟨sd, st⟩) (p := ⟨a, ⟨#[99]⟩⟩) (fun h => by have := h.1; simp only at this; rw [i1] at this; cases this) i2 Bm.cg_c]) : Bm.backL l ⟨[], []⟩ = Bm.backL (l.drop (j + 1)) ⟨sd, st ++ [⟨Bm.cut a, ⟨#[99]⟩⟩]⟩)
            obtain ⟨⟨b0, b1⟩, b2, b3⟩ := X.out.bb.get2
            have hE := HE.out
            generalize Bm.cut a = Ka at HN hE
            clear ha ht HA i1 i2 HE hz ha1
            go_wp2
            refine wp_region_heldL 13 (Below (w.heap.size + 1 + 1) wr) (by kernel_rfl) ?szz15 (fun hHeld => ?rzz15)
            case szz15 =>
              exact (Below.refl _ _).drew
            case' rzz15 => skip
            refine wpAnyL_take (i := 0) (oi := ?ozz16) (v := ?vzz16) ?hzz16 ?azz16 ?bzz16 ?czz16 ?kzz16 ?qzz16 ?yzz16 ?szz16 ?rzz16
            case hzz16 => simp only [List.getElem?_toArray, List.getElem?_cons_zero]; rfl
            case azz16 => kernel_rfl
            case bzz16 => kernel_rfl
            case czz16 => kernel_rfl
            case kzz16 => kernel_rfl
            case yzz16 =>
              refine Or.inl ⟨by rfl, ?_⟩
              intro w hSw
              have s0 := box_b hSw b1 (by simp only; omega)
              have s1 := box_b hSw y0 (by rw [addr_block]; omega)
              have s2 := box_b hSw y1 (by simp only [addr_block]; omega)
              go_simp
              try with_reducible rfl
            case qzz16 => exact fun _ _ _ h => h
            case szz16 => first | assumption | trivial
            case' rzz16 => simp only [Act.put, List.setIfInBounds_toArray, List.set_cons_zero, List.set_cons_succ]
            refine wpAnyL_take (i := 1) (oi := ?ozz17) (v := ?vzz17) ?hzz17 ?azz17 ?bzz17 ?czz17 ?kzz17 ?qzz17 ?yzz17 ?szz17 ?rzz17
            case hzz17 => simp only [List.getElem?_toArray, List.getElem?_cons_zero, List.getElem?_cons_succ]; rfl
            case azz17 => kernel_rfl
            case bzz17 => kernel_rfl
            case czz17 => kernel_rfl
            case kzz17 => kernel_rfl
            case yzz17 =>
              refine Or.inl ⟨by rfl, ?_⟩
              intro w hSw
              have s0 := box_b hSw b1 (by simp only; omega)
              have s1 := box_b hSw y0 (by rw [addr_block]; omega)
              have s2 := box_b hSw y1 (by simp only [addr_block]; omega)
              go_simp
              try with_reducible rfl
            case qzz17 => exact fun _ _ _ h => h
            case szz17 => first | assumption | trivial
            case' rzz17 => simp only [Act.put, List.setIfInBounds_toArray, List.set_cons_zero, List.set_cons_succ]
            refine wpAnyL_take (i := 2) (oi := ?ozz18) (v := ?vzz18) ?hzz18 ?azz18 ?bzz18 ?czz18 ?kzz18 ?qzz18 ?yzz18 ?szz18 ?rzz18
            case hzz18 => simp only [List.getElem?_toArray, List.getElem?_cons_zero, List.getElem?_cons_succ]; rfl
            case azz18 => kernel_rfl
            case bzz18 => kernel_rfl
            case czz18 => kernel_rfl
            case kzz18 => kernel_rfl
            case yzz18 =>
              refine Or.inl ⟨by rfl, ?_⟩
              intro w hSw
              have s0 := box_b hSw b1 (by simp only; omega)
              have s1 := box_b hSw y0 (by rw [addr_block]; omega)
              have s2 := box_b hSw y1 (by simp only [addr_block]; omega)
              go_simp
              try with_reducible rfl
            case qzz18 => exact fun _ _ _ h => h
            case szz18 => first | assumption | trivial
            case' rzz18 => simp only [Act.put, List.setIfInBounds_toArray, List.set_cons_zero, List.set_cons_succ]
            refine wpAnyL_take (i := 3) (oi := ?ozz19) (v := ?vzz19) ?hzz19 ?azz19 ?bzz19 ?czz19 ?kzz19 ?qzz19 ?yzz19 ?szz19 ?rzz19
            case hzz19 => simp only [List.getElem?_toArray, List.getElem?_cons_zero, List.getElem?_cons_succ]; rfl
            case azz19 => kernel_rfl
            case bzz19 => kernel_rfl
            case czz19 => kernel_rfl
            case kzz19 => kernel_rfl
            case yzz19 =>
              refine Or.inl ⟨by rfl, ?_⟩
              intro w hSw
              have s0 := box_b hSw b1 (by simp only; omega)
              have s1 := box_b hSw y0 (by rw [addr_block]; omega)
              have s2 := box_b hSw y1 (by simp only [addr_block]; omega)
              go_simp
              try with_reducible rfl
            case qzz19 => exact fun _ _ _ h => h
            case szz19 => first | assumption | trivial
            case' rzz19 => simp only [Act.put, List.setIfInBounds_toArray, List.set_cons_zero, List.set_cons_succ]
            refine wpAnyL_take (i := 4) (oi := ?ozz20) (v := ?vzz20) ?hzz20 ?azz20 ?bzz20 ?czz20 ?kzz20 ?qzz20 ?yzz20 ?szz20 ?rzz20
            case hzz20 => simp only [List.getElem?_toArray, List.getElem?_cons_zero, List.getElem?_cons_succ]; rfl
            case azz20 => kernel_rfl
            case bzz20 => kernel_rfl
            case czz20 => kernel_rfl
            case kzz20 => kernel_rfl
            case yzz20 =>
              refine Or.inl ⟨by rfl, ?_⟩
              intro w hSw
              have s0 := box_b hSw b1 (by simp only; omega)
              have s1 := box_b hSw y0 (by rw [addr_block]; omega)
              have s2 := box_b hSw y1 (by simp only [addr_block]; omega)
              go_simp
              try with_reducible rfl
            case qzz20 => exact fun _ _ _ h => h
            case szz20 => first | assumption | trivial
            case' rzz20 => simp only [Act.put, List.setIfInBounds_toArray, List.set_cons_zero, List.set_cons_succ]
            refine wpAnyL_take (i := 5) (oi := ?ozz21) (v := ?vzz21) ?hzz21 ?azz21 ?bzz21 ?czz21 ?kzz21 ?qzz21 ?yzz21 ?szz21 ?rzz21
            case hzz21 => simp only [List.getElem?_toArray, List.getElem?_cons_zero, List.getElem?_cons_succ]; rfl
            case azz21 => kernel_rfl
            case bzz21 => kernel_rfl
            case czz21 => kernel_rfl
            case kzz21 => kernel_rfl
            case yzz21 =>
              refine Or.inl ⟨by rfl, ?_⟩
              intro w hSw
              have s0 := box_b hSw b1 (by simp only; omega)
              have s1 := box_b hSw y0 (by rw [addr_block]; omega)
              have s2 := box_b hSw y1 (by simp only [addr_block]; omega)
              go_simp
              try with_reducible rfl
            case qzz21 => exact fun _ _ _ h => h
            case szz21 => first | assumption | trivial
            case' rzz21 => simp only [Act.put, List.setIfInBounds_toArray, List.set_cons_zero, List.set_cons_succ]
            refine wpAnyL_take (i := 6) (oi := ?ozz22) (v := ?vzz22) ?hzz22 ?azz22 ?bzz22 ?czz22 ?kzz22 ?qzz22 ?yzz22 ?szz22 ?rzz22
            case hzz22 => simp only [List.getElem?_toArray, List.getElem?_cons_zero, List.getElem?_cons_succ]; rfl
            case azz22 => kernel_rfl
            case bzz22 => kernel_rfl
            case czz22 => kernel_rfl
            case kzz22 => kernel_rfl
            case yzz22 =>
              refine Or.inl ⟨by rfl, ?_⟩
              intro w hSw
              have s0 := box_b hSw b1 (by simp only; omega)
              have s1 := box_b hSw y0 (by rw [addr_block]; omega)
              have s2 := box_b hSw y1 (by simp only [addr_block]; omega)
              go_simp
              try with_reducible rfl
            case qzz22 => exact fun _ _ _ h => h
            case szz22 => first | assumption | trivial
            case' rzz22 => simp only [Act.put, List.setIfInBounds_toArray, List.set_cons_zero, List.set_cons_succ]
            refine wpAnyL_take (i := 7) (oi := ?ozz23) (v := ?vzz23) ?hzz23 ?azz23 ?bzz23 ?czz23 ?kzz23 ?qzz23 ?yzz23 ?szz23 ?rzz23
            case hzz23 => simp only [List.getElem?_toArray, List.getElem?_cons_zero, List.getElem?_cons_succ]; rfl
            case azz23 => kernel_rfl
            case bzz23 => kernel_rfl
            case czz23 => kernel_rfl
            case kzz23 => kernel_rfl
            case yzz23 =>
              refine Or.inl ⟨by rfl, ?_⟩
              intro w hSw
              have s0 := box_b hSw b1 (by simp only; omega)
              have s1 := box_b hSw y0 (by rw [addr_block]; omega)
              have s2 := box_b hSw y1 (by simp only [addr_block]; omega)
              go_simp
              try with_reducible rfl
            case qzz23 => exact fun _ _ _ h => h
            case szz23 => first | assumption | trivial
            case' rzz23 => simp only [Act.put, List.setIfInBounds_toArray, List.set_cons_zero, List.set_cons_succ]
            refine wpAnyL_take (i := 8) (oi := ?ozz24) (v := ?vzz24) ?hzz24 ?azz24 ?bzz24 ?czz24 ?kzz24 ?qzz24 ?yzz24 ?szz24 ?rzz24
            case hzz24 => simp only [List.getElem?_toArray, List.getElem?_cons_zero, List.getElem?_cons_succ]; rfl
            case azz24 => kernel_rfl
            case bzz24 => kernel_rfl
            case czz24 => kernel_rfl
            case kzz24 => kernel_rfl
            case yzz24 =>
              refine Or.inl ⟨by rfl, ?_⟩
              intro w hSw
              have s0 := box_b hSw b1 (by simp only; omega)
              have s1 := box_b hSw y0 (by rw [addr_block]; omega)
              have s2 := box_b hSw y1 (by simp only [addr_block]; omega)
              go_simp
              try with_reducible rfl
            case qzz24 => exact fun _ _ _ h => h
            case szz24 => first | assumption | trivial
            case' rzz24 => simp only [Act.put, List.setIfInBounds_toArray, List.set_cons_zero, List.set_cons_succ]
            refine wpAnyL_take (i := 9) (oi := ?ozz25) (v := ?vzz25) ?hzz25 ?azz25 ?bzz25 ?czz25 ?kzz25 ?qzz25 ?yzz25 ?szz25 ?rzz25
            case hzz25 => simp only [List.getElem?_toArray, List.getElem?_cons_zero, List.getElem?_cons_succ]; rfl
            case azz25 => kernel_rfl
            case bzz25 => kernel_rfl
            case czz25 => kernel_rfl
            case kzz25 => kernel_rfl
            case yzz25 =>
              refine Or.inl ⟨by rfl, ?_⟩
              intro w hSw
              have s0 := box_b hSw b1 (by simp only; omega)
              have s1 := box_b hSw y0 (by rw [addr_block]; omega)
              have s2 := box_b hSw y1 (by simp only [addr_block]; omega)
              go_simp
              try with_reducible rfl
            case qzz25 => exact fun _ _ _ h => h
            case szz25 => first | assumption | trivial
            case' rzz25 => simp only [Act.put, List.setIfInBounds_toArray, List.set_cons_zero, List.set_cons_succ]
            refine wpAnyL_ready (rs := [10]) (by kernel_rfl) (by simp) ?_
            refine AllReadyL.cons (o := ?ozz29) ?hzz29 (fun K hK => ?kzz29) ?mzz29
            case hzz29 => simp only [List.getElem?_toArray, List.getElem?_cons_zero, List.getElem?_cons_succ]; rfl
            case kzz29 =>
              go_simp
              refine hK.out _ _ ?Szz29 (fun hHeld => ?Rzz29)
              case Szz29 =>
                first | exact ((Below.refl _ _).drew).alloc (by have := X.out.l; simp only [World.size_drew]; omega) _ | exact ((Below.refl _ _).alloc (by have := X.out.l; omega) _).drew
              case Rzz29 =>
                clear hK K
                try simp only [Act.put, List.setIfInBounds_toArray, List.set_cons_zero, List.set_cons_succ]
                refine wpAnyL_ready (rs := [11]) (by kernel_rfl) (by simp) ?_
                refine AllReadyL.cons (o := ?ozz28) ?hzz28 (fun K hK => ?kzz28) ?mzz28
                case hzz28 => simp only [List.getElem?_toArray, List.getElem?_cons_zero, List.getElem?_cons_succ]; rfl
                case kzz28 =>
                  refine step_appKG pairK (by rfl) _ _ _ rfl (by rfl) (w.heap.size + 1 + 1) B st.length d st (by rfl) (X.out.step (((Q.refl wr).alloc (.cells #[.string Ka, .string ⟨#[99]⟩] 99)).drew)).o2 (some ⟨wr.heap.size, 0, none⟩) 1 1 [⟨Ka, ⟨#[99]⟩⟩] (by rfl) (by have := (lit_pair wr ⟨Ka, ⟨#[99]⟩⟩).q (Q.refl _).drew; simpa using this) (fun e => by cases e) (by show (st.length + 1) * 32 ≤ _; omega) (X.out.step (((Q.refl wr).alloc (.cells #[.string Ka, .string ⟨#[99]⟩] 99)).drew)).l ?_
                  intro A6 c6 w6 o6 g6 t6
                  refine hK.out _ _ ?Szz28 (fun hHeld => ?Rzz28)
                  case Szz28 =>
                    exact (((Below.refl _ wr).alloc (by have := X.out.l; omega) (.cells #[.string Ka, .string ⟨#[99]⟩] 99)).drew).trans (grown_below (X.out.step (((Q.refl wr).alloc (.cells #[.string Ka, .string ⟨#[99]⟩] 99)).drew)).o2 g6 (X.out.step (((Q.refl wr).alloc (.cells #[.string Ka, .string ⟨#[99]⟩] 99)).drew)).l)
                  case Rzz28 =>
                    clear hK K
                    try simp only [Act.put, List.setIfInBounds_toArray, List.set_cons_zero, List.set_cons_succ]
                    refine wpAnyL_take (i := 12) (oi := ?ozz26) (v := ?vzz26) ?hzz26 ?azz26 ?bzz26 ?czz26 ?kzz26 ?qzz26 ?yzz26 ?szz26 ?rzz26
                    case hzz26 => simp only [List.getElem?_toArray, List.getElem?_cons_zero, List.getElem?_cons_succ]; rfl
                    case azz26 => kernel_rfl
                    case bzz26 => kernel_rfl
                    case czz26 => kernel_rfl
                    case kzz26 => kernel_rfl
                    case yzz26 =>
                      refine Or.inl ⟨by rfl, ?_⟩
                      intro w hSw
                      skip
                      go_simp
                      try with_reducible rfl
                    case qzz26 => exact fun _ _ _ h => h
                    case szz26 => first | assumption | trivial
                    case' rzz26 => simp only [Act.put, List.setIfInBounds_toArray, List.set_cons_zero, List.set_cons_succ]
                    refine wpAnyL_ready (rs := [13]) (by kernel_rfl) (by simp) ?_
                    refine AllReadyL.consK (o := ?ozz27) ?hzz27 ?lzz27 (fun K hK => ?kzz27) ?mzz27
                    case hzz27 => simp only [List.getElem?_toArray, List.getElem?_cons_zero, List.getElem?_cons_succ]; rfl
                    case lzz27 => kernel_rfl
                    case kzz27 =>
                      obtain ⟨⟨p0, p1⟩, p2, p3⟩ := ((X.out.step (((Q.refl wr).alloc (.cells #[.string Ka, .string ⟨#[99]⟩] 99)).drew)).bb.below (grown_below (X.out.step (((Q.refl wr).alloc (.cells #[.string Ka, .string ⟨#[99]⟩] 99)).drew)).o2 g6 (X.out.step (((Q.refl wr).alloc (.cells #[.string Ka, .string ⟨#[99]⟩] 99)).drew)).l) (by omega)).get2
                      go_simp
                      refine hK.out _ _ ?Rzz27
                      case Rzz27 =>
                        clear hK K
                        try simp only [Act.put, List.setIfInBounds_toArray, List.set_cons_zero, List.set_cons_succ]
                        refine wpAnyH_done (by kernel_rfl) ?_ _
                        have X9 := Lib.hid ((X.out.step (((Q.refl wr).alloc (.cells #[.string Ka, .string ⟨#[99]⟩] 99)).drew)).setToks o6 g6 t6)
                        go_wp2
                        go_roundw
                        case rel => exact ⟨j + 1, sd, st ++ [⟨Ka, ⟨#[99]⟩⟩], A, c, A6, c6, by omega, by go_num, by rw [List.length_append]; exact X9.out, HN.out, by rw [List.length_append]; show sd.length + (st.length + 1) = _; omega⟩
                        case measure => simp [intOf]; omega
                    case' mzz27 => skip
                    exact AllReadyL.nil
                case' mzz28 => skip
                exact AllReadyL.nil
            case' mzz29 => skip
            exact AllReadyL.nil
          · by_cases hg : b = ⟨#[103]⟩
            · subst hg
              have HN := Lib.hid (HA.out.trans (by rw [Bm.step_t (s := ⟨sd, st⟩) (p := ⟨a, ⟨#[103]⟩⟩) (fun h => by have := h.1; simp only at this; rw [i1] at this; cases this) i2 Bm.cg_g]) : Bm.backL l ⟨[], []⟩ = Bm.backL (l.drop (j + 1)) ⟨sd, st ++ [⟨Bm.cut a, ⟨#[103]⟩⟩]⟩)
              obtain ⟨⟨b0, b1⟩, b2, b3⟩ := X.out.bb.get2
              have hE := HE.out
              generalize Bm.cut a = Ka at HN hE
              clear ha ht HA hc i1 i2 HE hz ha1
              go_wp2
              refine wp_region_heldL 13 (Below (w.heap.size + 1 + 1) wr) (by kernel_rfl) ?szz30 (fun hHeld => ?rzz30)
              case szz30 =>
                exact (Below.refl _ _).drew
              case' rzz30 => skip
              refine wpAnyL_take (i := 0) (oi := ?ozz31) (v := ?vzz31) ?hzz31 ?azz31 ?bzz31 ?czz31 ?kzz31 ?qzz31 ?yzz31 ?szz31 ?rzz31
              case hzz31 => simp only [List.getElem?_toArray, List.getElem?_cons_zero]; rfl
              case azz31 => kernel_rfl
              case bzz31 => kernel_rfl
              case czz31 => kernel_rfl
              case kzz31 => kernel_rfl
              case yzz31 =>
                refine Or.inl ⟨by rfl, ?_⟩
                intro w hSw
                have s0 := box_b hSw b1 (by simp only; omega)
                have s1 := box_b hSw y0 (by rw [addr_block]; omega)
                have s2 := box_b hSw y1 (by simp only [addr_block]; omega)
                go_simp
                try with_reducible rfl
              case qzz31 => exact fun _ _ _ h => h
              case szz31 => first | assumption | trivial
              case' rzz31 => simp only [Act.put, List.setIfInBounds_toArray, List.set_cons_zero, List.set_cons_succ]
              refine wpAnyL_take (i := 1) (oi := ?ozz32) (v := ?vzz32) ?hzz32 ?azz32 ?bzz32 ?czz32 ?kzz32 ?qzz32 ?yzz32 ?szz32 ?rzz32
              case hzz32 => simp only [List.getElem?_toArray, List.getElem?_cons_zero, List.getElem?_cons_succ]; rfl
              case azz32 => kernel_rfl
              case bzz32 => kernel_rfl
              case czz32 => kernel_rfl
              case kzz32 => kernel_rfl
              case yzz32 =>
                refine Or.inl ⟨by rfl, ?_⟩
                intro w hSw
                have s0 := box_b hSw b1 (by simp only; omega)
                have s1 := box_b hSw y0 (by rw [addr_block]; omega)
                have s2 := box_b hSw y1 (by simp only [addr_block]; omega)
                go_simp
                try with_reducible rfl
              case qzz32 => exact fun _ _ _ h => h
              case szz32 => first | assumption | trivial
              case' rzz32 => simp only [Act.put, List.setIfInBounds_toArray, List.set_cons_zero, List.set_cons_succ]
              refine wpAnyL_take (i := 2) (oi := ?ozz33) (v := ?vzz33) ?hzz33 ?azz33 ?bzz33 ?czz33 ?kzz33 ?qzz33 ?yzz33 ?szz33 ?rzz33
              case hzz33 => simp only [List.getElem?_toArray, List.getElem?_cons_zero, List.getElem?_cons_succ]; rfl
              case azz33 => kernel_rfl
              case bzz33 => kernel_rfl
              case czz33 => kernel_rfl
              case kzz33 => kernel_rfl
              case yzz33 =>
                refine Or.inl ⟨by rfl, ?_⟩
                intro w hSw
                have s0 := box_b hSw b1 (by simp only; omega)
                have s1 := box_b hSw y0 (by rw [addr_block]; omega)
                have s2 := box_b hSw y1 (by simp only [addr_block]; omega)
                go_simp
                try with_reducible rfl
              case qzz33 => exact fun _ _ _ h => h
              case szz33 => first | assumption | trivial
              case' rzz33 => simp only [Act.put, List.setIfInBounds_toArray, List.set_cons_zero, List.set_cons_succ]
              refine wpAnyL_take (i := 3) (oi := ?ozz34) (v := ?vzz34) ?hzz34 ?azz34 ?bzz34 ?czz34 ?kzz34 ?qzz34 ?yzz34 ?szz34 ?rzz34
              case hzz34 => simp only [List.getElem?_toArray, List.getElem?_cons_zero, List.getElem?_cons_succ]; rfl
              case azz34 => kernel_rfl
              case bzz34 => kernel_rfl
              case czz34 => kernel_rfl
              case kzz34 => kernel_rfl
              case yzz34 =>
                refine Or.inl ⟨by rfl, ?_⟩
                intro w hSw
                have s0 := box_b hSw b1 (by simp only; omega)
                have s1 := box_b hSw y0 (by rw [addr_block]; omega)
                have s2 := box_b hSw y1 (by simp only [addr_block]; omega)
                go_simp
                try with_reducible rfl
              case qzz34 => exact fun _ _ _ h => h
              case szz34 => first | assumption | trivial
              case' rzz34 => simp only [Act.put, List.setIfInBounds_toArray, List.set_cons_zero, List.set_cons_succ]
              refine wpAnyL_take (i := 4) (oi := ?ozz35) (v := ?vzz35) ?hzz35 ?azz35 ?bzz35 ?czz35 ?kzz35 ?qzz35 ?yzz35 ?szz35 ?rzz35
              case hzz35 => simp only [List.getElem?_toArray, List.getElem?_cons_zero, List.getElem?_cons_succ]; rfl
              case azz35 => kernel_rfl
              case bzz35 => kernel_rfl
              case czz35 => kernel_rfl
              case kzz35 => kernel_rfl
              case yzz35 =>
                refine Or.inl ⟨by rfl, ?_⟩
                intro w hSw
                have s0 := box_b hSw b1 (by simp only; omega)
                have s1 := box_b hSw y0 (by rw [addr_block]; omega)
                have s2 := box_b hSw y1 (by simp only [addr_block]; omega)
                go_simp
                try with_reducible rfl
              case qzz35 => exact fun _ _ _ h => h
              case szz35 => first | assumption | trivial
              case' rzz35 => simp only [Act.put, List.setIfInBounds_toArray, List.set_cons_zero, List.set_cons_succ]
              refine wpAnyL_take (i := 5) (oi := ?ozz36) (v := ?vzz36) ?hzz36 ?azz36 ?bzz36 ?czz36 ?kzz36 ?qzz36 ?yzz36 ?szz36 ?rzz36
              case hzz36 => simp only [List.getElem?_toArray, List.getElem?_cons_zero, List.getElem?_cons_succ]; rfl
              case azz36 => kernel_rfl
              case bzz36 => kernel_rfl
              case czz36 => kernel_rfl
              case kzz36 => kernel_rfl
              case yzz36 =>
                refine Or.inl ⟨by rfl, ?_⟩
                intro w hSw
                have s0 := box_b hSw b1 (by simp only; omega)
                have s1 := box_b hSw y0 (by rw [addr_block]; omega)
                have s2 := box_b hSw y1 (by simp only [addr_block]; omega)
                go_simp
                try with_reducible rfl
              case qzz36 => exact fun _ _ _ h => h
              case szz36 => first | assumption | trivial
              case' rzz36 => simp only [Act.put, List.setIfInBounds_toArray, List.set_cons_zero, List.set_cons_succ]
              refine wpAnyL_take (i := 6) (oi := ?ozz37) (v := ?vzz37) ?hzz37 ?azz37 ?bzz37 ?czz37 ?kzz37 ?qzz37 ?yzz37 ?szz37 ?rzz37
              case hzz37 => simp only [List.getElem?_toArray, List.getElem?_cons_zero, List.getElem?_cons_succ]; rfl
              case azz37 => kernel_rfl
              case bzz37 => kernel_rfl
              case czz37 => kernel_rfl
              case kzz37 => kernel_rfl
              case yzz37 =>
                refine Or.inl ⟨by rfl, ?_⟩
                intro w hSw
                have s0 := box_b hSw b1 (by simp only; omega)
                have s1 := box_b hSw y0 (by rw [addr_block]; omega)
                have s2 := box_b hSw y1 (by simp only [addr_block]; omega)
                go_simp
                try with_reducible rfl
              case qzz37 => exact fun _ _ _ h => h
              case szz37 => first | assumption | trivial
              case' rzz37 => simp only [Act.put, List.setIfInBounds_toArray, List.set_cons_zero, List.set_cons_succ]
              refine wpAnyL_take (i := 7) (oi := ?ozz38) (v := ?vzz38) ?hzz38 ?azz38 ?bzz38 ?czz38 ?kzz38 ?qzz38 ?yzz38 ?szz38 ?rzz38
              case hzz38 => simp only [List.getElem?_toArray, List.getElem?_cons_zero, List.getElem?_cons_succ]; rfl
              case azz38 => kernel_rfl
              case bzz38 => kernel_rfl
              case czz38 => kernel_rfl
              case kzz38 => kernel_rfl
              case yzz38 =>
                refine Or.inl ⟨by rfl, ?_⟩
                intro w hSw
                have s0 := box_b hSw b1 (by simp only; omega)
                have s1 := box_b hSw y0 (by rw [addr_block]; omega)
                have s2 := box_b hSw y1 (by simp only [addr_block]; omega)
                go_simp
                try with_reducible rfl
              case qzz38 => exact fun _ _ _ h => h
              case szz38 => first | assumption | trivial
              case' rzz38 => simp only [Act.put, List.setIfInBounds_toArray, List.set_cons_zero, List.set_cons_succ]
              refine wpAnyL_take (i := 8) (oi := ?ozz39) (v := ?vzz39) ?hzz39 ?azz39 ?bzz39 ?czz39 ?kzz39 ?qzz39 ?yzz39 ?szz39 ?rzz39
              case hzz39 => simp only [List.getElem?_toArray, List.getElem?_cons_zero, List.getElem?_cons_succ]; rfl
              case azz39 => kernel_rfl
              case bzz39 => kernel_rfl
              case czz39 => kernel_rfl
              case kzz39 => kernel_rfl
              case yzz39 =>
                refine Or.inl ⟨by rfl, ?_⟩
                intro w hSw
                have s0 := box_b hSw b1 (by simp only; omega)
                have s1 := box_b hSw y0 (by rw [addr_block]; omega)
                have s2 := box_b hSw y1 (by simp only [addr_block]; omega)
                go_simp
                try with_reducible rfl
              case qzz39 => exact fun _ _ _ h => h
              case szz39 => first | assumption | trivial
              case' rzz39 => simp only [Act.put, List.setIfInBounds_toArray, List.set_cons_zero, List.set_cons_succ]
              refine wpAnyL_take (i := 9) (oi := ?ozz40) (v := ?vzz40) ?hzz40 ?azz40 ?bzz40 ?czz40 ?kzz40 ?qzz40 ?yzz40 ?szz40 ?rzz40
              case hzz40 => simp only [List.getElem?_toArray, List.getElem?_cons_zero, List.getElem?_cons_succ]; rfl
              case azz40 => kernel_rfl
              case bzz40 => kernel_rfl
              case czz40 => kernel_rfl
              case kzz40 => kernel_rfl
              case yzz40 =>
                refine Or.inl ⟨by rfl, ?_⟩
                intro w hSw
                have s0 := box_b hSw b1 (by simp only; omega)
                have s1 := box_b hSw y0 (by rw [addr_block]; omega)
                have s2 := box_b hSw y1 (by simp only [addr_block]; omega)
                go_simp
                try with_reducible rfl
              case qzz40 => exact fun _ _ _ h => h
              case szz40 => first | assumption | trivial
              case' rzz40 => simp only [Act.put, List.setIfInBounds_toArray, List.set_cons_zero, List.set_cons_succ]
              refine wpAnyL_ready (rs := [10]) (by kernel_rfl) (by simp) ?_
              refine AllReadyL.cons (o := ?ozz44) ?hzz44 (fun K hK => ?kzz44) ?mzz44
              case hzz44 => simp only [List.getElem?_toArray, List.getElem?_cons_zero, List.getElem?_cons_succ]; rfl
              case kzz44 =>
                go_simp
                refine hK.out _ _ ?Szz44 (fun hHeld => ?Rzz44)
                case Szz44 =>
                  first | exact ((Below.refl _ _).drew).alloc (by have := X.out.l; simp only [World.size_drew]; omega) _ | exact ((Below.refl _ _).alloc (by have := X.out.l; omega) _).drew
                case Rzz44 =>
                  clear hK K
                  try simp only [Act.put, List.setIfInBounds_toArray, List.set_cons_zero, List.set_cons_succ]
                  refine wpAnyL_ready (rs := [11]) (by kernel_rfl) (by simp) ?_
                  refine AllReadyL.cons (o := ?ozz43) ?hzz43 (fun K hK => ?kzz43) ?mzz43
                  case hzz43 => simp only [List.getElem?_toArray, List.getElem?_cons_zero, List.getElem?_cons_succ]; rfl
                  case kzz43 =>
                    refine step_appKG pairK (by rfl) _ _ _ rfl (by rfl) (w.heap.size + 1 + 1) B st.length d st (by rfl) (X.out.step (((Q.refl wr).alloc (.cells #[.string Ka, .string ⟨#[103]⟩] 99)).drew)).o2 (some ⟨wr.heap.size, 0, none⟩) 1 1 [⟨Ka, ⟨#[103]⟩⟩] (by rfl) (by have := (lit_pair wr ⟨Ka, ⟨#[103]⟩⟩).q (Q.refl _).drew; simpa using this) (fun e => by cases e) (by show (st.length + 1) * 32 ≤ _; omega) (X.out.step (((Q.refl wr).alloc (.cells #[.string Ka, .string ⟨#[103]⟩] 99)).drew)).l ?_
                    intro A6 c6 w6 o6 g6 t6
                    refine hK.out _ _ ?Szz43 (fun hHeld => ?Rzz43)
                    case Szz43 =>
                      exact (((Below.refl _ wr).alloc (by have := X.out.l; omega) (.cells #[.string Ka, .string ⟨#[103]⟩] 99)).drew).trans (grown_below (X.out.step (((Q.refl wr).alloc (.cells #[.string Ka, .string ⟨#[103]⟩] 99)).drew)).o2 g6 (X.out.step (((Q.refl wr).alloc (.cells #[.string Ka, .string ⟨#[103]⟩] 99)).drew)).l)
                    case Rzz43 =>
                      clear hK K
                      try simp only [Act.put, List.setIfInBounds_toArray, List.set_cons_zero, List.set_cons_succ]
                      refine wpAnyL_take (i := 12) (oi := ?ozz41) (v := ?vzz41) ?hzz41 ?azz41 ?bzz41 ?czz41 ?kzz41 ?qzz41 ?yzz41 ?szz41 ?rzz41
                      case hzz41 => simp only [List.getElem?_toArray, List.getElem?_cons_zero, List.getElem?_cons_succ]; rfl
                      case azz41 => kernel_rfl
                      case bzz41 => kernel_rfl
                      case czz41 => kernel_rfl
                      case kzz41 => kernel_rfl
                      case yzz41 =>
                        refine Or.inl ⟨by rfl, ?_⟩
                        intro w hSw
                        skip
                        go_simp
                        try with_reducible rfl
                      case qzz41 => exact fun _ _ _ h => h
                      case szz41 => first | assumption | trivial
                      case' rzz41 => simp only [Act.put, List.setIfInBounds_toArray, List.set_cons_zero, List.set_cons_succ]
                      refine wpAnyL_ready (rs := [13]) (by kernel_rfl) (by simp) ?_
                      refine AllReadyL.consK (o := ?ozz42) ?hzz42 ?lzz42 (fun K hK => ?kzz42) ?mzz42
                      case hzz42 => simp only [List.getElem?_toArray, List.getElem?_cons_zero, List.getElem?_cons_succ]; rfl
                      case lzz42 => kernel_rfl
                      case kzz42 =>
                        obtain ⟨⟨p0, p1⟩, p2, p3⟩ := ((X.out.step (((Q.refl wr).alloc (.cells #[.string Ka, .string ⟨#[103]⟩] 99)).drew)).bb.below (grown_below (X.out.step (((Q.refl wr).alloc (.cells #[.string Ka, .string ⟨#[103]⟩] 99)).drew)).o2 g6 (X.out.step (((Q.refl wr).alloc (.cells #[.string Ka, .string ⟨#[103]⟩] 99)).drew)).l) (by omega)).get2
                        go_simp
                        refine hK.out _ _ ?Rzz42
                        case Rzz42 =>
                          clear hK K
                          try simp only [Act.put, List.setIfInBounds_toArray, List.set_cons_zero, List.set_cons_succ]
                          refine wpAnyH_done (by kernel_rfl) ?_ _
                          have X9 := Lib.hid ((X.out.step (((Q.refl wr).alloc (.cells #[.string Ka, .string ⟨#[103]⟩] 99)).drew)).setToks o6 g6 t6)
                          go_wp2
                          go_roundw
                          case rel => exact ⟨j + 1, sd, st ++ [⟨Ka, ⟨#[103]⟩⟩], A, c, A6, c6, by omega, by go_num, by rw [List.length_append]; exact X9.out, HN.out, by rw [List.length_append]; show sd.length + (st.length + 1) = _; omega⟩
                          case measure => simp [intOf]; omega
                      case' mzz42 => skip
                      exact AllReadyL.nil
                  case' mzz43 => skip
                  exact AllReadyL.nil
              case' mzz44 => skip
              exact AllReadyL.nil
            · have HB := Lib.hid (hbn.out (HA.out.trans (by rw [Bm.step_n (s := ⟨sd, st⟩) (p := ⟨a, b⟩) (fun h => by have := h.1; simp only at this; rw [i1] at this; cases this) (fun h => by have := h.2; simp only at this; rw [Bm.cg_no hc hg] at this; cases this)])))
              have hc1 : (b.toList == (⟨#[99]⟩ : ByteArray).toList) = false := by rw [same_str]; simpa using hc
              have hg1 : (b.toList == (⟨#[103]⟩ : ByteArray).toList) = false := by rw [same_str]; simpa using hg
              have hc2 : (b.toList == [99]) = false := by rw [show (⟨#[99]⟩ : ByteArray).toList = [99] by rw [ByteArray.toList_eq]] at hc1; exact hc1
              have hg2 : (b.toList == [103]) = false := by rw [show (⟨#[103]⟩ : ByteArray).toList = [103] by rw [ByteArray.toList_eq]] at hg1; exact hg1
              clear ha ht HA hc hg i1 i2 HE hz ha1
              obtain ⟨⟨p0, p1⟩, p2, p3⟩ := X.out.res.get2
              obtain ⟨⟨b0, b1⟩, b2, b3⟩ := X.out.bb.get2
              go_wp2
              obtain ⟨⟨r0, r1⟩, _⟩ := (X.out.res.set2 (.slice none 0 0) (.slice none 0 0)).get2
              refine bodyPost_ret (v := .tuple #[staV none 0 0 none 0 0, .int .i64 3]) (by simp [results, Try.results29, go_sem, r0, r1]) rfl ?_
              rw [HB.out]
              exact ⟨none, 0, none, 0, rfl, OwnK.nil_ _ _ _, OwnK.nil_ _ _ _, X.out.q.set2 (Nat.le_refl _) _ _⟩
        · rw [show (116 : UInt8).toNat = 116 from rfl, decide_eq_false ht] at i2
          have f3 : ((a[0]'hpos).toNat != 116) = true := by simpa using ht
          have f4 : (((a[0]'hpos).toNat : Int) != 116) = true := by simp; omega
          have HB := Lib.hid (hbn.out (HA.out.trans (by rw [Bm.step_n (s := ⟨sd, st⟩) (p := ⟨a, b⟩) (fun h => by have := h.1; simp only at this; rw [i1] at this; cases this) (fun h => by have := h.1; simp only at this; rw [i2] at this; cases this)])))
          clear ha ht HA i1 i2 HE hz ha1
          obtain ⟨⟨p0, p1⟩, p2, p3⟩ := X.out.res.get2
          obtain ⟨⟨b0, b1⟩, b2, b3⟩ := X.out.bb.get2
          go_wp2
          obtain ⟨⟨r0, r1⟩, _⟩ := (X.out.res.set2 (.slice none 0 0) (.slice none 0 0)).get2
          refine bodyPost_ret (v := .tuple #[staV none 0 0 none 0 0, .int .i64 3]) (by simp [results, Try.results29, go_sem, r0, r1]) rfl ?_
          rw [HB.out]
          exact ⟨none, 0, none, 0, rfl, OwnK.nil_ _ _ _, OwnK.nil_ _ _ _, X.out.q.set2 (Nat.le_refl _) _ _⟩
    · have hjn : ¬((j : Int) < (n : Int)) := by omega
      have HB := Lib.hid (hbs.out ⟨sd, st⟩ (HT.out.trans (by rw [List.drop_of_length_le (by have := HL.out; omega)]; rfl)))
      obtain ⟨⟨b0, b1⟩, b2, b3⟩ := X.out.bb.get2
      obtain ⟨⟨p0, p1⟩, p2, p3⟩ := X.out.res.get2
      go_wp2
      obtain ⟨⟨r0, r1⟩, _⟩ := (X.out.res.set2 (.slice A sd.length c) (.slice B st.length d)).get2
      refine bodyPost_ret (v := .tuple #[staV A sd.length c B st.length d, .int .i64 0]) (by simp [results, Try.results29, go_sem, r0, r1]) rfl ?_
      rw [HB.out]
      exact ⟨A, c, B, d, rfl, (X.out.o1.set2 (b := w.heap.size) (by omega) _ _).lower (by omega), (X.out.o2.set2 (b := w.heap.size) (by omega) _ _).lower (by omega), X.out.q.set2 (Nat.le_refl _) _ _⟩
end Go.Proofs.Ytlbjobbmjccekaa

/- Contracts: slices.Equal of pairs; batch.data, toks, Same; the document's Same. -/
namespace Go.Proofs.Ytlbjobbmjccekaa
set_option maxRecDepth 100000
open Go.RowKit Prm
set_option linter.unusedVariables false
set_option linter.unusedSimpArgs false

set_option maxHeartbeats 1000000 in
theorem equalPairs (A B : Option Addr) (n c m d : Nat) (l l2 : List Pr) (w : World) (h1 : Lst pairK w A n l) (h2 : Lst pairK w B m l2) (hn : n ≤ maxLen) (hm : m ≤ maxLen) :
    Calls Try.prog 56 #[.slice A n c, .slice B m d] w fun e w' => e = .returned (.bool (decide (l = l2))) ∧ Q w w' := by
  unfold maxLen at hn hm
  have H1 := Lib.hid h1
  have H2 := Lib.hid h2
  have L1 := Lib.hid h1.len
  have L2 := Lib.hid h2.len
  clear h1 h2
  by_cases hnm : n = m
  · subst hnm
    go_enter Try.func56, Try.ntmps56
    go_wp2
    go_loopw [13] (fun i wr => ∃ k : Nat, k ≤ n ∧ i = .int .i64 k ∧ Q w wr ∧ l.take k = l2.take k) (fun i _ => n - (intOf i).toNat)
    case atStart => exact ⟨0, Nat.zero_le _, rfl, Q.refl _, by simp⟩
    case round =>
      obtain ⟨k, hk, rfl, hq, ht⟩ := hrel
      have HT := Lib.hid ht
      clear ht
      by_cases hlt : k < n
      · have k1 : k < l.length := by have := L1.out; omega
        have k2 : k < l2.length := by have := L2.out; omega
        obtain ⟨ad, rfl, hb, c0, c1⟩ := load_pair (H1.out.q hq) hlt k1
        obtain ⟨ae, rfl, he, d0, d1⟩ := load_pair (H2.out.q hq) hlt k2
        have hne := fun W => neq_pair W l[k] l2[k]
        have hkn : (k : Int) < (n : Int) := by omega
        by_cases heq : l[k] = l2[k]
        · have hd : decide (l[k] = l2[k]) = true := by simpa using heq
          have HE := Lib.hid heq
          clear heq
          go_wp2
          go_quiet (fail)
          go_wp2
          go_roundw
          case rel => exact ⟨k + 1, by omega, by go_num, hq.drewN _, by rw [List.take_succ_eq_append_getElem k1, List.take_succ_eq_append_getElem k2, HT.out, HE.out]⟩
          case measure => simp [intOf]; omega
        · have hd : decide (l[k] = l2[k]) = false := by simpa using heq
          have HE := Lib.hid heq
          clear heq
          go_wp2
          go_quiet (fail)
          go_wp2
          go_ret
          exact ⟨ret_bool (by symm; simp only [decide_eq_false_iff_not]; rintro rfl; exact HE.out rfl), hq.drewN _⟩
      · go_wp2
        go_ret
        exact ⟨ret_bool (by symm; simp only [decide_eq_true_eq]; have h1 := HT.out; rwa [List.take_of_length_le (by have := L1.out; omega), List.take_of_length_le (by have := L2.out; omega)] at h1), hq⟩
  · have n1 : ((n : Int) != (m : Int)) = true := by simp; omega
    have n2 : (n != m) = true := by simp; omega
    have n3 : (n == m) = false := by simp; omega
    have n4 : ((n : Int) == (m : Int)) = false := by simp; omega
    have n5 : ¬ (n : Int) = m := by omega
    have HN := Lib.hid hnm
    go_enter Try.func56, Try.ntmps56
    go_wp2
    go_ret
    exact ⟨ret_bool (by symm; simp only [decide_eq_false_iff_not]; rintro rfl; exact HN.out (L1.out.symm.trans L2.out)), Q.refl _⟩


theorem data_any (A B : Option Addr) (n c m d : Nat) (w : World) : Calls Try.prog 57 #[staV A n c B m d] w fun e w' => e = .returned (.slice A n c) ∧ Q w w' := by
  go_enter Try.func57, Try.ntmps57
  go_wp2
  go_ret
  exact ⟨rfl, (Q.refl _).alloc _⟩
theorem toks_any (A B : Option Addr) (n c m d : Nat) (w : World) : Calls Try.prog 58 #[staV A n c B m d] w fun e w' => e = .returned (.slice B m d) ∧ Q w w' := by
  go_enter Try.func58, Try.ntmps58
  go_wp2
  go_ret
  exact ⟨rfl, (Q.refl _).alloc _⟩

set_option maxHeartbeats 2000000 in
theorem same1_data (A B C D : Option Addr) (n c m d p q r s : Nat) (l l2 : List Pr) (g h : Nat) (w : World) (b1 : Bx w g [.slice A n c, .slice B m d]) (b2 : Bx w h [.slice C p q, .slice D r s]) (h1 : Lst pairK w A n l) (h2 : Lst pairK w C p l2) (hn : n ≤ maxLen) (hm : p ≤ maxLen) :
    Calls Try.prog 55 #[.func (.func 57) #[] #[], .pointer (some ⟨g, 0, none⟩), .pointer (some ⟨h, 0, none⟩)] w fun e w' => e = .returned (.bool (decide (l = l2))) ∧ Q w w' := by
  have KE := Lib.hid (fun W y => equalPairs A C n c p q l l2 W (h1.q y) (h2.q y) hn hm)
  obtain ⟨c0, c1⟩ := b1.get2.1
  obtain ⟨d0, d1⟩ := b2.get2.1
  clear h1 h2 b1 b2
  go_enter Try.func55, Try.ntmps55
  go_wp2
  go_region_held3 (fun w' => w'.cell? ⟨g, 0, none⟩ = some (.slice A n c) ∧ w'.cell? ⟨g, 1, none⟩ = some (.slice B m d) ∧ w'.cell? ⟨h, 0, none⟩ = some (.slice C p q) ∧ w'.cell? ⟨h, 1, none⟩ = some (.slice D r s))
    (first
      | go_keep
      | (go_split_ands
         (repeat' apply And.intro) <;> exact box_ ‹Q _ _› (by assumption)))
    (first
      | (go_at_call 57
         (with_reducible refine (data_any A B n c m d _).mono ?_)
         rintro e w3 ⟨rfl, y3⟩)
      | (go_at_call 57
         (with_reducible refine (data_any C D p q r s _).mono ?_)
         rintro e w4 ⟨rfl, y4⟩)
      | (go_at_call 56
         refine (KE.out _ (((Q.refl w).drew.trans y3).trans y4)).mono ?_
         rintro e w5 ⟨rfl, y5⟩))
  have HY := Lib.hid ((((Q.refl w).drew.trans y3).trans y4).trans y5)
  clear y3 y4 y5
  go_wp2
  go_ret
  exact ⟨rfl, HY.out⟩

set_option maxHeartbeats 2000000 in
theorem same1_toks (A B C D : Option Addr) (n c m d p q r s : Nat) (l l2 : List Pr) (g h : Nat) (w : World) (b1 : Bx w g [.slice A n c, .slice B m d]) (b2 : Bx w h [.slice C p q, .slice D r s]) (h1 : Lst pairK w B m l) (h2 : Lst pairK w D r l2) (hn : m ≤ maxLen) (hm : r ≤ maxLen) :
    Calls Try.prog 55 #[.func (.func 58) #[] #[], .pointer (some ⟨g, 0, none⟩), .pointer (some ⟨h, 0, none⟩)] w fun e w' => e = .returned (.bool (decide (l = l2))) ∧ Q w w' := by
  have KE := Lib.hid (fun W y => equalPairs B D m d r s l l2 W (h1.q y) (h2.q y) hn hm)
  obtain ⟨c0, c1⟩ := b1.get2.1
  obtain ⟨d0, d1⟩ := b2.get2.1
  clear h1 h2 b1 b2
  go_enter Try.func55, Try.ntmps55
  go_wp2
  go_region_held3 (fun w' => w'.cell? ⟨g, 0, none⟩ = some (.slice A n c) ∧ w'.cell? ⟨g, 1, none⟩ = some (.slice B m d) ∧ w'.cell? ⟨h, 0, none⟩ = some (.slice C p q) ∧ w'.cell? ⟨h, 1, none⟩ = some (.slice D r s))
    (first
      | go_keep
      | (go_split_ands
         (repeat' apply And.intro) <;> exact box_ ‹Q _ _› (by assumption)))
    (first
      | (go_at_call 58
         (with_reducible refine (toks_any A B n c m d _).mono ?_)
         rintro e w3 ⟨rfl, y3⟩)
      | (go_at_call 58
         (with_reducible refine (toks_any C D p q r s _).mono ?_)
         rintro e w4 ⟨rfl, y4⟩)
      | (go_at_call 56
         refine (KE.out _ (((Q.refl w).drew.trans y3).trans y4)).mono ?_
         rintro e w5 ⟨rfl, y5⟩))
  have HY := Lib.hid ((((Q.refl w).drew.trans y3).trans y4).trans y5)
  clear y3 y4 y5
  go_wp2
  go_ret
  exact ⟨rfl, HY.out⟩

set_option maxHeartbeats 2000000 in
theorem bsame_any (A B C D : Option Addr) (n c m d p q r s : Nat) (x y : Bm.Sta) (w : World) (h1 : In_ pairK w A n c x.data) (h2 : In_ pairK w B m d x.toks) (h3 : In_ pairK w C p q y.data) (h4 : In_ pairK w D r s y.toks) :
    Calls Try.prog 24 #[staV A n c B m d, staV C p q D r s] w fun e w' => e = .returned (.bool (decide (x = y))) ∧ Q w w' := by
  obtain ⟨xd, xt⟩ := x
  obtain ⟨yd, yt⟩ := y
  simp only at h1 h2 h3 h4
  have KD := Lib.hid (fun W z b1 b2 => same1_data A B C D n c m d p q r s xd yd w.heap.size (w.heap.size + 1) W b1 b2 (h1.lst.q z) (h3.lst.q z) h1.max h3.max)
  have KT := Lib.hid (fun W z b1 b2 => same1_toks A B C D n c m d p q r s xt yt w.heap.size (w.heap.size + 1) W b1 b2 (h2.lst.q z) (h4.lst.q z) h2.max h4.max)
  have hE : decide (Bm.Sta.mk xd xt = ⟨yd, yt⟩) = (decide (xd = yd) && decide (xt = yt)) := by
    by_cases e1 : xd = yd <;> by_cases e2 : xt = yt <;> simp [e1, e2]
  have HE := Lib.hid hE
  clear h1 h2 h3 h4 hE
  generalize decide (Bm.Sta.mk xd xt = ⟨yd, yt⟩) = R at HE ⊢
  generalize decide (xd = yd) = r1 at KD HE
  generalize decide (xt = yt) = r2 at KT HE
  go_enter Try.func24, Try.ntmps24
  go_upto_region 1 with (fail)
  have X : Hid (Bx ((w.alloc (.cells #[.slice A n c, .slice B m d] 40)).alloc (.cells #[.slice C p q, .slice D r s] 40)) w.heap.size [.slice A n c, .slice B m d] ∧
      Bx ((w.alloc (.cells #[.slice A n c, .slice B m d] 40)).alloc (.cells #[.slice C p q, .slice D r s] 40)) (w.heap.size + 1) [.slice C p q, .slice D r s] ∧
      Q w ((w.alloc (.cells #[.slice A n c, .slice B m d] 40)).alloc (.cells #[.slice C p q, .slice D r s] 40))) := by
    refine Lib.hid ⟨(Bx.new w [.slice A n c, .slice B m d] 40).alloc _, ?_, ((Q.refl w).alloc _).alloc _⟩
    have := Bx.new (w.alloc (.cells #[.slice A n c, .slice B m d] 40)) [.slice C p q, .slice D r s] 40
    simpa using this
  generalize ((w.alloc (.cells #[.slice A n c, .slice B m d] 40)).alloc (.cells #[.slice C p q, .slice D r s] 40)) = w2 at X ⊢
  cases r1 with
  | false =>
    go_wp2_with fail
    refine (KD.out _ X.out.2.2 X.out.1 X.out.2.1).mono ?_
    rintro e w3 ⟨rfl, y3⟩
    have Y3 := Lib.hid (X.out.2.2.trans y3)
    clear y3
    go_wp2_with fail
    go_ret
    exact ⟨ret_bool (by rw [HE.out]; rfl), Y3.out⟩
  | true =>
    go_wp2_with fail
    refine (KD.out _ X.out.2.2 X.out.1 X.out.2.1).mono ?_
    rintro e w3 ⟨rfl, y3⟩
    have Y3 := Lib.hid (And.intro (X.out.2.2.trans y3) (And.intro (X.out.1.q y3) (X.out.2.1.q y3)))
    clear y3
    go_wp2_with fail
    refine (KT.out _ Y3.out.1 Y3.out.2.1 Y3.out.2.2).mono ?_
    rintro e w4 ⟨rfl, y4⟩
    have Y4 := Lib.hid (Y3.out.1.trans y4)
    clear y4
    cases r2
    all_goals
      go_wp2_with fail
      go_ret
      exact ⟨ret_bool (by rw [HE.out]; rfl), Y4.out⟩

set_option maxHeartbeats 2000000 in
theorem refSameS_any (A B C D : Option Addr) (n c m d p q r s : Nat) (x y : Bm.Sta) (w : World) (h1 : In_ pairK w A n c x.data) (h2 : In_ pairK w B m d x.toks) (h3 : In_ pairK w C p q y.data) (h4 : In_ pairK w D r s y.toks) :
    Calls Try.prog 21 #[staV A n c B m d, staV C p q D r s] w fun e w' => e = .returned (.bool (decide (x = y))) ∧ Q w w' := by
  obtain ⟨xd, xt⟩ := x
  obtain ⟨yd, yt⟩ := y
  simp only at h1 h2 h3 h4
  have KD := Lib.hid (fun W z => refSame_any A C n c p q xd yd W (h1.lst.q z) (h3.lst.q z) h1.max h3.max)
  have KT := Lib.hid (fun W z => refSame_any B D m d r s xt yt W (h2.lst.q z) (h4.lst.q z) h2.max h4.max)
  have hE : decide (Bm.Sta.mk xd xt = ⟨yd, yt⟩) = (decide (xd = yd) && decide (xt = yt)) := by
    by_cases e1 : xd = yd <;> by_cases e2 : xt = yt <;> simp [e1, e2]
  have HE := Lib.hid hE
  clear h1 h2 h3 h4 hE
  generalize decide (Bm.Sta.mk xd xt = ⟨yd, yt⟩) = R at HE ⊢
  generalize decide (xd = yd) = r1 at KD HE
  generalize decide (xt = yt) = r2 at KT HE
  go_enter Try.func21, Try.ntmps21
  go_upto_region 1 with (fail)
  have X : Hid (Bx ((w.alloc (.cells #[.slice A n c, .slice B m d] 40)).alloc (.cells #[.slice C p q, .slice D r s] 40)) w.heap.size [.slice A n c, .slice B m d] ∧
      Bx ((w.alloc (.cells #[.slice A n c, .slice B m d] 40)).alloc (.cells #[.slice C p q, .slice D r s] 40)) (w.heap.size + 1) [.slice C p q, .slice D r s] ∧
      Q w ((w.alloc (.cells #[.slice A n c, .slice B m d] 40)).alloc (.cells #[.slice C p q, .slice D r s] 40))) := by
    refine Lib.hid ⟨(Bx.new w [.slice A n c, .slice B m d] 40).alloc _, ?_, ((Q.refl w).alloc _).alloc _⟩
    have := Bx.new (w.alloc (.cells #[.slice A n c, .slice B m d] 40)) [.slice C p q, .slice D r s] 40
    simpa using this
  generalize ((w.alloc (.cells #[.slice A n c, .slice B m d] 40)).alloc (.cells #[.slice C p q, .slice D r s] 40)) = w2 at X ⊢
  obtain ⟨c0, c1⟩ := X.out.1.get2.1
  obtain ⟨d0, d1⟩ := X.out.2.1.get2.1
  cases r1 with
  | false =>
    go_wp2_with fail
    refine (KD.out _ X.out.2.2).mono ?_
    rintro e w3 ⟨rfl, y3⟩
    have Y3 := Lib.hid (X.out.2.2.trans y3)
    clear y3
    go_wp2_with fail
    go_ret
    exact ⟨ret_bool (by rw [HE.out]; rfl), Y3.out⟩
  | true =>
    go_wp2_with fail
    refine (KD.out _ X.out.2.2).mono ?_
    rintro e w3 ⟨rfl, y3⟩
    have Y3 := Lib.hid (And.intro (X.out.2.2.trans y3) (And.intro (X.out.1.q y3) (X.out.2.1.q y3)))
    clear y3 c0 c1 d0 d1
    obtain ⟨c0, c1⟩ := Y3.out.2.1.get2.1
    obtain ⟨d0, d1⟩ := Y3.out.2.2.get2.1
    go_wp2_with fail
    refine (KT.out _ Y3.out.1).mono ?_
    rintro e w4 ⟨rfl, y4⟩
    have Y4 := Lib.hid (Y3.out.1.trans y4)
    clear y4
    cases r2
    all_goals
      go_wp2_with fail
      go_ret
      exact ⟨ret_bool (by rw [HE.out]; rfl), Y4.out⟩
end Go.Proofs.Ytlbjobbmjccekaa

/- What a law's arguments read as, where their bulk is bounded; a walk under that reading gives what the row asks. -/
namespace Go.Proofs.Ytlbjobbmjccekaa
set_option maxRecDepth 100000
open Go.ChangeShapes Go.WideShapes Go.ChangeAt Go.RowKit
set_option linter.unusedVariables false

/-- the cells cs read as something of type t of a bulk of at most 2^20. -/
def RdU (w : World) (t : TypeId) (cs : List Value) : Prop :=
  ∃ (H : Type) (enc : TypeId × Value → H) (n : Nat) (d : DataW H) (ps : List MemPlace), DataW.trod enc Try.prog w 0 (fun _ => true) true n t cs = some (d, ps) ∧ Rows.uptoBulk d ≤ 1048576
theorem bulk_one {H : Type} (d : DataW H) : 1 ≤ Rows.uptoBulk d := by
  cases d with
  | lit l => cases l <;> simp [Rows.uptoBulk]
  | nil => simp [Rows.uptoBulk]
  | ptr d => simp [Rows.uptoBulk]
  | slice elems spare => simp [Rows.uptoBulk]
  | agg parts => simp [Rows.uptoBulk]
  | iface t d => simp [Rows.uptoBulk]
  | map entries => simp [Rows.uptoBulk]
  | held h => simp [Rows.uptoBulk]
theorem bulk_part {H : Type} {d : DataW H} {l : List (DataW H)} (h : d ∈ l) : Rows.uptoBulk d ≤ Rows.uptoBulkAll l := by
  induction l with
  | nil => cases h
  | cons x r ih =>
    simp only [Rows.uptoBulkAll]
    cases List.mem_cons.1 h with
    | inl e => subst e; omega
    | inr e => have := ih e; omega
theorem bulk_len {H : Type} (l : List (DataW H)) : l.length ≤ Rows.uptoBulkAll l := by
  induction l with
  | nil => simp [Rows.uptoBulkAll]
  | cons x r ih => have := bulk_one x; simp only [Rows.uptoBulkAll, List.length_cons]; omega
theorem RdU.string {w : World} {t : TypeId} {s : ByteArray} (h : RdU w t [.string s]) (ht : Try.prog.underlying t = some .string) : s.size ≤ 1048576 := by
  obtain ⟨H, enc, n, d, ps, ht', hw⟩ := h
  obtain ⟨s', e, hx, hm⟩ := DataW.trod_string ht ht'
  injection hx with h1 h2
  subst h1
  simp only [List.cons.injEq, Value.string.injEq, and_true] at e
  subst e
  simp only [Rows.uptoBulk] at hw
  have : s.data.toList.length = s.size := by simp
  omega
theorem RdU.field {w : World} {t : TypeId} {cs : List Value} {fs : Array Field} (h : RdU w t cs) (ht : Try.prog.underlying t = some (.struct fs)) (i : Nat) {ty : TypeId} (off k : Nat) (hi : (fs[i]?).map (fun f => (f.type, f.offset)) = some (ty, off)) (hk : Try.prog.cellsOf ty = k) :
    RdU w ty ((cs.drop off).take k) := by
  obtain ⟨f, hf, he⟩ := Option.map_eq_some_iff.1 hi
  injection he with e1 e2
  subst e1 e2 hk
  obtain ⟨H, enc, n, d, ps, ht', hw⟩ := h
  obtain ⟨xs, m, rfl, hx, hl, hlen, hg⟩ := DataW.trod_struct ht ht'
  injection hx with h1 h2
  subst h1
  have hil : i < fs.size := (Array.getElem?_eq_some_iff.1 hf).1
  have hxi : xs[i]? = some xs[i] := List.getElem?_eq_getElem (by omega)
  refine ⟨H, enc, m, xs[i].1, xs[i].2, (hg i f hf).trans hxi, ?_⟩
  simp only [Rows.uptoBulk] at hw
  have := bulk_part (l := xs.map (·.1)) (List.mem_map.2 ⟨xs[i], List.getElem_mem _, rfl⟩)
  omega
theorem RdU.slice {w : World} {t e : TypeId} {a : Addr} {len cap : Nat} (h : RdU w t [.slice (some a) len cap]) (ht : Try.prog.underlying t = some (.slice e)) :
    cap ≤ 1048576 ∧ ∀ i, i < cap → ∃ cs', w.cells? 0 (a.add (i * Try.prog.cellsOf e)) (Try.prog.cellsOf e) = some cs' ∧ RdU w e cs' := by
  obtain ⟨H, enc, n, d, ps, ht', hw⟩ := h
  rcases Deep.open_slice ht ht' with ⟨h0, _⟩ | ⟨a', len', cap', m, n', D, Pl, hcs, hb, hl, hm, hmm, hx, hi⟩
  · simp at h0
  · simp only [List.cons.injEq, Value.slice.injEq, Option.some.injEq, and_true] at hcs
    obtain ⟨rfl, rfl, rfl⟩ := hcs
    simp only [if_true] at hmm
    subst hmm
    injection hx with h1 h2
    subst h1
    simp only [Rows.uptoBulk] at hw
    have l1 := bulk_len ((List.range len).map D)
    have l2 := bulk_len ((List.range (m - len)).map fun i => D (len + i))
    refine ⟨by simp only [List.length_map, List.length_range] at l1 l2; omega, fun i hi' => ?_⟩
    obtain ⟨cs', hc, htr⟩ := hi i hi'
    refine ⟨cs', hc, H, enc, n', D i, Pl i, htr, ?_⟩
    by_cases hlt : i < len
    · have := bulk_part (l := (List.range len).map D) (List.mem_map.2 ⟨i, by simpa using hlt, rfl⟩)
      omega
    · have := bulk_part (d := D i) (l := (List.range (m - len)).map fun i => D (len + i)) (List.mem_map.2 ⟨i - len, by simp; omega, by rw [show len + (i - len) = i by omega]⟩)
      omega

theorem RdU.cap {w : World} {t e : TypeId} {a : Addr} {len cap : Nat} (h : RdU w t [.slice (some a) len cap]) (ht : Try.prog.underlying t = some (.slice e)) : cap ≤ 1048576 := (h.slice ht).1
/-- A walk of a law in one world, whatever its arguments read as, gives what its row asks; 'up': its second form. -/
theorem coreU {f : FuncId} {fn : Func} {s : ChangeSpec} (up : Bool) (n : Nat) (hn : fn.params.size = n) (hvars : s.vars = []) (hrt : fn.resultTypes = #[4])
    (hread0 : fn.params.toList.all (fun t => Try.prog.readableRec t && decide (t < Try.prog.types.size)) = true)
    (hs : ∀ (H : Type) (ds : List (DataW H)), ds.length = n → (s.fn H ds).results = [.lit (.bool true)] ∧ (s.fn H ds).args = ds ∧ (s.fn H ds).vars = [])
    (H : Type) (enc : TypeId × Value → H) (W : World) (base : Nat) (args : Array Value) (ds gs : List (DataW H)) (before : List MemPlace)
    (hval : ∀ (j : Nat) t v, fn.params[j]? = some t → args[j]? = some v → Value.okWide Try.prog W .any base t v)
    (hW : DataW.Whole enc Try.prog fn.params.toList s.vars false W args.toList ds gs before)
    (hcond : up = true → Rows.uptoBulkAll (ds ++ gs) ≤ 1048576)
    (hsz : (DataW.weightsEach Try.prog (fn.params.toList ++ s.plain.varTypes Try.prog) (ds ++ gs)).all (· ≤ reachBytes) = true)
    (walk : args.size = n → (∀ (j : Nat) t v, fn.params[j]? = some t → args[j]? = some v → RdV W t v ∧ (up = true → RdU W t v.cells.toList)) → Calls Try.prog f args W fun e W' => e = .returned (.bool true) ∧ Q W W') :
    Calls Try.prog f args W fun e W' => ∃ v, e = .returned v ∧ s.post enc Try.prog fn false true false false W args v W' := by
  have hread : ∀ t ∈ fn.params.toList, Try.prog.readableRec t = true ∧ t < Try.prog.types.size := fun t ht => by
    have := List.all_eq_true.1 hread0 t ht
    simpa using this
  have hW' := hW
  have hlt : ∀ x ∈ before, x.block < W.heap.size := fun x hx => by simpa using hW.lt x hx
  obtain ⟨p, q, hA, hV, rfl, hfz, hnd⟩ := hW
  rw [hvars] at hV
  obtain ⟨rfl, rfl⟩ := trodVars_none hV
  obtain ⟨e1, e2, h3⟩ := trodAll_len _ _ _ _ hA
  have hps : fn.params.toList.length = n := by simpa using hn
  have hds : ds.length = n := by omega
  have hsz2 : ∀ x ∈ DataW.weightsEach Try.prog (fn.params.toList ++ s.plain.varTypes Try.prog) (ds ++ []), x ≤ 140737488351232 := fun x hx => by
    have := List.all_eq_true.1 hsz x hx
    simpa [reachBytes] using of_decide_eq_true this
  refine (walk (by rw [← hps, ← e1]; simp) (fun j t v hj hv => ?_)).mono fun e W' ⟨he, hg⟩ => ?_
  · obtain ⟨d, p', hd, fuel, htr⟩ := h3 j t v (by simpa using hj) (by simpa using hv)
    have hjl : j < n := by
      have := (Array.getElem?_eq_some_iff.1 hj).1; omega
    refine ⟨⟨⟨base, hval j t v hj hv⟩, H, enc, fuel, d, p', htr, fun x hx => hsz2 x (DataW.weights_mem_each (j := j) (t := t) (d := d) ?_ (by simpa using hd) x hx)⟩, fun hup => ⟨H, enc, fuel, d, p', htr, ?_⟩⟩
    · rw [List.getElem?_append_left (by omega)]
      simpa using hj
    · have h1 := hcond hup
      have h2 := bulk_part (d := d) (l := ds ++ []) (List.mem_append_left _ (List.mem_of_getElem? hd))
      omega
  · subst he
    simp only [List.append_nil] at hW' hlt
    obtain ⟨a1, a2, a3⟩ := hs H ds hds
    refine ⟨_, rfl, ds, [], p, [], p, [], hW', ?_, ?_, ?_, hg.below.frame _, fun h => by cases h⟩
    · rw [List.append_nil, a1, hrt]
      exact trodAll_mk1 (shut_bool Try.underlying4 _)
    · rw [List.append_nil, a2]
      exact trodAll_keep hg _ _ _ _ hread hA hlt
    · rw [List.append_nil, a3, hvars]
      rfl
end Go.Proofs.Ytlbjobbmjccekaa
