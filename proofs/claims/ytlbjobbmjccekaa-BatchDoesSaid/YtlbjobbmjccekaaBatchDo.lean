/- Contracts: batch.own, word, Decided, Do. -/
import Derived.Test.YtlbjobbmjccekaaBatchMay
import Derived.Test.YtlbjobbmjccekaaTable2
import Derived.Deep.RegionHeld3
import Derived.Test.YtlbjobbmjccekaaHeld
namespace Go.Proofs.Ytlbjobbmjccekaa
set_option maxRecDepth 100000
open Go.RowKit Prm
set_option linter.unusedVariables false
set_option linter.unusedSimpArgs false

abbrev staV (A : Option Addr) (n c : Nat) (B : Option Addr) (m d : Nat) : Value := .agg #[.slice A n c, .slice B m d]
theorem Bx.get2 {w : World} {b : Nat} {x y : Value} (h : Bx w b [x, y]) : (w.cell? ⟨b, 0, none⟩ = some x ∧ w.cell? ⟨b, 1, none⟩ = some y) ∧ w.frozen? ⟨b, 0, none⟩ = false ∧ w.frozen? ⟨b, 1, none⟩ = false :=
  ⟨⟨(h 0 _ rfl).1, (h 1 _ rfl).1⟩, (h 0 _ rfl).2, (h 1 _ rfl).2⟩
theorem Bx.set2 {w : World} {b : Nat} {x y : Value} (h : Bx w b [x, y]) (x' y' : Value) : Bx ((w.setCell ⟨b, 0, none⟩ x').setCell ⟨b, 1, none⟩ y') b [x', y'] :=
  (h.set (k := 0) (by simp) x').set (k := 1) (by simp) y'
theorem Bx.far2 {w : World} {b c : Nat} {vs : List Value} (h : Bx w b vs) (hc : c ≠ b) (x' y' : Value) : Bx ((w.setCell ⟨c, 0, none⟩ x').setCell ⟨c, 1, none⟩ y') b vs :=
  (h.far (p := ⟨c, 0, none⟩) hc x').far (p := ⟨c, 1, none⟩) hc y'
theorem Q.set2 {a w : World} (h : Q a w) {b : Nat} (hb : a.heap.size ≤ b) (x y : Value) : Q a ((w.setCell ⟨b, 0, none⟩ x).setCell ⟨b, 1, none⟩ y) := (h.setCell (p := ⟨b, 0, none⟩) hb x).setCell (p := ⟨b, 1, none⟩) hb y
theorem OwnK.set2 {α : Type} {K : Kind α} {w : World} {base n c : Nat} {A : Option Addr} {l : List α} (h : OwnK K w base A n c l) {b : Nat} (hp : b < base) (x y : Value) : OwnK K ((w.setCell ⟨b, 0, none⟩ x).setCell ⟨b, 1, none⟩ y) base A n c l :=
  (h.setCell (p := ⟨b, 0, none⟩) hp x).setCell (p := ⟨b, 1, none⟩) hp y

/-- a state of the call's own, told by its ending. -/
def RetSt (w : World) (s : Bm.Sta) (e : Ending) (w' : World) : Prop :=
  ∃ A c B d, e = .returned (staV A s.data.length c B s.toks.length d) ∧ OwnK pairK w' w.heap.size A s.data.length c s.data ∧ OwnK pairK w' w.heap.size B s.toks.length d s.toks ∧ Q w w'
def RetS (w : World) (s : Bm.Sta × Nat) (e : Ending) (w' : World) : Prop :=
  ∃ A c B d, e = .returned (.tuple #[staV A s.1.data.length c B s.1.toks.length d, .int .i64 (s.2 : Int)]) ∧ OwnK pairK w' w.heap.size A s.1.data.length c s.1.data ∧ OwnK pairK w' w.heap.size B s.1.toks.length d s.1.toks ∧ Q w w'

theorem word_any (k : Int) (w : World) : Calls Try.prog 51 #[.int .i64 k] w fun e w' => e = .returned (.string (Bm.word k)) ∧ w' = w := by
  by_cases h : k = 1
  · subst h
    go_enter Try.func51, Try.ntmps51
    go_wp2
    go_ret
    exact ⟨rfl, rfl⟩
  · have HW := Lib.hid (show Bm.word k = ⟨#[103]⟩ by unfold Bm.word; rw [if_neg h])
    have h' : (k == 1) = false := by simpa using h
    clear h
    go_enter Try.func51, Try.ntmps51
    go_wp2
    go_ret
    exact ⟨by rw [HW.out]; rfl, rfl⟩

set_option maxHeartbeats 2000000 in
theorem bown_any (A B : Option Addr) (n c m d : Nat) (l t : List Pr) (w : World) (hA : In_ pairK w A n c l) (hB : In_ pairK w B m d t) :
    Calls Try.prog 48 #[staV A n c B m d] w (RetSt w ⟨l, t⟩) := by
  have HA := Lib.hid (fun W q => clonePairs A n c l W (hA.q q))
  have HB := Lib.hid (fun W q => clonePairs B m d t W (hB.q q))
  have HN := Lib.hid hA.len
  have HM := Lib.hid hB.len
  clear hA hB
  go_enter Try.func48, Try.ntmps48
  go_upto_region 1 with (fail)
  have X : Hid (Bx ((w.alloc (.cells #[.slice A n c, .slice B m d] 40)).alloc (.cells #[.slice none 0 0, .slice none 0 0] 40)) w.heap.size [.slice A n c, .slice B m d] ∧
      Bx ((w.alloc (.cells #[.slice A n c, .slice B m d] 40)).alloc (.cells #[.slice none 0 0, .slice none 0 0] 40)) (w.heap.size + 1) [.slice none 0 0, .slice none 0 0] ∧
      Q w ((w.alloc (.cells #[.slice A n c, .slice B m d] 40)).alloc (.cells #[.slice none 0 0, .slice none 0 0] 40)) ∧ w.heap.size + 1 + 1 ≤ ((w.alloc (.cells #[.slice A n c, .slice B m d] 40)).alloc (.cells #[.slice none 0 0, .slice none 0 0] 40)).heap.size) := by
    refine Lib.hid ⟨(Bx.new w [.slice A n c, .slice B m d] 40).alloc _, ?_, ((Q.refl w).alloc _).alloc _, by simp⟩
    have := Bx.new (w.alloc (.cells #[.slice A n c, .slice B m d] 40)) [.slice none 0 0, .slice none 0 0] 40
    simpa using this
  generalize ((w.alloc (.cells #[.slice A n c, .slice B m d] 40)).alloc (.cells #[.slice none 0 0, .slice none 0 0] 40)) = w2 at X ⊢
  obtain ⟨⟨c0, c1⟩, _⟩ := X.out.1.get2
  go_wp2
  go_region_held3 (fun w' => w'.cell? ⟨w.heap.size, 0, none⟩ = some (.slice A n c) ∧ w'.cell? ⟨w.heap.size, 1, none⟩ = some (.slice B m d))
    (first
      | go_keep
      | (go_split_ands
         (repeat' apply And.intro) <;> exact box_ ‹Q _ _› (by assumption)))
    (first
      | (go_at_call 70
         (with_reducible refine (HA.out _ X.out.2.2.1.drew).mono ?_)
         rintro e w3 ⟨A3, c3, rfl, o3, y3⟩)
      | (go_at_call 70
         (with_reducible refine (HB.out _ (X.out.2.2.1.drew.trans y3)).mono ?_)
         rintro e w4 ⟨A4, c4, rfl, o4, y4⟩
         obtain ⟨⟨p0, p1⟩, p2, p3⟩ := (((X.out.2.1.q (Q.refl _).drew).q y3).q y4).get2))
  have HO3 := Lib.hid (o3.q y4)
  have HO4 := Lib.hid o4
  have HY := Lib.hid ((X.out.2.2.1.drew.trans y3).trans y4)
  have HR := Lib.hid ((((X.out.2.1.q (Q.refl _).drew).q y3).q y4).set2 (.slice A3 n c3) (.slice A4 m c4))
  have HS := Lib.hid (show w.heap.size + 1 + 1 ≤ w3.heap.size from Nat.le_trans X.out.2.2.2 y3.size)
  clear o3 o4 y3 y4
  obtain ⟨⟨r0, r1⟩, _⟩ := HR.out.get2
  go_wp2
  refine bodyPost_ret (v := staV A3 n c3 A4 m c4) (by simp [results, Try.results48, go_sem, r0, r1]) rfl ?_
  refine ⟨A3, c3, A4, c4, by rw [HN.out, HM.out], ?_, ?_, HY.out.set2 (by omega) _ _⟩
  · rw [HN.out]; exact (HO3.out.set2 (b := w.heap.size + 1) (by have := X.out.2.2.2; simp only [World.size_drew]; omega) _ _).lower (by have := X.out.2.2.2; simp only [World.size_drew]; omega)
  · rw [HM.out]; exact (HO4.out.set2 (b := w.heap.size + 1) (by have := HS.out; omega) _ _).lower (by have := HS.out; omega)

theorem decided_any (tok : ByteArray) (A B : Option Addr) (n c m d : Nat) (t : List Pr) (w : World) (hB : Lst pairK w B m t) (hm : m ≤ maxLen) :
    Calls Try.prog 22 #[staV A n c B m d, .string tok] w fun e w' => e = .returned (.tuple #[.string (find tok t).1, .bool (find tok t).2]) ∧ Q w w' := by
  have K := Lib.hid (fun W q => tfind_any tok B m d t W (hB.q q) hm)
  clear hB
  go_enter Try.func22, Try.ntmps22
  go_wp2_with fail
  refine (K.out _ ((Q.refl _).alloc _)).mono ?_
  rintro e w1 ⟨rfl, q1⟩
  have Q1 := Lib.hid (((Q.refl w).alloc _).trans q1)
  clear q1
  go_wp2
  go_ret2
  exact ⟨rfl, Q1.out⟩

/-- where Do stands. -/
structure Ds (w : World) (A : Option Addr) (n c : Nat) (B : Option Addr) (m d : Nat) (k : Int) (tok : ByteArray) (C : Option Addr) (p q : Nat) (wi : World) : Prop where
  b1 : Bx wi w.heap.size [.slice A n c, .slice B m d]
  b2 : Bx wi (w.heap.size + 1) [.int .i64 k, .string tok, .slice C p q]
  b3 : Bx wi (w.heap.size + 1 + 1) [.slice none 0 0, .slice none 0 0]
  q : Q w wi
  l : w.heap.size + 1 + 1 + 1 ≤ wi.heap.size
theorem Ds.step {w wi wj : World} {A B C : Option Addr} {n c m d p q : Nat} {k : Int} {tok : ByteArray} (h : Ds w A n c B m d k tok C p q wi) (y : Q wi wj) : Ds w A n c B m d k tok C p q wj :=
  ⟨h.b1.q y, h.b2.q y, h.b3.q y, h.q.trans y, Nat.le_trans h.l y.size⟩
theorem Ds.new (w : World) (A : Option Addr) (n c : Nat) (B : Option Addr) (m d : Nat) (k : Int) (tok : ByteArray) (C : Option Addr) (p q : Nat) :
    Ds w A n c B m d k tok C p q (((w.alloc (.cells #[.slice A n c, .slice B m d] 40)).alloc (.cells #[.int .i64 k, .string tok, .slice C p q] 24)).alloc (.cells #[.slice none 0 0, .slice none 0 0] 40)) := by
  refine ⟨((Bx.new w [.slice A n c, .slice B m d] 40).alloc _).alloc _, ?_, ?_, (((Q.refl w).alloc _).alloc _).alloc _, by simp⟩
  · have := (Bx.new (w.alloc (.cells #[.slice A n c, .slice B m d] 40)) [.int .i64 k, .string tok, .slice C p q] 24).alloc (.cells #[.slice none 0 0, .slice none 0 0] 40)
    simpa using this
  · have := Bx.new ((w.alloc (.cells #[.slice A n c, .slice B m d] 40)).alloc (.cells #[.int .i64 k, .string tok, .slice C p q] 24)) [.slice none 0 0, .slice none 0 0] 40
    simpa using this
theorem Ds.get {w wi : World} {A B C : Option Addr} {n c m d p q : Nat} {k : Int} {tok : ByteArray} (h : Ds w A n c B m d k tok C p q wi) :
    (wi.cell? ⟨w.heap.size, 0, none⟩ = some (.slice A n c) ∧ wi.cell? ⟨w.heap.size, 1, none⟩ = some (.slice B m d)) ∧ (wi.cell? ⟨w.heap.size + 1, 0, none⟩ = some (.int .i64 k) ∧ wi.cell? ⟨w.heap.size + 1, 1, none⟩ = some (.string tok) ∧ wi.cell? ⟨w.heap.size + 1, 2, none⟩ = some (.slice C p q)) :=
  ⟨h.b1.get2.1, h.b2.get3.1⟩

set_option maxHeartbeats 8000000 in
theorem bdo_any (k : Int) (tok : ByteArray) (A B C : Option Addr) (n c m d p q : Nat) (l t : List Pr) (ws : List Wr) (w : World) (hA : In_ pairK w A n c l) (hB : In_ pairK w B m d t) (hC : Lst writeK w C p ws) (hp : p ≤ maxLen) (hb : (n + 24) * 32 ≤ 140737488355328) (hb2 : (m + 1) * 32 ≤ 140737488355328) :
    Calls Try.prog 19 #[staV A n c B m d, batV k tok C p q] w (RetS w (Bm.doo ⟨l, t⟩ ⟨k, tok, ws⟩)) := by
  have KM := Lib.hid (fun W y => may_any k tok C p q ws W (hC.q y) hp)
  have KD := Lib.hid (fun W y => decided_any tok A B n c m d t W (hB.lst.q y) hB.max)
  have KO := Lib.hid (fun W y => bown_any A B n c m d l t W (hA.q y) (hB.q y))
  have hn := hA.len
  have hm := hB.len
  have hpl := hC.len
  cases hmay : Bm.may ⟨k, tok, ws⟩ with
  | false =>
    have HR := Lib.hid (show Bm.doo ⟨l, t⟩ ⟨k, tok, ws⟩ = (⟨l, t⟩, 1) by unfold Bm.doo; rw [if_pos hmay])
    rw [hmay] at KM
    clear hA hB hC hmay hn hm hpl
    go_enter Try.func19, Try.ntmps19
    go_upto_region 1 with (fail)
    have X := Lib.hid (Ds.new w A n c B m d k tok C p q)
    generalize (((w.alloc (.cells #[.slice A n c, .slice B m d] 40)).alloc (.cells #[.int .i64 k, .string tok, .slice C p q] 24)).alloc (.cells #[.slice none 0 0, .slice none 0 0] 40)) = w2 at X ⊢
    obtain ⟨⟨c0, c1⟩, d0, d1, d2⟩ := X.out.get
    go_wp2_with fail
    refine (KM.out _ X.out.q).mono ?_
    rintro e w3 ⟨rfl, q3⟩
    have X3 := Lib.hid (X.out.step q3)
    clear q3 X c0 c1 d0 d1 d2
    obtain ⟨⟨c0, c1⟩, d0, d1, d2⟩ := X3.out.get
    go_wp2_with fail
    refine (KO.out _ X3.out.q).mono ?_
    rintro e w5 ⟨A5, c5, B5, d5, rfl, o5, t5, q5⟩
    have X5 := Lib.hid (X3.out.step q5)
    have HO := Lib.hid o5
    have HT := Lib.hid t5
    have HS := Lib.hid X3.out.l
    clear q5 o5 t5 c0 c1 d0 d1 d2
    obtain ⟨⟨p0, p1⟩, p2, p3⟩ := X5.out.b3.get2
    go_wp2
    obtain ⟨⟨r0, r1⟩, _⟩ := (X5.out.b3.set2 (.slice A5 l.length c5) (.slice B5 t.length d5)).get2
    refine bodyPost_ret (v := .tuple #[staV A5 l.length c5 B5 t.length d5, .int .i64 1]) (by simp [results, Try.results19, go_sem, r0, r1]) rfl ?_
    rw [HR.out]
    exact ⟨A5, c5, B5, d5, rfl, (HO.out.set2 (b := w.heap.size + 1 + 1) (by have := HS.out; omega) _ _).lower (by have := HS.out; omega), (HT.out.set2 (b := w.heap.size + 1 + 1) (by have := HS.out; omega) _ _).lower (by have := HS.out; omega), X5.out.q.set2 (by omega) _ _⟩
  | true =>
    rw [hmay] at KM
    cases hf : (find tok t).2 with
    | true =>
      have HR := Lib.hid (show Bm.doo ⟨l, t⟩ ⟨k, tok, ws⟩ = (⟨l, t⟩, 8) by unfold Bm.doo; rw [if_neg (by rw [hmay]; simp), if_pos hf])
      rw [hf] at KD
      generalize (find tok t).1 = fv at KD
      clear hA hB hC hmay hn hm hpl hf
      go_enter Try.func19, Try.ntmps19
      go_upto_region 1 with (fail)
      have X := Lib.hid (Ds.new w A n c B m d k tok C p q)
      generalize (((w.alloc (.cells #[.slice A n c, .slice B m d] 40)).alloc (.cells #[.int .i64 k, .string tok, .slice C p q] 24)).alloc (.cells #[.slice none 0 0, .slice none 0 0] 40)) = w2 at X ⊢
      obtain ⟨⟨c0, c1⟩, d0, d1, d2⟩ := X.out.get
      go_wp2_with fail
      refine (KM.out _ X.out.q).mono ?_
      rintro e w3 ⟨rfl, q3⟩
      have X3 := Lib.hid (X.out.step q3)
      clear q3 X c0 c1 d0 d1 d2
      obtain ⟨⟨c0, c1⟩, d0, d1, d2⟩ := X3.out.get
      go_wp2_with fail
      refine (KD.out _ X3.out.q).mono ?_
      rintro e w4 ⟨rfl, q4⟩
      have X4 := Lib.hid (X3.out.step q4)
      clear q4 X3 c0 c1 d0 d1 d2
      obtain ⟨⟨c0, c1⟩, d0, d1, d2⟩ := X4.out.get
      go_wp2_with fail
      refine (KO.out _ X4.out.q).mono ?_
      rintro e w5 ⟨A5, c5, B5, d5, rfl, o5, t5, q5⟩
      have X5 := Lib.hid (X4.out.step q5)
      have HO := Lib.hid o5
      have HT := Lib.hid t5
      have HS := Lib.hid X4.out.l
      clear q5 o5 t5 c0 c1 d0 d1 d2
      obtain ⟨⟨p0, p1⟩, p2, p3⟩ := X5.out.b3.get2
      go_wp2
      obtain ⟨⟨r0, r1⟩, _⟩ := (X5.out.b3.set2 (.slice A5 l.length c5) (.slice B5 t.length d5)).get2
      refine bodyPost_ret (v := .tuple #[staV A5 l.length c5 B5 t.length d5, .int .i64 8]) (by simp [results, Try.results19, go_sem, r0, r1]) rfl ?_
      rw [HR.out]
      exact ⟨A5, c5, B5, d5, rfl, (HO.out.set2 (b := w.heap.size + 1 + 1) (by have := HS.out; omega) _ _).lower (by have := HS.out; omega), (HT.out.set2 (b := w.heap.size + 1 + 1) (by have := HS.out; omega) _ _).lower (by have := HS.out; omega), X5.out.q.set2 (by omega) _ _⟩
    | false =>
      have HR := Lib.hid (show Bm.doo ⟨l, t⟩ ⟨k, tok, ws⟩ = (⟨apply l ws, put t ⟨tok, Bm.word k⟩⟩, 0) by unfold Bm.doo; rw [if_neg (by rw [hmay]; simp), if_neg (by rw [hf]; simp)])
      have hp24 := Bm.may_len hmay
      simp only at hp24
      rw [hf] at KD
      generalize (find tok t).1 = fv at KD
      have KA := Lib.hid (fun W y => apply_any A C n c p q l ws W (hA.q y) (hC.q y) (by omega))
      have KP := Lib.hid (fun W y => tput_any tok (Bm.word k) B m d t W (hB.q y) hb2)
      clear hA hB hC hmay hn hm hpl hf hp24
      go_enter Try.func19, Try.ntmps19
      go_upto_region 1 with (fail)
      have X := Lib.hid (Ds.new w A n c B m d k tok C p q)
      generalize (((w.alloc (.cells #[.slice A n c, .slice B m d] 40)).alloc (.cells #[.int .i64 k, .string tok, .slice C p q] 24)).alloc (.cells #[.slice none 0 0, .slice none 0 0] 40)) = w2 at X ⊢
      obtain ⟨⟨c0, c1⟩, d0, d1, d2⟩ := X.out.get
      go_wp2_with fail
      refine (KM.out _ X.out.q).mono ?_
      rintro e w3 ⟨rfl, q3⟩
      have X3 := Lib.hid (X.out.step q3)
      clear q3 X c0 c1 d0 d1 d2
      obtain ⟨⟨c0, c1⟩, d0, d1, d2⟩ := X3.out.get
      go_wp2_with fail
      refine (KD.out _ X3.out.q).mono ?_
      rintro e w4 ⟨rfl, q4⟩
      have X4 := Lib.hid (X3.out.step q4)
      clear q4 X3 c0 c1 d0 d1 d2
      obtain ⟨⟨c0, c1⟩, d0, d1, d2⟩ := X4.out.get
      have HS4 := Lib.hid X4.out.l
      go_upto_region 6 with (fail)
      refine wp_region_held_drew (S := fun w' => Bx w' w.heap.size [.slice A n c, .slice B m d] ∧ Bx w' (w.heap.size + 1) [.int .i64 k, .string tok, .slice C p q]) (by kernel_rfl) ?szz0 (fun hHeld => ?rzz0)
      case szz0 =>
        exact ⟨X4.out.b1.drew, X4.out.b2.drew⟩
      case' rzz0 => skip
      refine wpAnyH_take (i := 0) (oi := ?ozz1) (v := ?vzz1) ?hzz1 ?azz1 ?bzz1 ?czz1 ?qzz1 ?yzz1 ?szz1 ?rzz1
      case hzz1 => simp only [List.getElem?_toArray, List.getElem?_cons_zero]; rfl
      case azz1 => kernel_rfl
      case bzz1 => kernel_rfl
      case czz1 => kernel_rfl
      case yzz1 =>
        refine Or.inl ⟨by rfl, ?_⟩
        intro w hSw
        have z := hSw.1.get2.1
        have zz := hSw.2.get3.1
        obtain ⟨s0, s1⟩ := z
        obtain ⟨s2, s3, s4⟩ := zz
        go_simp
        try with_reducible rfl
      case qzz1 => exact fun _ _ _ h => h
      case szz1 => first | assumption | trivial
      case' rzz1 => simp only [Act.put, List.setIfInBounds_toArray, List.set_cons_zero, List.set_cons_succ]
      refine wpAnyH_take (i := 1) (oi := ?ozz2) (v := ?vzz2) ?hzz2 ?azz2 ?bzz2 ?czz2 ?qzz2 ?yzz2 ?szz2 ?rzz2
      case hzz2 => simp only [List.getElem?_toArray, List.getElem?_cons_zero, List.getElem?_cons_succ]; rfl
      case azz2 => kernel_rfl
      case bzz2 => kernel_rfl
      case czz2 => kernel_rfl
      case yzz2 =>
        refine Or.inl ⟨by rfl, ?_⟩
        intro w hSw
        have z := hSw.1.get2.1
        have zz := hSw.2.get3.1
        obtain ⟨s0, s1⟩ := z
        obtain ⟨s2, s3, s4⟩ := zz
        go_simp
        try with_reducible rfl
      case qzz2 => exact fun _ _ _ h => h
      case szz2 => first | assumption | trivial
      case' rzz2 => simp only [Act.put, List.setIfInBounds_toArray, List.set_cons_zero, List.set_cons_succ]
      refine wpAnyH_take (i := 2) (oi := ?ozz3) (v := ?vzz3) ?hzz3 ?azz3 ?bzz3 ?czz3 ?qzz3 ?yzz3 ?szz3 ?rzz3
      case hzz3 => simp only [List.getElem?_toArray, List.getElem?_cons_zero, List.getElem?_cons_succ]; rfl
      case azz3 => kernel_rfl
      case bzz3 => kernel_rfl
      case czz3 => kernel_rfl
      case yzz3 =>
        refine Or.inl ⟨by rfl, ?_⟩
        intro w hSw
        have z := hSw.1.get2.1
        have zz := hSw.2.get3.1
        obtain ⟨s0, s1⟩ := z
        obtain ⟨s2, s3, s4⟩ := zz
        go_simp
        try with_reducible rfl
      case qzz3 => exact fun _ _ _ h => h
      case szz3 => first | assumption | trivial
      case' rzz3 => simp only [Act.put, List.setIfInBounds_toArray, List.set_cons_zero, List.set_cons_succ]
      refine wpAnyH_take (i := 3) (oi := ?ozz4) (v := ?vzz4) ?hzz4 ?azz4 ?bzz4 ?czz4 ?qzz4 ?yzz4 ?szz4 ?rzz4
      case hzz4 => simp only [List.getElem?_toArray, List.getElem?_cons_zero, List.getElem?_cons_succ]; rfl
      case azz4 => kernel_rfl
      case bzz4 => kernel_rfl
      case czz4 => kernel_rfl
      case yzz4 =>
        refine Or.inl ⟨by rfl, ?_⟩
        intro w hSw
        have z := hSw.1.get2.1
        have zz := hSw.2.get3.1
        obtain ⟨s0, s1⟩ := z
        obtain ⟨s2, s3, s4⟩ := zz
        go_simp
        try with_reducible rfl
      case qzz4 => exact fun _ _ _ h => h
      case szz4 => first | assumption | trivial
      case' rzz4 => simp only [Act.put, List.setIfInBounds_toArray, List.set_cons_zero, List.set_cons_succ]
      refine wpAnyH_take (i := 5) (oi := ?ozz5) (v := ?vzz5) ?hzz5 ?azz5 ?bzz5 ?czz5 ?qzz5 ?yzz5 ?szz5 ?rzz5
      case hzz5 => simp only [List.getElem?_toArray, List.getElem?_cons_zero, List.getElem?_cons_succ]; rfl
      case azz5 => kernel_rfl
      case bzz5 => kernel_rfl
      case czz5 => kernel_rfl
      case yzz5 =>
        refine Or.inl ⟨by rfl, ?_⟩
        intro w hSw
        have z := hSw.1.get2.1
        have zz := hSw.2.get3.1
        obtain ⟨s0, s1⟩ := z
        obtain ⟨s2, s3, s4⟩ := zz
        go_simp
        try with_reducible rfl
      case qzz5 => exact fun _ _ _ h => h
      case szz5 => first | assumption | trivial
      case' rzz5 => simp only [Act.put, List.setIfInBounds_toArray, List.set_cons_zero, List.set_cons_succ]
      refine wpAnyH_take (i := 6) (oi := ?ozz6) (v := ?vzz6) ?hzz6 ?azz6 ?bzz6 ?czz6 ?qzz6 ?yzz6 ?szz6 ?rzz6
      case hzz6 => simp only [List.getElem?_toArray, List.getElem?_cons_zero, List.getElem?_cons_succ]; rfl
      case azz6 => kernel_rfl
      case bzz6 => kernel_rfl
      case czz6 => kernel_rfl
      case yzz6 =>
        refine Or.inl ⟨by rfl, ?_⟩
        intro w hSw
        have z := hSw.1.get2.1
        have zz := hSw.2.get3.1
        obtain ⟨s0, s1⟩ := z
        obtain ⟨s2, s3, s4⟩ := zz
        go_simp
        try with_reducible rfl
      case qzz6 => exact fun _ _ _ h => h
      case szz6 => first | assumption | trivial
      case' rzz6 => simp only [Act.put, List.setIfInBounds_toArray, List.set_cons_zero, List.set_cons_succ]
      refine wpAnyH_take (i := 7) (oi := ?ozz7) (v := ?vzz7) ?hzz7 ?azz7 ?bzz7 ?czz7 ?qzz7 ?yzz7 ?szz7 ?rzz7
      case hzz7 => simp only [List.getElem?_toArray, List.getElem?_cons_zero, List.getElem?_cons_succ]; rfl
      case azz7 => kernel_rfl
      case bzz7 => kernel_rfl
      case czz7 => kernel_rfl
      case yzz7 =>
        refine Or.inl ⟨by rfl, ?_⟩
        intro w hSw
        have z := hSw.1.get2.1
        have zz := hSw.2.get3.1
        obtain ⟨s0, s1⟩ := z
        obtain ⟨s2, s3, s4⟩ := zz
        go_simp
        try with_reducible rfl
      case qzz7 => exact fun _ _ _ h => h
      case szz7 => first | assumption | trivial
      case' rzz7 => simp only [Act.put, List.setIfInBounds_toArray, List.set_cons_zero, List.set_cons_succ]
      refine wpAnyH_take (i := 8) (oi := ?ozz8) (v := ?vzz8) ?hzz8 ?azz8 ?bzz8 ?czz8 ?qzz8 ?yzz8 ?szz8 ?rzz8
      case hzz8 => simp only [List.getElem?_toArray, List.getElem?_cons_zero, List.getElem?_cons_succ]; rfl
      case azz8 => kernel_rfl
      case bzz8 => kernel_rfl
      case czz8 => kernel_rfl
      case yzz8 =>
        refine Or.inl ⟨by rfl, ?_⟩
        intro w hSw
        have z := hSw.1.get2.1
        have zz := hSw.2.get3.1
        obtain ⟨s0, s1⟩ := z
        obtain ⟨s2, s3, s4⟩ := zz
        go_simp
        try with_reducible rfl
      case qzz8 => exact fun _ _ _ h => h
      case szz8 => first | assumption | trivial
      case' rzz8 => simp only [Act.put, List.setIfInBounds_toArray, List.set_cons_zero, List.set_cons_succ]
      refine wpAnyH_take (i := 9) (oi := ?ozz9) (v := ?vzz9) ?hzz9 ?azz9 ?bzz9 ?czz9 ?qzz9 ?yzz9 ?szz9 ?rzz9
      case hzz9 => simp only [List.getElem?_toArray, List.getElem?_cons_zero, List.getElem?_cons_succ]; rfl
      case azz9 => kernel_rfl
      case bzz9 => kernel_rfl
      case czz9 => kernel_rfl
      case yzz9 =>
        refine Or.inl ⟨by rfl, ?_⟩
        intro w hSw
        have z := hSw.1.get2.1
        have zz := hSw.2.get3.1
        obtain ⟨s0, s1⟩ := z
        obtain ⟨s2, s3, s4⟩ := zz
        go_simp
        try with_reducible rfl
      case qzz9 => exact fun _ _ _ h => h
      case szz9 => first | assumption | trivial
      case' rzz9 => simp only [Act.put, List.setIfInBounds_toArray, List.set_cons_zero, List.set_cons_succ]
      refine wpAnyH_take (i := 10) (oi := ?ozz10) (v := ?vzz10) ?hzz10 ?azz10 ?bzz10 ?czz10 ?qzz10 ?yzz10 ?szz10 ?rzz10
      case hzz10 => simp only [List.getElem?_toArray, List.getElem?_cons_zero, List.getElem?_cons_succ]; rfl
      case azz10 => kernel_rfl
      case bzz10 => kernel_rfl
      case czz10 => kernel_rfl
      case yzz10 =>
        refine Or.inl ⟨by rfl, ?_⟩
        intro w hSw
        have z := hSw.1.get2.1
        have zz := hSw.2.get3.1
        obtain ⟨s0, s1⟩ := z
        obtain ⟨s2, s3, s4⟩ := zz
        go_simp
        try with_reducible rfl
      case qzz10 => exact fun _ _ _ h => h
      case szz10 => first | assumption | trivial
      case' rzz10 => simp only [Act.put, List.setIfInBounds_toArray, List.set_cons_zero, List.set_cons_succ]
      refine wpAnyH_ready (rs := [4]) (by kernel_rfl) (by simp) ?_
      refine AllReadyH.cons (o := ?ozz16) ?hzz16 (fun K hK => ?kzz16) ?mzz16
      case hzz16 => simp only [List.getElem?_toArray, List.getElem?_cons_zero, List.getElem?_cons_succ]; rfl
      case kzz16 =>
        go_simp
        refine (KA.out _ X4.out.q.drew).mono ?_
        rintro e w5 ⟨A5, c5, rfl, o5, y5⟩
        have HS5 := Lib.hid (show w.heap.size + 1 + 1 + 1 ≤ w5.heap.size from ((X4.out.step (Q.refl _).drew).step y5).l)
        go_wp2_with fail
        refine hK.out _ _ ?Szz16 (fun hHeld => ?Rzz16)
        case Szz16 =>
          exact ⟨hHeld.1.q y5, hHeld.2.q y5⟩
        case Rzz16 =>
          clear hK K
          try simp only [Act.put, List.setIfInBounds_toArray, List.set_cons_zero, List.set_cons_succ]
          have hC := hHeld
          refine wpAnyH_ready (rs := [11]) (by kernel_rfl) (by simp) ?_
          refine AllReadyH.cons (o := ?ozz15) ?hzz15 (fun K hK => ?kzz15) ?mzz15
          case hzz15 => simp only [List.getElem?_toArray, List.getElem?_cons_zero, List.getElem?_cons_succ]; rfl
          case kzz15 =>
            go_simp
            refine (word_any k _).mono ?_
            rintro e w6 ⟨rfl, rfl⟩
            go_wp2_with fail
            refine hK.out _ _ ?Szz15 (fun hHeld => ?Rzz15)
            case Szz15 =>
              exact hC
            case Rzz15 =>
              clear hK K
              try simp only [Act.put, List.setIfInBounds_toArray, List.set_cons_zero, List.set_cons_succ]
              refine wpAnyH_ready (rs := [12]) (by kernel_rfl) (by simp) ?_
              refine AllReadyH.cons (o := ?ozz14) ?hzz14 (fun K hK => ?kzz14) ?mzz14
              case hzz14 => simp only [List.getElem?_toArray, List.getElem?_cons_zero, List.getElem?_cons_succ]; rfl
              case kzz14 =>
                go_simp
                refine (KP.out _ (X4.out.q.drew.trans y5)).mono ?_
                rintro e w7 ⟨A7, c7, rfl, o7, y7⟩
                have X7 := Lib.hid (((X4.out.step (Q.refl _).drew).step y5).step y7)
                have HO := Lib.hid (o5.q y7)
                have HT := Lib.hid o7
                clear o5 o7 y5 y7
                go_wp2_with fail
                refine hK.out _ _ ?Szz14 (fun hHeld => ?Rzz14)
                case Szz14 =>
                  exact ⟨X7.out.b1, X7.out.b2⟩
                case Rzz14 =>
                  clear hK K
                  try simp only [Act.put, List.setIfInBounds_toArray, List.set_cons_zero, List.set_cons_succ]
                  refine wpAnyH_take (i := 13) (oi := ?ozz11) (v := ?vzz11) ?hzz11 ?azz11 ?bzz11 ?czz11 ?qzz11 ?yzz11 ?szz11 ?rzz11
                  case hzz11 => simp only [List.getElem?_toArray, List.getElem?_cons_zero, List.getElem?_cons_succ]; rfl
                  case azz11 => kernel_rfl
                  case bzz11 => kernel_rfl
                  case czz11 => kernel_rfl
                  case yzz11 =>
                    refine Or.inl ⟨by rfl, ?_⟩
                    intro w hSw
                    have z := hSw.1.get2.1
                    have zz := hSw.2.get3.1
                    obtain ⟨s0, s1⟩ := z
                    obtain ⟨s2, s3, s4⟩ := zz
                    go_simp
                    try with_reducible rfl
                  case qzz11 => exact fun _ _ _ h => h
                  case szz11 => first | assumption | trivial
                  case' rzz11 => simp only [Act.put, List.setIfInBounds_toArray, List.set_cons_zero, List.set_cons_succ]
                  refine wpAnyH_ready (rs := [14]) (by kernel_rfl) (by simp) ?_
                  refine AllReadyH.cons (o := ?ozz13) ?hzz13 (fun K hK => ?kzz13) ?mzz13
                  case hzz13 => simp only [List.getElem?_toArray, List.getElem?_cons_zero, List.getElem?_cons_succ]; rfl
                  case kzz13 =>
                    obtain ⟨⟨p0, p1⟩, p2, p3⟩ := X7.out.b3.get2
                    go_simp
                    refine hK.out _ _ ?Szz13 (fun hHeld => ?Rzz13)
                    case Szz13 =>
                      exact ⟨X7.out.b1.far2 (by omega) _ _, X7.out.b2.far2 (by omega) _ _⟩
                    case Rzz13 =>
                      clear hK K
                      try simp only [Act.put, List.setIfInBounds_toArray, List.set_cons_zero, List.set_cons_succ]
                      refine wpAnyH_take (i := 15) (oi := ?ozz12) (v := ?vzz12) ?hzz12 ?azz12 ?bzz12 ?czz12 ?qzz12 ?yzz12 ?szz12 ?rzz12
                      case hzz12 => simp only [List.getElem?_toArray, List.getElem?_cons_zero, List.getElem?_cons_succ]; rfl
                      case azz12 => kernel_rfl
                      case bzz12 => kernel_rfl
                      case czz12 => kernel_rfl
                      case yzz12 =>
                        refine Or.inl ⟨by rfl, ?_⟩
                        intro w hSw
                        have z := hSw.1.get2.1
                        have zz := hSw.2.get3.1
                        obtain ⟨s0, s1⟩ := z
                        obtain ⟨s2, s3, s4⟩ := zz
                        go_simp
                        try with_reducible rfl
                      case qzz12 => exact fun _ _ _ h => h
                      case szz12 => first | assumption | trivial
                      case' rzz12 => simp only [Act.put, List.setIfInBounds_toArray, List.set_cons_zero, List.set_cons_succ]
                      refine wpAnyH_done (by kernel_rfl) ?_ _
                      obtain ⟨⟨r0, r1⟩, _⟩ := (X7.out.b3.set2 (.slice A5 (apply l ws).length c5) (.slice A7 (put t ⟨tok, Bm.word k⟩).length c7)).get2
                      go_wp2
                      refine bodyPost_ret (v := .tuple #[staV A5 (apply l ws).length c5 A7 (put t ⟨tok, Bm.word k⟩).length c7, .int .i64 0]) (by simp [results, Try.results19, go_sem, r0, r1]) rfl ?_
                      rw [HR.out]
                      exact ⟨A5, c5, A7, c7, rfl, (HO.out.set2 (b := w.heap.size + 1 + 1) (by have := HS4.out; simp only [World.size_drew]; omega) _ _).lower (by have := HS4.out; simp only [World.size_drew]; omega), (HT.out.set2 (b := w.heap.size + 1 + 1) (by have := HS5.out; omega) _ _).lower (by have := HS5.out; omega), X7.out.q.set2 (by omega) _ _⟩
                  case' mzz13 => skip
                  exact AllReadyH.nil
              case' mzz14 => skip
              exact AllReadyH.nil
          case' mzz15 => skip
          exact AllReadyH.nil
      case' mzz16 => skip
      exact AllReadyH.nil
end Go.Proofs.Ytlbjobbmjccekaa
