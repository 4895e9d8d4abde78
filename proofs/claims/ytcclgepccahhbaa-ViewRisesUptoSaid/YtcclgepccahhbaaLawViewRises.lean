/- For every row of writes whose keys rise, and every write: the keys rise behind a set, and it has one more at most. Its second form: where what it reads is of bulk at most 1048576. -/
import Derived.Test.YtcclgepccahhbaaPairIn
import Derived.Test.YtcclgepccahhbaaViewShown
import Derived.Test.YtcclgepccahhbaaFrameU
namespace Go.Proofs.Ytcclgepccahhbaa.viewRisesUpto
set_option maxRecDepth 100000
open Go.ChangeShapes Go.WideShapes Go.ChangeAt Go.RowKit Prm Vm
set_option linter.unusedVariables false
set_option linter.unusedSimpArgs false

theorem mem_setW2 {x a : Wr} : ∀ {l : List Wr}, a ∈ setW x l → a = x ∨ a ∈ l
  | [], h => by simp [setW] at h
  | q :: l, h => by
    simp only [setW] at h
    split at h
    · rcases List.mem_cons.1 h with e | h
      · exact .inl e
      · exact .inr (by simp [h])
    · rcases List.mem_cons.1 h with e | h
      · exact .inr (by simp [e])
      · rcases mem_setW2 h with e | h
        · exact .inl e
        · exact .inr (by simp [h])
theorem mem_put {x a : Wr} {l : List Wr} (h : a ∈ putW l x) : a = x ∨ a ∈ l := by
  unfold putW at h
  split at h
  · exact mem_setW2 h
  · exact mem_insW h
theorem size_le : ∀ {l : List Wr}, (∀ p ∈ l, p.key.size ≤ 1048576 ∧ p.val.size ≤ 1048576) → Vm.size l ≤ l.length * 2097152
  | [], _ => by simp [Vm.size]
  | p :: l, h => by
    have h1 := h p (by simp)
    have h2 := size_le (l := l) fun q hq => h q (by simp [hq])
    simp only [Vm.size, List.length_cons]
    omega
theorem szI_is {l : List Wr} (h : Vm.size l ≤ 4611686018427387904) : szI l = (Vm.size l : Int) := by
  unfold szI
  rw [IntKind.wrap_i64]
  omega
theorem writes_small {w : World} {A : Option Addr} {n c : Nat} {l : List Wr} (hd : In_ writeK w A n c l) (hu : RdU w 22 [.slice A n c]) : ∀ f ∈ l, f.key.size ≤ 1048576 ∧ f.val.size ≤ 1048576 := by
  intro f hf
  obtain ⟨i, hi, rfl⟩ := List.getElem_of_mem hf
  have hin : i < n := by have := hd.len; omega
  have hic : i < c := Nat.lt_of_lt_of_le hin hd.le
  obtain ⟨ad, rfl, _, c0, c1, c2⟩ := load_write hd.lst hin hi
  obtain ⟨_, hall⟩ := hu.slice Try.underlying22
  rw [show Try.prog.cellsOf 24 = 3 by kernel_rfl] at hall
  obtain ⟨cs, hc, hr⟩ := hall i hic
  obtain ⟨hl, _, hat⟩ := World.cells?_some hc
  have e0 := hat 0 (by omega)
  have e1 := hat 1 (by omega)
  have c0' : w.cell? ((ad.add (i * 3)).add 0) = some (.string l[i].key) := c0
  have c1' : w.cell? ((ad.add (i * 3)).add 1) = some (.string l[i].val) := c1
  rw [c0'] at e0
  rw [c1'] at e1
  have r0 := hr.field Try.underlying24 0 (ty := 9) 0 1 rfl (by kernel_rfl)
  have r1 := hr.field Try.underlying24 1 (ty := 9) 1 1 rfl (by kernel_rfl)
  match cs, hl, e0, e1, r0, r1 with
  | [a, b, d], _, e0, e1, r0, r1 =>
    simp at e0 e1
    subst e0 e1
    exact ⟨r0.string Try.underlying9, r1.string Try.underlying9⟩

set_option maxHeartbeats 8000000 in
set_option maxRecDepth 100000 in
theorem walk (A : Option Addr) (n c : Nat) (l : List Wr) (x : Wr) (w : World) (hd : In_ writeK w A n c l) (hb : n * 40 ≤ 140737488351232) (hp : ∀ p ∈ l, WrIn p) (px : WrIn x) (u0 : n ≤ 1048576) (hu : ∀ p ∈ l, p.key.size ≤ 1048576 ∧ p.val.size ≤ 1048576) :
    Calls Try.prog 6 #[.slice A n c, .agg #[.string x.key, .string x.val, .bool x.del]] w fun e w' => e = .returned (.bool true) ∧ Q w w' := by
  obtain ⟨xk, xv, xd⟩ := x
  obtain ⟨hxk, hxv⟩ : xk.size ≤ 140737488351232 ∧ xv.size ≤ 140737488351232 := px
  have HD := Lib.hid hd
  have hn1 : (n + 1) * 40 ≤ 140737488355328 := by omega
  have U1 := fun W (h : In_ writeK W A n c l) => vrises_any A n c l W h.lst h.max
  have q0 := Lib.hid ((Q.refl w).alloc (.cells #[.string xk, .string xv, .bool xd] 24))
  have X0 := Lib.hid (xbox w xk xv xd)
  by_cases hr : risesB l = true
  · rw [hr] at U1
    have U1 := Lib.hid U1
    have hrr : risesB (putW l ⟨xk, xv, xd⟩) = true := (risesB_iff _).2 (rises_put ((risesB_iff _).1 hr))
    have hs0 := size_le hu
    have hsz := put_size l ⟨xk, xv, xd⟩
    have hl := hd.len
    have hs1 : Vm.size l ≤ 2199023255552 := Nat.le_trans hs0 (by rw [hl]; omega)
    have hs2 : Vm.size (putW l ⟨xk, xv, xd⟩) ≤ Vm.size l + (xk.size + xv.size) := hsz
    have S0 := fun W (h : In_ writeK W A n c l) => vsize_any A n c l W h.lst h.max (fun a ha => by have := hu a ha; omega)
    have hws : WSizes (putW l ⟨xk, xv, xd⟩) := fun a ha => by
      rcases mem_put ha with e | ha
      · rw [e]; show xk.size ≤ _ ∧ xv.size ≤ _; omega
      · have := hu a ha; omega
    rw [szI_is (by omega)] at S0
    have S0 := Lib.hid S0
    have P1 := fun W (h : In_ writeK W A n c l) => vset_any ⟨xk, xv, xd⟩ A n c l W h hn1
    have U2 := fun N W A c (h : In_ writeK W A N c (putW l ⟨xk, xv, xd⟩)) => vrises_any A N c (putW l ⟨xk, xv, xd⟩) W h.lst h.max
    have S1 := fun N W A c (h : In_ writeK W A N c (putW l ⟨xk, xv, xd⟩)) => vsize_any A N c (putW l ⟨xk, xv, xd⟩) W h.lst h.max hws
    rw [hrr] at U2
    rw [szI_is (by omega)] at S1
    have hlen := put_wlen l ⟨xk, xv, xd⟩
    rw [hl] at hlen
    generalize Vm.size (putW l ⟨xk, xv, xd⟩) = s1 at S1 hs2
    generalize Vm.size l = s0 at S0 hs1 hs2
    clear hsz hs0 hr hrr hws hu hp hl hb
    have U2 := Lib.hid U2
    have S1 := Lib.hid S1
    rcases hlen with hlen | hlen
    all_goals
      rw [hlen] at P1
      have P1 := Lib.hid P1
      generalize putW l ⟨xk, xv, xd⟩ = r at P1 U2 S1
      clear hlen
    · have LI := Lib.hid (show n * 40 ≤ 140737488355328 by omega)
      clear hd hn1
      go_enter Try.func6, Try.ntmps6
      go_upto_region 1 with (fail)
      generalize w.alloc (.cells #[.string xk, .string xv, .bool xd] 24) = W0 at q0 X0 ⊢
      obtain ⟨x0, x1, x2⟩ := X0.out
      go_wp2_with fail
      refine (vshown_any _).mono ?_
      rintro e w1 ⟨rfl, q1⟩
      have Q1 := Lib.hid (q0.out.trans q1)
      have y0 := box_ q1 x0
      have y1 := box_ q1 x1
      have y2 := box_ q1 x2
      clear x0 x1 x2 X0 q1
      go_wp2_with fail
      refine (U1.out _ (HD.out.q Q1.out)).mono ?_
      rintro e w2 ⟨rfl, q2⟩
      have Q2 := Lib.hid (Q1.out.trans q2)
      have x0 := box_ q2 y0
      have x1 := box_ q2 y1
      have x2 := box_ q2 y2
      clear y0 y1 y2 q2
      go_wp2_with fail
      refine (P1.out _ (HD.out.q Q2.out)).mono ?_
      rintro e w3 ⟨A3, c3, rfl, o3, q3⟩
      have Q3 := Lib.hid (Q2.out.trans q3)
      have I3 := Lib.hid (o3.in_ LI.out)
      have z0 := box_ q3 x0
      have z1 := box_ q3 x1
      have z2 := box_ q3 x2
      clear x0 x1 x2 q3 o3
      have f1 : (s1 : Int) ≤ (s0 : Int) + (xk.size : Int) + (xv.size : Int) := by omega
      have f2 : IntKind.i64.wrap ((s0 : Int) + (xk.size : Int)) = (s0 : Int) + (xk.size : Int) := by rw [IntKind.wrap_i64]; omega
      have f3 : IntKind.i64.wrap ((s0 : Int) + (xk.size : Int) + (xv.size : Int)) = (s0 : Int) + (xk.size : Int) + (xv.size : Int) := by rw [IntKind.wrap_i64]; omega
      go_upto_region 5 with (fail)
      refine wp_region_held_drew (S := Q w3) (by kernel_rfl) ?szz0 (fun hHeld => ?rzz0)
      case szz0 =>
        exact (Q.refl w3).drew
      case' rzz0 => skip
      refine wpAnyH_take (i := 0) (oi := ?ozz1) (v := ?vzz1) ?hzz1 ?azz1 ?bzz1 ?czz1 ?qzz1 ?yzz1 ?szz1 ?rzz1
      case hzz1 => simp only [List.getElem?_toArray, List.getElem?_cons_zero]; rfl
      case azz1 => kernel_rfl
      case bzz1 => kernel_rfl
      case czz1 => kernel_rfl
      case yzz1 =>
        refine Or.inl ⟨by rfl, ?_⟩
        intro w hSw
        have u0 := box_ hSw z0; have u1 := box_ hSw z1; clear hSw
        go_simp
        try with_reducible rfl
      case qzz1 => exact fun _ _ _ h => h
      case szz1 => first | assumption | trivial
      case' rzz1 => simp only [Act.put, List.setIfInBounds_toArray, List.set_cons_zero, List.set_cons_succ]
      refine wpAnyH_take (i := 1) (oi := ?ozz2) (v := ?vzz2) ?hzz2 ?azz2 ?bzz2 ?czz2 ?qzz2 ?yzz2 ?szz2 ?rzz2
      case hzz2 => simp only [List.getElem?_toArray, List.getElem?_cons_zero, List.getElem?_cons_succ]; rfl
      case azz2 => kernel_rfl
      case bzz2 => kernel_rfl
      case czz2 => kernel_rfl
      case yzz2 =>
        refine Or.inl ⟨by rfl, ?_⟩
        intro w hSw
        have u0 := box_ hSw z0; have u1 := box_ hSw z1; clear hSw
        go_simp
        try with_reducible rfl
      case qzz2 => exact fun _ _ _ h => h
      case szz2 => first | assumption | trivial
      case' rzz2 => simp only [Act.put, List.setIfInBounds_toArray, List.set_cons_zero, List.set_cons_succ]
      refine wpAnyH_take (i := 2) (oi := ?ozz3) (v := ?vzz3) ?hzz3 ?azz3 ?bzz3 ?czz3 ?qzz3 ?yzz3 ?szz3 ?rzz3
      case hzz3 => simp only [List.getElem?_toArray, List.getElem?_cons_zero, List.getElem?_cons_succ]; rfl
      case azz3 => kernel_rfl
      case bzz3 => kernel_rfl
      case czz3 => kernel_rfl
      case yzz3 =>
        refine Or.inl ⟨by rfl, ?_⟩
        intro w hSw
        have u0 := box_ hSw z0; have u1 := box_ hSw z1; clear hSw
        go_simp
        try with_reducible rfl
      case qzz3 => exact fun _ _ _ h => h
      case szz3 => first | assumption | trivial
      case' rzz3 => simp only [Act.put, List.setIfInBounds_toArray, List.set_cons_zero, List.set_cons_succ]
      refine wpAnyH_ready (rs := [3]) (by kernel_rfl) (by simp) ?_
      refine AllReadyH.cons (o := ?ozz36) ?hzz36 (fun K hK => ?kzz36) ?mzz36
      case hzz36 => simp only [List.getElem?_toArray, List.getElem?_cons_zero, List.getElem?_cons_succ]; rfl
      case kzz36 =>
        go_simp
        refine (U2.out n _ A3 c3 (I3.out.q hHeld)).mono ?_
        rintro e v1 ⟨rfl, q4⟩
        go_wp2_with fail
        refine hK.out _ _ ?Szz36 (fun hHeld => ?Rzz36)
        case Szz36 =>
          exact hHeld.trans q4
        case Rzz36 =>
          clear hK K
          try simp only [Act.put, List.setIfInBounds_toArray, List.set_cons_zero, List.set_cons_succ]
          refine wpAnyH_take (i := 4) (oi := ?ozz4) (v := ?vzz4) ?hzz4 ?azz4 ?bzz4 ?czz4 ?qzz4 ?yzz4 ?szz4 ?rzz4
          case hzz4 => simp only [List.getElem?_toArray, List.getElem?_cons_zero, List.getElem?_cons_succ]; rfl
          case azz4 => kernel_rfl
          case bzz4 => kernel_rfl
          case czz4 => kernel_rfl
          case yzz4 =>
            refine Or.inl ⟨by rfl, ?_⟩
            intro w hSw
            have u0 := box_ hSw z0; have u1 := box_ hSw z1; clear hSw
            go_simp
            try with_reducible rfl
          case qzz4 => exact fun _ _ _ h => h
          case szz4 => first | assumption | trivial
          case' rzz4 => simp only [Act.put, List.setIfInBounds_toArray, List.set_cons_zero, List.set_cons_succ]
          refine wpAnyH_take (i := 5) (oi := ?ozz5) (v := ?vzz5) ?hzz5 ?azz5 ?bzz5 ?czz5 ?qzz5 ?yzz5 ?szz5 ?rzz5
          case hzz5 => simp only [List.getElem?_toArray, List.getElem?_cons_zero, List.getElem?_cons_succ]; rfl
          case azz5 => kernel_rfl
          case bzz5 => kernel_rfl
          case czz5 => kernel_rfl
          case yzz5 =>
            refine Or.inl ⟨by rfl, ?_⟩
            intro w hSw
            have u0 := box_ hSw z0; have u1 := box_ hSw z1; clear hSw
            go_simp
            try with_reducible rfl
          case qzz5 => exact fun _ _ _ h => h
          case szz5 => first | assumption | trivial
          case' rzz5 => simp only [Act.put, List.setIfInBounds_toArray, List.set_cons_zero, List.set_cons_succ]
          refine wpAnyH_take (i := 6) (oi := ?ozz6) (v := ?vzz6) ?hzz6 ?azz6 ?bzz6 ?czz6 ?qzz6 ?yzz6 ?szz6 ?rzz6
          case hzz6 => simp only [List.getElem?_toArray, List.getElem?_cons_zero, List.getElem?_cons_succ]; rfl
          case azz6 => kernel_rfl
          case bzz6 => kernel_rfl
          case czz6 => kernel_rfl
          case yzz6 =>
            refine Or.inl ⟨by rfl, ?_⟩
            intro w hSw
            have u0 := box_ hSw z0; have u1 := box_ hSw z1; clear hSw
            go_simp
            try with_reducible rfl
          case qzz6 => exact fun _ _ _ h => h
          case szz6 => first | assumption | trivial
          case' rzz6 => simp only [Act.put, List.setIfInBounds_toArray, List.set_cons_zero, List.set_cons_succ]
          refine wpAnyH_take (i := 7) (oi := ?ozz7) (v := ?vzz7) ?hzz7 ?azz7 ?bzz7 ?czz7 ?qzz7 ?yzz7 ?szz7 ?rzz7
          case hzz7 => simp only [List.getElem?_toArray, List.getElem?_cons_zero, List.getElem?_cons_succ]; rfl
          case azz7 => kernel_rfl
          case bzz7 => kernel_rfl
          case czz7 => kernel_rfl
          case yzz7 =>
            refine Or.inl ⟨by rfl, ?_⟩
            intro w hSw
            have u0 := box_ hSw z0; have u1 := box_ hSw z1; clear hSw
            go_simp
            try with_reducible rfl
          case qzz7 => exact fun _ _ _ h => h
          case szz7 => first | assumption | trivial
          case' rzz7 => simp only [Act.put, List.setIfInBounds_toArray, List.set_cons_zero, List.set_cons_succ]
          refine wpAnyH_take (i := 8) (oi := ?ozz8) (v := ?vzz8) ?hzz8 ?azz8 ?bzz8 ?czz8 ?qzz8 ?yzz8 ?szz8 ?rzz8
          case hzz8 => simp only [List.getElem?_toArray, List.getElem?_cons_zero, List.getElem?_cons_succ]; rfl
          case azz8 => kernel_rfl
          case bzz8 => kernel_rfl
          case czz8 => kernel_rfl
          case yzz8 =>
            refine Or.inl ⟨by rfl, ?_⟩
            intro w hSw
            have u0 := box_ hSw z0; have u1 := box_ hSw z1; clear hSw
            go_simp
            try with_reducible rfl
          case qzz8 => exact fun _ _ _ h => h
          case szz8 => first | assumption | trivial
          case' rzz8 => simp only [Act.put, List.setIfInBounds_toArray, List.set_cons_zero, List.set_cons_succ]
          refine wpAnyH_take (i := 9) (oi := ?ozz9) (v := ?vzz9) ?hzz9 ?azz9 ?bzz9 ?czz9 ?qzz9 ?yzz9 ?szz9 ?rzz9
          case hzz9 => simp only [List.getElem?_toArray, List.getElem?_cons_zero, List.getElem?_cons_succ]; rfl
          case azz9 => kernel_rfl
          case bzz9 => kernel_rfl
          case czz9 => kernel_rfl
          case yzz9 =>
            refine Or.inl ⟨by rfl, ?_⟩
            intro w hSw
            have u0 := box_ hSw z0; have u1 := box_ hSw z1; clear hSw
            go_simp
            try with_reducible rfl
          case qzz9 => exact fun _ _ _ h => h
          case szz9 => first | assumption | trivial
          case' rzz9 => simp only [Act.put, List.setIfInBounds_toArray, List.set_cons_zero, List.set_cons_succ]
          refine wpAnyH_take (i := 10) (oi := ?ozz10) (v := ?vzz10) ?hzz10 ?azz10 ?bzz10 ?czz10 ?qzz10 ?yzz10 ?szz10 ?rzz10
          case hzz10 => simp only [List.getElem?_toArray, List.getElem?_cons_zero, List.getElem?_cons_succ]; rfl
          case azz10 => kernel_rfl
          case bzz10 => kernel_rfl
          case czz10 => kernel_rfl
          case yzz10 =>
            refine Or.inl ⟨by rfl, ?_⟩
            intro w hSw
            have u0 := box_ hSw z0; have u1 := box_ hSw z1; clear hSw
            go_simp
            try with_reducible rfl
          case qzz10 => exact fun _ _ _ h => h
          case szz10 => first | assumption | trivial
          case' rzz10 => simp only [Act.put, List.setIfInBounds_toArray, List.set_cons_zero, List.set_cons_succ]
          refine wpAnyH_take (i := 11) (oi := ?ozz11) (v := ?vzz11) ?hzz11 ?azz11 ?bzz11 ?czz11 ?qzz11 ?yzz11 ?szz11 ?rzz11
          case hzz11 => simp only [List.getElem?_toArray, List.getElem?_cons_zero, List.getElem?_cons_succ]; rfl
          case azz11 => kernel_rfl
          case bzz11 => kernel_rfl
          case czz11 => kernel_rfl
          case yzz11 =>
            refine Or.inl ⟨by rfl, ?_⟩
            intro w hSw
            have u0 := box_ hSw z0; have u1 := box_ hSw z1; clear hSw
            go_simp
            try with_reducible rfl
          case qzz11 => exact fun _ _ _ h => h
          case szz11 => first | assumption | trivial
          case' rzz11 => simp only [Act.put, List.setIfInBounds_toArray, List.set_cons_zero, List.set_cons_succ]
          refine wpAnyH_take (i := 12) (oi := ?ozz12) (v := undef) ?hzz12 ?azz12 ?bzz12 ?czz12 ?qzz12 ?yzz12 ?szz12 ?rzz12
          case hzz12 => simp only [List.getElem?_toArray, List.getElem?_cons_zero, List.getElem?_cons_succ]; rfl
          case azz12 => kernel_rfl
          case bzz12 => kernel_rfl
          case czz12 => kernel_rfl
          case yzz12 => exact Or.inr ⟨by rfl, rfl⟩
          case qzz12 => exact fun _ _ _ h => h
          case szz12 => first | assumption | trivial
          case' rzz12 => simp only [Act.put, List.setIfInBounds_toArray, List.set_cons_zero, List.set_cons_succ]
          refine wpAnyH_take (i := 13) (oi := ?ozz13) (v := undef) ?hzz13 ?azz13 ?bzz13 ?czz13 ?qzz13 ?yzz13 ?szz13 ?rzz13
          case hzz13 => simp only [List.getElem?_toArray, List.getElem?_cons_zero, List.getElem?_cons_succ]; rfl
          case azz13 => kernel_rfl
          case bzz13 => kernel_rfl
          case czz13 => kernel_rfl
          case yzz13 => exact Or.inr ⟨by rfl, rfl⟩
          case qzz13 => exact fun _ _ _ h => h
          case szz13 => first | assumption | trivial
          case' rzz13 => simp only [Act.put, List.setIfInBounds_toArray, List.set_cons_zero, List.set_cons_succ]
          refine wpAnyH_take (i := 14) (oi := ?ozz14) (v := undef) ?hzz14 ?azz14 ?bzz14 ?czz14 ?qzz14 ?yzz14 ?szz14 ?rzz14
          case hzz14 => simp only [List.getElem?_toArray, List.getElem?_cons_zero, List.getElem?_cons_succ]; rfl
          case azz14 => kernel_rfl
          case bzz14 => kernel_rfl
          case czz14 => kernel_rfl
          case yzz14 => exact Or.inr ⟨by rfl, rfl⟩
          case qzz14 => exact fun _ _ _ h => h
          case szz14 => first | assumption | trivial
          case' rzz14 => simp only [Act.put, List.setIfInBounds_toArray, List.set_cons_zero, List.set_cons_succ]
          refine wpAnyH_take (i := 15) (oi := ?ozz15) (v := undef) ?hzz15 ?azz15 ?bzz15 ?czz15 ?qzz15 ?yzz15 ?szz15 ?rzz15
          case hzz15 => simp only [List.getElem?_toArray, List.getElem?_cons_zero, List.getElem?_cons_succ]; rfl
          case azz15 => kernel_rfl
          case bzz15 => kernel_rfl
          case czz15 => kernel_rfl
          case yzz15 => exact Or.inr ⟨by rfl, rfl⟩
          case qzz15 => exact fun _ _ _ h => h
          case szz15 => first | assumption | trivial
          case' rzz15 => simp only [Act.put, List.setIfInBounds_toArray, List.set_cons_zero, List.set_cons_succ]
          refine wpAnyH_take (i := 16) (oi := ?ozz16) (v := undef) ?hzz16 ?azz16 ?bzz16 ?czz16 ?qzz16 ?yzz16 ?szz16 ?rzz16
          case hzz16 => simp only [List.getElem?_toArray, List.getElem?_cons_zero, List.getElem?_cons_succ]; rfl
          case azz16 => kernel_rfl
          case bzz16 => kernel_rfl
          case czz16 => kernel_rfl
          case yzz16 => exact Or.inr ⟨by rfl, rfl⟩
          case qzz16 => exact fun _ _ _ h => h
          case szz16 => first | assumption | trivial
          case' rzz16 => simp only [Act.put, List.setIfInBounds_toArray, List.set_cons_zero, List.set_cons_succ]
          refine wpAnyH_take (i := 17) (oi := ?ozz17) (v := undef) ?hzz17 ?azz17 ?bzz17 ?czz17 ?qzz17 ?yzz17 ?szz17 ?rzz17
          case hzz17 => simp only [List.getElem?_toArray, List.getElem?_cons_zero, List.getElem?_cons_succ]; rfl
          case azz17 => kernel_rfl
          case bzz17 => kernel_rfl
          case czz17 => kernel_rfl
          case yzz17 => exact Or.inr ⟨by rfl, rfl⟩
          case qzz17 => exact fun _ _ _ h => h
          case szz17 => first | assumption | trivial
          case' rzz17 => simp only [Act.put, List.setIfInBounds_toArray, List.set_cons_zero, List.set_cons_succ]
          refine wpAnyH_take (i := 18) (oi := ?ozz18) (v := ?vzz18) ?hzz18 ?azz18 ?bzz18 ?czz18 ?qzz18 ?yzz18 ?szz18 ?rzz18
          case hzz18 => simp only [List.getElem?_toArray, List.getElem?_cons_zero, List.getElem?_cons_succ]; rfl
          case azz18 => kernel_rfl
          case bzz18 => kernel_rfl
          case czz18 => kernel_rfl
          case yzz18 =>
            refine Or.inl ⟨by rfl, ?_⟩
            intro w hSw
            have u0 := box_ hSw z0; have u1 := box_ hSw z1; clear hSw
            go_simp
            try with_reducible rfl
          case qzz18 => exact fun _ _ _ h => h
          case szz18 => first | assumption | trivial
          case' rzz18 => simp only [Act.put, List.setIfInBounds_toArray, List.set_cons_zero, List.set_cons_succ]
          refine wpAnyH_take (i := 19) (oi := ?ozz19) (v := ?vzz19) ?hzz19 ?azz19 ?bzz19 ?czz19 ?qzz19 ?yzz19 ?szz19 ?rzz19
          case hzz19 => simp only [List.getElem?_toArray, List.getElem?_cons_zero, List.getElem?_cons_succ]; rfl
          case azz19 => kernel_rfl
          case bzz19 => kernel_rfl
          case czz19 => kernel_rfl
          case yzz19 =>
            refine Or.inl ⟨by rfl, ?_⟩
            intro w hSw
            have u0 := box_ hSw z0; have u1 := box_ hSw z1; clear hSw
            go_simp
            try with_reducible rfl
          case qzz19 => exact fun _ _ _ h => h
          case szz19 => first | assumption | trivial
          case' rzz19 => simp only [Act.put, List.setIfInBounds_toArray, List.set_cons_zero, List.set_cons_succ]
          refine wpAnyH_take (i := 20) (oi := ?ozz20) (v := ?vzz20) ?hzz20 ?azz20 ?bzz20 ?czz20 ?qzz20 ?yzz20 ?szz20 ?rzz20
          case hzz20 => simp only [List.getElem?_toArray, List.getElem?_cons_zero, List.getElem?_cons_succ]; rfl
          case azz20 => kernel_rfl
          case bzz20 => kernel_rfl
          case czz20 => kernel_rfl
          case yzz20 =>
            refine Or.inl ⟨by rfl, ?_⟩
            intro w hSw
            have u0 := box_ hSw z0; have u1 := box_ hSw z1; clear hSw
            go_simp
            try with_reducible rfl
          case qzz20 => exact fun _ _ _ h => h
          case szz20 => first | assumption | trivial
          case' rzz20 => simp only [Act.put, List.setIfInBounds_toArray, List.set_cons_zero, List.set_cons_succ]
          refine wpAnyH_take (i := 21) (oi := ?ozz21) (v := ?vzz21) ?hzz21 ?azz21 ?bzz21 ?czz21 ?qzz21 ?yzz21 ?szz21 ?rzz21
          case hzz21 => simp only [List.getElem?_toArray, List.getElem?_cons_zero, List.getElem?_cons_succ]; rfl
          case azz21 => kernel_rfl
          case bzz21 => kernel_rfl
          case czz21 => kernel_rfl
          case yzz21 =>
            refine Or.inl ⟨by rfl, ?_⟩
            intro w hSw
            have u0 := box_ hSw z0; have u1 := box_ hSw z1; clear hSw
            go_simp
            try with_reducible rfl
          case qzz21 => exact fun _ _ _ h => h
          case szz21 => first | assumption | trivial
          case' rzz21 => simp only [Act.put, List.setIfInBounds_toArray, List.set_cons_zero, List.set_cons_succ]
          refine wpAnyH_take (i := 23) (oi := ?ozz22) (v := ?vzz22) ?hzz22 ?azz22 ?bzz22 ?czz22 ?qzz22 ?yzz22 ?szz22 ?rzz22
          case hzz22 => simp only [List.getElem?_toArray, List.getElem?_cons_zero, List.getElem?_cons_succ]; rfl
          case azz22 => kernel_rfl
          case bzz22 => kernel_rfl
          case czz22 => kernel_rfl
          case yzz22 =>
            refine Or.inl ⟨by rfl, ?_⟩
            intro w hSw
            have u0 := box_ hSw z0; have u1 := box_ hSw z1; clear hSw
            go_simp
            try with_reducible rfl
          case qzz22 => exact fun _ _ _ h => h
          case szz22 => first | assumption | trivial
          case' rzz22 => simp only [Act.put, List.setIfInBounds_toArray, List.set_cons_zero, List.set_cons_succ]
          refine wpAnyH_take (i := 25) (oi := ?ozz23) (v := ?vzz23) ?hzz23 ?azz23 ?bzz23 ?czz23 ?qzz23 ?yzz23 ?szz23 ?rzz23
          case hzz23 => simp only [List.getElem?_toArray, List.getElem?_cons_zero, List.getElem?_cons_succ]; rfl
          case azz23 => kernel_rfl
          case bzz23 => kernel_rfl
          case czz23 => kernel_rfl
          case yzz23 =>
            refine Or.inl ⟨by rfl, ?_⟩
            intro w hSw
            have u0 := box_ hSw z0; have u1 := box_ hSw z1; clear hSw
            go_simp
            try with_reducible rfl
          case qzz23 => exact fun _ _ _ h => h
          case szz23 => first | assumption | trivial
          case' rzz23 => simp only [Act.put, List.setIfInBounds_toArray, List.set_cons_zero, List.set_cons_succ]
          refine wpAnyH_take (i := 26) (oi := ?ozz24) (v := ?vzz24) ?hzz24 ?azz24 ?bzz24 ?czz24 ?qzz24 ?yzz24 ?szz24 ?rzz24
          case hzz24 => simp only [List.getElem?_toArray, List.getElem?_cons_zero, List.getElem?_cons_succ]; rfl
          case azz24 => kernel_rfl
          case bzz24 => kernel_rfl
          case czz24 => kernel_rfl
          case yzz24 =>
            refine Or.inl ⟨by rfl, ?_⟩
            intro w hSw
            have u0 := box_ hSw z0; have u1 := box_ hSw z1; clear hSw
            go_simp
            try with_reducible rfl
          case qzz24 => exact fun _ _ _ h => h
          case szz24 => first | assumption | trivial
          case' rzz24 => simp only [Act.put, List.setIfInBounds_toArray, List.set_cons_zero, List.set_cons_succ]
          refine wpAnyH_take (i := 27) (oi := ?ozz25) (v := ?vzz25) ?hzz25 ?azz25 ?bzz25 ?czz25 ?qzz25 ?yzz25 ?szz25 ?rzz25
          case hzz25 => simp only [List.getElem?_toArray, List.getElem?_cons_zero, List.getElem?_cons_succ]; rfl
          case azz25 => kernel_rfl
          case bzz25 => kernel_rfl
          case czz25 => kernel_rfl
          case yzz25 =>
            refine Or.inl ⟨by rfl, ?_⟩
            intro w hSw
            have u0 := box_ hSw z0; have u1 := box_ hSw z1; clear hSw
            go_simp
            try with_reducible rfl
          case qzz25 => exact fun _ _ _ h => h
          case szz25 => first | assumption | trivial
          case' rzz25 => simp only [Act.put, List.setIfInBounds_toArray, List.set_cons_zero, List.set_cons_succ]
          refine wpAnyH_take (i := 29) (oi := ?ozz26) (v := ?vzz26) ?hzz26 ?azz26 ?bzz26 ?czz26 ?qzz26 ?yzz26 ?szz26 ?rzz26
          case hzz26 => simp only [List.getElem?_toArray, List.getElem?_cons_zero, List.getElem?_cons_succ]; rfl
          case azz26 => kernel_rfl
          case bzz26 => kernel_rfl
          case czz26 => kernel_rfl
          case yzz26 =>
            refine Or.inl ⟨by rfl, ?_⟩
            intro w hSw
            have u0 := box_ hSw z0; have u1 := box_ hSw z1; clear hSw
            go_simp
            try with_reducible rfl
          case qzz26 => exact fun _ _ _ h => h
          case szz26 => first | assumption | trivial
          case' rzz26 => simp only [Act.put, List.setIfInBounds_toArray, List.set_cons_zero, List.set_cons_succ]
          refine wpAnyH_take (i := 30) (oi := ?ozz27) (v := ?vzz27) ?hzz27 ?azz27 ?bzz27 ?czz27 ?qzz27 ?yzz27 ?szz27 ?rzz27
          case hzz27 => simp only [List.getElem?_toArray, List.getElem?_cons_zero, List.getElem?_cons_succ]; rfl
          case azz27 => kernel_rfl
          case bzz27 => kernel_rfl
          case czz27 => kernel_rfl
          case yzz27 =>
            refine Or.inl ⟨by rfl, ?_⟩
            intro w hSw
            have u0 := box_ hSw z0; have u1 := box_ hSw z1; clear hSw
            go_simp
            try with_reducible rfl
          case qzz27 => exact fun _ _ _ h => h
          case szz27 => first | assumption | trivial
          case' rzz27 => simp only [Act.put, List.setIfInBounds_toArray, List.set_cons_zero, List.set_cons_succ]
          refine wpAnyH_take (i := 31) (oi := ?ozz28) (v := ?vzz28) ?hzz28 ?azz28 ?bzz28 ?czz28 ?qzz28 ?yzz28 ?szz28 ?rzz28
          case hzz28 => simp only [List.getElem?_toArray, List.getElem?_cons_zero, List.getElem?_cons_succ]; rfl
          case azz28 => kernel_rfl
          case bzz28 => kernel_rfl
          case czz28 => kernel_rfl
          case yzz28 =>
            refine Or.inl ⟨by rfl, ?_⟩
            intro w hSw
            have u0 := box_ hSw z0; have u1 := box_ hSw z1; clear hSw
            go_simp
            try with_reducible rfl
          case qzz28 => exact fun _ _ _ h => h
          case szz28 => first | assumption | trivial
          case' rzz28 => simp only [Act.put, List.setIfInBounds_toArray, List.set_cons_zero, List.set_cons_succ]
          refine wpAnyH_ready (rs := [22]) (by kernel_rfl) (by simp) ?_
          refine AllReadyH.cons (o := ?ozz35) ?hzz35 (fun K hK => ?kzz35) ?mzz35
          case hzz35 => simp only [List.getElem?_toArray, List.getElem?_cons_zero, List.getElem?_cons_succ]; rfl
          case kzz35 =>
            go_simp
            refine (S1.out n _ A3 c3 (I3.out.q hHeld)).mono ?_
            rintro e v2 ⟨rfl, q5⟩
            go_wp2_with fail
            refine hK.out _ _ ?Szz35 (fun hHeld => ?Rzz35)
            case Szz35 =>
              exact hHeld.trans q5
            case Rzz35 =>
              clear hK K
              try simp only [Act.put, List.setIfInBounds_toArray, List.set_cons_zero, List.set_cons_succ]
              refine wpAnyH_ready (rs := [24]) (by kernel_rfl) (by simp) ?_
              refine AllReadyH.cons (o := ?ozz34) ?hzz34 (fun K hK => ?kzz34) ?mzz34
              case hzz34 => simp only [List.getElem?_toArray, List.getElem?_cons_zero, List.getElem?_cons_succ]; rfl
              case kzz34 =>
                go_simp
                refine (S0.out _ (HD.out.q (Q3.out.trans hHeld))).mono ?_
                rintro e v3 ⟨rfl, q6⟩
                go_wp2_with fail
                refine hK.out _ _ ?Szz34 (fun hHeld => ?Rzz34)
                case Szz34 =>
                  exact hHeld.trans q6
                case Rzz34 =>
                  clear hK K
                  try simp only [Act.put, List.setIfInBounds_toArray, List.set_cons_zero, List.set_cons_succ]
                  refine wpAnyH_take (i := 28) (oi := ?ozz29) (v := ?vzz29) ?hzz29 ?azz29 ?bzz29 ?czz29 ?qzz29 ?yzz29 ?szz29 ?rzz29
                  case hzz29 => simp only [List.getElem?_toArray, List.getElem?_cons_zero, List.getElem?_cons_succ]; rfl
                  case azz29 => kernel_rfl
                  case bzz29 => kernel_rfl
                  case czz29 => kernel_rfl
                  case yzz29 =>
                    refine Or.inl ⟨by rfl, ?_⟩
                    intro w hSw
                    have u0 := box_ hSw z0; have u1 := box_ hSw z1; clear hSw
                    go_simp
                    try with_reducible rfl
                  case qzz29 => exact fun _ _ _ h => h
                  case szz29 => first | assumption | trivial
                  case' rzz29 => simp only [Act.put, List.setIfInBounds_toArray, List.set_cons_zero, List.set_cons_succ]
                  refine wpAnyH_take (i := 32) (oi := ?ozz30) (v := ?vzz30) ?hzz30 ?azz30 ?bzz30 ?czz30 ?qzz30 ?yzz30 ?szz30 ?rzz30
                  case hzz30 => simp only [List.getElem?_toArray, List.getElem?_cons_zero, List.getElem?_cons_succ]; rfl
                  case azz30 => kernel_rfl
                  case bzz30 => kernel_rfl
                  case czz30 => kernel_rfl
                  case yzz30 =>
                    refine Or.inl ⟨by rfl, ?_⟩
                    intro w hSw
                    have u0 := box_ hSw z0; have u1 := box_ hSw z1; clear hSw
                    go_simp
                    try with_reducible rfl
                  case qzz30 => exact fun _ _ _ h => h
                  case szz30 => first | assumption | trivial
                  case' rzz30 => simp only [Act.put, List.setIfInBounds_toArray, List.set_cons_zero, List.set_cons_succ]
                  refine wpAnyH_take (i := 33) (oi := ?ozz31) (v := ?vzz31) ?hzz31 ?azz31 ?bzz31 ?czz31 ?qzz31 ?yzz31 ?szz31 ?rzz31
                  case hzz31 => simp only [List.getElem?_toArray, List.getElem?_cons_zero, List.getElem?_cons_succ]; rfl
                  case azz31 => kernel_rfl
                  case bzz31 => kernel_rfl
                  case czz31 => kernel_rfl
                  case yzz31 =>
                    refine Or.inl ⟨by rfl, ?_⟩
                    intro w hSw
                    have u0 := box_ hSw z0; have u1 := box_ hSw z1; clear hSw
                    go_simp
                    try with_reducible rfl
                  case qzz31 => exact fun _ _ _ h => h
                  case szz31 => first | assumption | trivial
                  case' rzz31 => simp only [Act.put, List.setIfInBounds_toArray, List.set_cons_zero, List.set_cons_succ]
                  refine wpAnyH_take (i := 34) (oi := ?ozz32) (v := ?vzz32) ?hzz32 ?azz32 ?bzz32 ?czz32 ?qzz32 ?yzz32 ?szz32 ?rzz32
                  case hzz32 => simp only [List.getElem?_toArray, List.getElem?_cons_zero, List.getElem?_cons_succ]; rfl
                  case azz32 => kernel_rfl
                  case bzz32 => kernel_rfl
                  case czz32 => kernel_rfl
                  case yzz32 =>
                    refine Or.inl ⟨by rfl, ?_⟩
                    intro w hSw
                    have u0 := box_ hSw z0; have u1 := box_ hSw z1; clear hSw
                    go_simp
                    try with_reducible rfl
                  case qzz32 => exact fun _ _ _ h => h
                  case szz32 => first | assumption | trivial
                  case' rzz32 => simp only [Act.put, List.setIfInBounds_toArray, List.set_cons_zero, List.set_cons_succ]
                  refine wpAnyH_take (i := 35) (oi := ?ozz33) (v := ?vzz33) ?hzz33 ?azz33 ?bzz33 ?czz33 ?qzz33 ?yzz33 ?szz33 ?rzz33
                  case hzz33 => simp only [List.getElem?_toArray, List.getElem?_cons_zero, List.getElem?_cons_succ]; rfl
                  case azz33 => kernel_rfl
                  case bzz33 => kernel_rfl
                  case czz33 => kernel_rfl
                  case yzz33 =>
                    refine Or.inl ⟨by rfl, ?_⟩
                    intro w hSw
                    have u0 := box_ hSw z0; have u1 := box_ hSw z1; clear hSw
                    go_simp
                    try with_reducible rfl
                  case qzz33 => exact fun _ _ _ h => h
                  case szz33 => first | assumption | trivial
                  case' rzz33 => simp only [Act.put, List.setIfInBounds_toArray, List.set_cons_zero, List.set_cons_succ]
                  refine wpAnyH_done (by kernel_rfl) ?_ _
                  have Q4 := Lib.hid (Q3.out.trans hHeld)
                  go_wp2
                  all_goals go_ret
                  all_goals exact ⟨by first | rfl | simp, Q4.out⟩
              case' mzz34 => skip
              exact AllReadyH.nil
          case' mzz35 => skip
          exact AllReadyH.nil
      case' mzz36 => skip
      exact AllReadyH.nil
    · have LI := Lib.hid (show (n + 1) * 40 ≤ 140737488355328 by omega)
      clear hd hn1
      go_enter Try.func6, Try.ntmps6
      go_upto_region 1 with (fail)
      generalize w.alloc (.cells #[.string xk, .string xv, .bool xd] 24) = W0 at q0 X0 ⊢
      obtain ⟨x0, x1, x2⟩ := X0.out
      go_wp2_with fail
      refine (vshown_any _).mono ?_
      rintro e w1 ⟨rfl, q1⟩
      have Q1 := Lib.hid (q0.out.trans q1)
      have y0 := box_ q1 x0
      have y1 := box_ q1 x1
      have y2 := box_ q1 x2
      clear x0 x1 x2 X0 q1
      go_wp2_with fail
      refine (U1.out _ (HD.out.q Q1.out)).mono ?_
      rintro e w2 ⟨rfl, q2⟩
      have Q2 := Lib.hid (Q1.out.trans q2)
      have x0 := box_ q2 y0
      have x1 := box_ q2 y1
      have x2 := box_ q2 y2
      clear y0 y1 y2 q2
      go_wp2_with fail
      refine (P1.out _ (HD.out.q Q2.out)).mono ?_
      rintro e w3 ⟨A3, c3, rfl, o3, q3⟩
      have Q3 := Lib.hid (Q2.out.trans q3)
      have I3 := Lib.hid (o3.in_ LI.out)
      have z0 := box_ q3 x0
      have z1 := box_ q3 x1
      have z2 := box_ q3 x2
      clear x0 x1 x2 q3 o3
      have f1 : (s1 : Int) ≤ (s0 : Int) + (xk.size : Int) + (xv.size : Int) := by omega
      have f2 : IntKind.i64.wrap ((s0 : Int) + (xk.size : Int)) = (s0 : Int) + (xk.size : Int) := by rw [IntKind.wrap_i64]; omega
      have f3 : IntKind.i64.wrap ((s0 : Int) + (xk.size : Int) + (xv.size : Int)) = (s0 : Int) + (xk.size : Int) + (xv.size : Int) := by rw [IntKind.wrap_i64]; omega
      have f4 : (((n + 1 : Nat) : Int) == (n : Int)) = false := by simp; omega
      have f6 : (((n : Int) + 1) == (n : Int)) = false := by simp; omega
      have f7 : (n + 1 == n) = false := by simp
      have f8 : ¬ (n : Int) + 1 = (n : Int) := by omega
      have f5 : IntKind.i64.wrap ((n : Int) + 1) = (n : Int) + 1 := by rw [IntKind.wrap_i64]; omega
      go_upto_region 5 with (fail)
      refine wp_region_held_drew (S := Q w3) (by kernel_rfl) ?szz37 (fun hHeld => ?rzz37)
      case szz37 =>
        exact (Q.refl w3).drew
      case' rzz37 => skip
      refine wpAnyH_take (i := 0) (oi := ?ozz38) (v := ?vzz38) ?hzz38 ?azz38 ?bzz38 ?czz38 ?qzz38 ?yzz38 ?szz38 ?rzz38
      case hzz38 => simp only [List.getElem?_toArray, List.getElem?_cons_zero]; rfl
      case azz38 => kernel_rfl
      case bzz38 => kernel_rfl
      case czz38 => kernel_rfl
      case yzz38 =>
        refine Or.inl ⟨by rfl, ?_⟩
        intro w hSw
        have u0 := box_ hSw z0; have u1 := box_ hSw z1; clear hSw
        go_simp
        try with_reducible rfl
      case qzz38 => exact fun _ _ _ h => h
      case szz38 => first | assumption | trivial
      case' rzz38 => simp only [Act.put, List.setIfInBounds_toArray, List.set_cons_zero, List.set_cons_succ]
      refine wpAnyH_take (i := 1) (oi := ?ozz39) (v := ?vzz39) ?hzz39 ?azz39 ?bzz39 ?czz39 ?qzz39 ?yzz39 ?szz39 ?rzz39
      case hzz39 => simp only [List.getElem?_toArray, List.getElem?_cons_zero, List.getElem?_cons_succ]; rfl
      case azz39 => kernel_rfl
      case bzz39 => kernel_rfl
      case czz39 => kernel_rfl
      case yzz39 =>
        refine Or.inl ⟨by rfl, ?_⟩
        intro w hSw
        have u0 := box_ hSw z0; have u1 := box_ hSw z1; clear hSw
        go_simp
        try with_reducible rfl
      case qzz39 => exact fun _ _ _ h => h
      case szz39 => first | assumption | trivial
      case' rzz39 => simp only [Act.put, List.setIfInBounds_toArray, List.set_cons_zero, List.set_cons_succ]
      refine wpAnyH_take (i := 2) (oi := ?ozz40) (v := ?vzz40) ?hzz40 ?azz40 ?bzz40 ?czz40 ?qzz40 ?yzz40 ?szz40 ?rzz40
      case hzz40 => simp only [List.getElem?_toArray, List.getElem?_cons_zero, List.getElem?_cons_succ]; rfl
      case azz40 => kernel_rfl
      case bzz40 => kernel_rfl
      case czz40 => kernel_rfl
      case yzz40 =>
        refine Or.inl ⟨by rfl, ?_⟩
        intro w hSw
        have u0 := box_ hSw z0; have u1 := box_ hSw z1; clear hSw
        go_simp
        try with_reducible rfl
      case qzz40 => exact fun _ _ _ h => h
      case szz40 => first | assumption | trivial
      case' rzz40 => simp only [Act.put, List.setIfInBounds_toArray, List.set_cons_zero, List.set_cons_succ]
      refine wpAnyH_ready (rs := [3]) (by kernel_rfl) (by simp) ?_
      refine AllReadyH.cons (o := ?ozz73) ?hzz73 (fun K hK => ?kzz73) ?mzz73
      case hzz73 => simp only [List.getElem?_toArray, List.getElem?_cons_zero, List.getElem?_cons_succ]; rfl
      case kzz73 =>
        go_simp
        refine (U2.out (n + 1) _ A3 c3 (I3.out.q hHeld)).mono ?_
        rintro e v1 ⟨rfl, q4⟩
        go_wp2_with fail
        refine hK.out _ _ ?Szz73 (fun hHeld => ?Rzz73)
        case Szz73 =>
          exact hHeld.trans q4
        case Rzz73 =>
          clear hK K
          try simp only [Act.put, List.setIfInBounds_toArray, List.set_cons_zero, List.set_cons_succ]
          refine wpAnyH_take (i := 4) (oi := ?ozz41) (v := ?vzz41) ?hzz41 ?azz41 ?bzz41 ?czz41 ?qzz41 ?yzz41 ?szz41 ?rzz41
          case hzz41 => simp only [List.getElem?_toArray, List.getElem?_cons_zero, List.getElem?_cons_succ]; rfl
          case azz41 => kernel_rfl
          case bzz41 => kernel_rfl
          case czz41 => kernel_rfl
          case yzz41 =>
            refine Or.inl ⟨by rfl, ?_⟩
            intro w hSw
            have u0 := box_ hSw z0; have u1 := box_ hSw z1; clear hSw
            go_simp
            try with_reducible rfl
          case qzz41 => exact fun _ _ _ h => h
          case szz41 => first | assumption | trivial
          case' rzz41 => simp only [Act.put, List.setIfInBounds_toArray, List.set_cons_zero, List.set_cons_succ]
          refine wpAnyH_take (i := 5) (oi := ?ozz42) (v := ?vzz42) ?hzz42 ?azz42 ?bzz42 ?czz42 ?qzz42 ?yzz42 ?szz42 ?rzz42
          case hzz42 => simp only [List.getElem?_toArray, List.getElem?_cons_zero, List.getElem?_cons_succ]; rfl
          case azz42 => kernel_rfl
          case bzz42 => kernel_rfl
          case czz42 => kernel_rfl
          case yzz42 =>
            refine Or.inl ⟨by rfl, ?_⟩
            intro w hSw
            have u0 := box_ hSw z0; have u1 := box_ hSw z1; clear hSw
            go_simp
            try with_reducible rfl
          case qzz42 => exact fun _ _ _ h => h
          case szz42 => first | assumption | trivial
          case' rzz42 => simp only [Act.put, List.setIfInBounds_toArray, List.set_cons_zero, List.set_cons_succ]
          refine wpAnyH_take (i := 6) (oi := ?ozz43) (v := ?vzz43) ?hzz43 ?azz43 ?bzz43 ?czz43 ?qzz43 ?yzz43 ?szz43 ?rzz43
          case hzz43 => simp only [List.getElem?_toArray, List.getElem?_cons_zero, List.getElem?_cons_succ]; rfl
          case azz43 => kernel_rfl
          case bzz43 => kernel_rfl
          case czz43 => kernel_rfl
          case yzz43 =>
            refine Or.inl ⟨by rfl, ?_⟩
            intro w hSw
            have u0 := box_ hSw z0; have u1 := box_ hSw z1; clear hSw
            go_simp
            try with_reducible rfl
          case qzz43 => exact fun _ _ _ h => h
          case szz43 => first | assumption | trivial
          case' rzz43 => simp only [Act.put, List.setIfInBounds_toArray, List.set_cons_zero, List.set_cons_succ]
          refine wpAnyH_take (i := 7) (oi := ?ozz44) (v := ?vzz44) ?hzz44 ?azz44 ?bzz44 ?czz44 ?qzz44 ?yzz44 ?szz44 ?rzz44
          case hzz44 => simp only [List.getElem?_toArray, List.getElem?_cons_zero, List.getElem?_cons_succ]; rfl
          case azz44 => kernel_rfl
          case bzz44 => kernel_rfl
          case czz44 => kernel_rfl
          case yzz44 =>
            refine Or.inl ⟨by rfl, ?_⟩
            intro w hSw
            have u0 := box_ hSw z0; have u1 := box_ hSw z1; clear hSw
            go_simp
            try with_reducible rfl
          case qzz44 => exact fun _ _ _ h => h
          case szz44 => first | assumption | trivial
          case' rzz44 => simp only [Act.put, List.setIfInBounds_toArray, List.set_cons_zero, List.set_cons_succ]
          refine wpAnyH_take (i := 8) (oi := ?ozz45) (v := ?vzz45) ?hzz45 ?azz45 ?bzz45 ?czz45 ?qzz45 ?yzz45 ?szz45 ?rzz45
          case hzz45 => simp only [List.getElem?_toArray, List.getElem?_cons_zero, List.getElem?_cons_succ]; rfl
          case azz45 => kernel_rfl
          case bzz45 => kernel_rfl
          case czz45 => kernel_rfl
          case yzz45 =>
            refine Or.inl ⟨by rfl, ?_⟩
            intro w hSw
            have u0 := box_ hSw z0; have u1 := box_ hSw z1; clear hSw
            go_simp
            try with_reducible rfl
          case qzz45 => exact fun _ _ _ h => h
          case szz45 => first | assumption | trivial
          case' rzz45 => simp only [Act.put, List.setIfInBounds_toArray, List.set_cons_zero, List.set_cons_succ]
          refine wpAnyH_take (i := 9) (oi := ?ozz46) (v := ?vzz46) ?hzz46 ?azz46 ?bzz46 ?czz46 ?qzz46 ?yzz46 ?szz46 ?rzz46
          case hzz46 => simp only [List.getElem?_toArray, List.getElem?_cons_zero, List.getElem?_cons_succ]; rfl
          case azz46 => kernel_rfl
          case bzz46 => kernel_rfl
          case czz46 => kernel_rfl
          case yzz46 =>
            refine Or.inl ⟨by rfl, ?_⟩
            intro w hSw
            have u0 := box_ hSw z0; have u1 := box_ hSw z1; clear hSw
            go_simp
            try with_reducible rfl
          case qzz46 => exact fun _ _ _ h => h
          case szz46 => first | assumption | trivial
          case' rzz46 => simp only [Act.put, List.setIfInBounds_toArray, List.set_cons_zero, List.set_cons_succ]
          refine wpAnyH_take (i := 10) (oi := ?ozz47) (v := ?vzz47) ?hzz47 ?azz47 ?bzz47 ?czz47 ?qzz47 ?yzz47 ?szz47 ?rzz47
          case hzz47 => simp only [List.getElem?_toArray, List.getElem?_cons_zero, List.getElem?_cons_succ]; rfl
          case azz47 => kernel_rfl
          case bzz47 => kernel_rfl
          case czz47 => kernel_rfl
          case yzz47 =>
            refine Or.inl ⟨by rfl, ?_⟩
            intro w hSw
            have u0 := box_ hSw z0; have u1 := box_ hSw z1; clear hSw
            go_simp
            try with_reducible rfl
          case qzz47 => exact fun _ _ _ h => h
          case szz47 => first | assumption | trivial
          case' rzz47 => simp only [Act.put, List.setIfInBounds_toArray, List.set_cons_zero, List.set_cons_succ]
          refine wpAnyH_take (i := 11) (oi := ?ozz48) (v := ?vzz48) ?hzz48 ?azz48 ?bzz48 ?czz48 ?qzz48 ?yzz48 ?szz48 ?rzz48
          case hzz48 => simp only [List.getElem?_toArray, List.getElem?_cons_zero, List.getElem?_cons_succ]; rfl
          case azz48 => kernel_rfl
          case bzz48 => kernel_rfl
          case czz48 => kernel_rfl
          case yzz48 =>
            refine Or.inl ⟨by rfl, ?_⟩
            intro w hSw
            have u0 := box_ hSw z0; have u1 := box_ hSw z1; clear hSw
            go_simp
            try with_reducible rfl
          case qzz48 => exact fun _ _ _ h => h
          case szz48 => first | assumption | trivial
          case' rzz48 => simp only [Act.put, List.setIfInBounds_toArray, List.set_cons_zero, List.set_cons_succ]
          refine wpAnyH_take (i := 12) (oi := ?ozz49) (v := ?vzz49) ?hzz49 ?azz49 ?bzz49 ?czz49 ?qzz49 ?yzz49 ?szz49 ?rzz49
          case hzz49 => simp only [List.getElem?_toArray, List.getElem?_cons_zero, List.getElem?_cons_succ]; rfl
          case azz49 => kernel_rfl
          case bzz49 => kernel_rfl
          case czz49 => kernel_rfl
          case yzz49 =>
            refine Or.inl ⟨by rfl, ?_⟩
            intro w hSw
            have u0 := box_ hSw z0; have u1 := box_ hSw z1; clear hSw
            go_simp
            try with_reducible rfl
          case qzz49 => exact fun _ _ _ h => h
          case szz49 => first | assumption | trivial
          case' rzz49 => simp only [Act.put, List.setIfInBounds_toArray, List.set_cons_zero, List.set_cons_succ]
          refine wpAnyH_take (i := 13) (oi := ?ozz50) (v := ?vzz50) ?hzz50 ?azz50 ?bzz50 ?czz50 ?qzz50 ?yzz50 ?szz50 ?rzz50
          case hzz50 => simp only [List.getElem?_toArray, List.getElem?_cons_zero, List.getElem?_cons_succ]; rfl
          case azz50 => kernel_rfl
          case bzz50 => kernel_rfl
          case czz50 => kernel_rfl
          case yzz50 =>
            refine Or.inl ⟨by rfl, ?_⟩
            intro w hSw
            have u0 := box_ hSw z0; have u1 := box_ hSw z1; clear hSw
            go_simp
            try with_reducible rfl
          case qzz50 => exact fun _ _ _ h => h
          case szz50 => first | assumption | trivial
          case' rzz50 => simp only [Act.put, List.setIfInBounds_toArray, List.set_cons_zero, List.set_cons_succ]
          refine wpAnyH_take (i := 14) (oi := ?ozz51) (v := ?vzz51) ?hzz51 ?azz51 ?bzz51 ?czz51 ?qzz51 ?yzz51 ?szz51 ?rzz51
          case hzz51 => simp only [List.getElem?_toArray, List.getElem?_cons_zero, List.getElem?_cons_succ]; rfl
          case azz51 => kernel_rfl
          case bzz51 => kernel_rfl
          case czz51 => kernel_rfl
          case yzz51 =>
            refine Or.inl ⟨by rfl, ?_⟩
            intro w hSw
            have u0 := box_ hSw z0; have u1 := box_ hSw z1; clear hSw
            go_simp
            try with_reducible rfl
          case qzz51 => exact fun _ _ _ h => h
          case szz51 => first | assumption | trivial
          case' rzz51 => simp only [Act.put, List.setIfInBounds_toArray, List.set_cons_zero, List.set_cons_succ]
          refine wpAnyH_take (i := 15) (oi := ?ozz52) (v := ?vzz52) ?hzz52 ?azz52 ?bzz52 ?czz52 ?qzz52 ?yzz52 ?szz52 ?rzz52
          case hzz52 => simp only [List.getElem?_toArray, List.getElem?_cons_zero, List.getElem?_cons_succ]; rfl
          case azz52 => kernel_rfl
          case bzz52 => kernel_rfl
          case czz52 => kernel_rfl
          case yzz52 =>
            refine Or.inl ⟨by rfl, ?_⟩
            intro w hSw
            have u0 := box_ hSw z0; have u1 := box_ hSw z1; clear hSw
            go_simp
            try with_reducible rfl
          case qzz52 => exact fun _ _ _ h => h
          case szz52 => first | assumption | trivial
          case' rzz52 => simp only [Act.put, List.setIfInBounds_toArray, List.set_cons_zero, List.set_cons_succ]
          refine wpAnyH_take (i := 16) (oi := ?ozz53) (v := ?vzz53) ?hzz53 ?azz53 ?bzz53 ?czz53 ?qzz53 ?yzz53 ?szz53 ?rzz53
          case hzz53 => simp only [List.getElem?_toArray, List.getElem?_cons_zero, List.getElem?_cons_succ]; rfl
          case azz53 => kernel_rfl
          case bzz53 => kernel_rfl
          case czz53 => kernel_rfl
          case yzz53 =>
            refine Or.inl ⟨by rfl, ?_⟩
            intro w hSw
            have u0 := box_ hSw z0; have u1 := box_ hSw z1; clear hSw
            go_simp
            try with_reducible rfl
          case qzz53 => exact fun _ _ _ h => h
          case szz53 => first | assumption | trivial
          case' rzz53 => simp only [Act.put, List.setIfInBounds_toArray, List.set_cons_zero, List.set_cons_succ]
          refine wpAnyH_take (i := 17) (oi := ?ozz54) (v := ?vzz54) ?hzz54 ?azz54 ?bzz54 ?czz54 ?qzz54 ?yzz54 ?szz54 ?rzz54
          case hzz54 => simp only [List.getElem?_toArray, List.getElem?_cons_zero, List.getElem?_cons_succ]; rfl
          case azz54 => kernel_rfl
          case bzz54 => kernel_rfl
          case czz54 => kernel_rfl
          case yzz54 =>
            refine Or.inl ⟨by rfl, ?_⟩
            intro w hSw
            have u0 := box_ hSw z0; have u1 := box_ hSw z1; clear hSw
            go_simp
            try with_reducible rfl
          case qzz54 => exact fun _ _ _ h => h
          case szz54 => first | assumption | trivial
          case' rzz54 => simp only [Act.put, List.setIfInBounds_toArray, List.set_cons_zero, List.set_cons_succ]
          refine wpAnyH_take (i := 18) (oi := ?ozz55) (v := ?vzz55) ?hzz55 ?azz55 ?bzz55 ?czz55 ?qzz55 ?yzz55 ?szz55 ?rzz55
          case hzz55 => simp only [List.getElem?_toArray, List.getElem?_cons_zero, List.getElem?_cons_succ]; rfl
          case azz55 => kernel_rfl
          case bzz55 => kernel_rfl
          case czz55 => kernel_rfl
          case yzz55 =>
            refine Or.inl ⟨by rfl, ?_⟩
            intro w hSw
            have u0 := box_ hSw z0; have u1 := box_ hSw z1; clear hSw
            go_simp
            try with_reducible rfl
          case qzz55 => exact fun _ _ _ h => h
          case szz55 => first | assumption | trivial
          case' rzz55 => simp only [Act.put, List.setIfInBounds_toArray, List.set_cons_zero, List.set_cons_succ]
          refine wpAnyH_take (i := 19) (oi := ?ozz56) (v := ?vzz56) ?hzz56 ?azz56 ?bzz56 ?czz56 ?qzz56 ?yzz56 ?szz56 ?rzz56
          case hzz56 => simp only [List.getElem?_toArray, List.getElem?_cons_zero, List.getElem?_cons_succ]; rfl
          case azz56 => kernel_rfl
          case bzz56 => kernel_rfl
          case czz56 => kernel_rfl
          case yzz56 =>
            refine Or.inl ⟨by rfl, ?_⟩
            intro w hSw
            have u0 := box_ hSw z0; have u1 := box_ hSw z1; clear hSw
            go_simp
            try with_reducible rfl
          case qzz56 => exact fun _ _ _ h => h
          case szz56 => first | assumption | trivial
          case' rzz56 => simp only [Act.put, List.setIfInBounds_toArray, List.set_cons_zero, List.set_cons_succ]
          refine wpAnyH_take (i := 20) (oi := ?ozz57) (v := ?vzz57) ?hzz57 ?azz57 ?bzz57 ?czz57 ?qzz57 ?yzz57 ?szz57 ?rzz57
          case hzz57 => simp only [List.getElem?_toArray, List.getElem?_cons_zero, List.getElem?_cons_succ]; rfl
          case azz57 => kernel_rfl
          case bzz57 => kernel_rfl
          case czz57 => kernel_rfl
          case yzz57 =>
            refine Or.inl ⟨by rfl, ?_⟩
            intro w hSw
            have u0 := box_ hSw z0; have u1 := box_ hSw z1; clear hSw
            go_simp
            try with_reducible rfl
          case qzz57 => exact fun _ _ _ h => h
          case szz57 => first | assumption | trivial
          case' rzz57 => simp only [Act.put, List.setIfInBounds_toArray, List.set_cons_zero, List.set_cons_succ]
          refine wpAnyH_take (i := 21) (oi := ?ozz58) (v := ?vzz58) ?hzz58 ?azz58 ?bzz58 ?czz58 ?qzz58 ?yzz58 ?szz58 ?rzz58
          case hzz58 => simp only [List.getElem?_toArray, List.getElem?_cons_zero, List.getElem?_cons_succ]; rfl
          case azz58 => kernel_rfl
          case bzz58 => kernel_rfl
          case czz58 => kernel_rfl
          case yzz58 =>
            refine Or.inl ⟨by rfl, ?_⟩
            intro w hSw
            have u0 := box_ hSw z0; have u1 := box_ hSw z1; clear hSw
            go_simp
            try with_reducible rfl
          case qzz58 => exact fun _ _ _ h => h
          case szz58 => first | assumption | trivial
          case' rzz58 => simp only [Act.put, List.setIfInBounds_toArray, List.set_cons_zero, List.set_cons_succ]
          refine wpAnyH_take (i := 23) (oi := ?ozz59) (v := ?vzz59) ?hzz59 ?azz59 ?bzz59 ?czz59 ?qzz59 ?yzz59 ?szz59 ?rzz59
          case hzz59 => simp only [List.getElem?_toArray, List.getElem?_cons_zero, List.getElem?_cons_succ]; rfl
          case azz59 => kernel_rfl
          case bzz59 => kernel_rfl
          case czz59 => kernel_rfl
          case yzz59 =>
            refine Or.inl ⟨by rfl, ?_⟩
            intro w hSw
            have u0 := box_ hSw z0; have u1 := box_ hSw z1; clear hSw
            go_simp
            try with_reducible rfl
          case qzz59 => exact fun _ _ _ h => h
          case szz59 => first | assumption | trivial
          case' rzz59 => simp only [Act.put, List.setIfInBounds_toArray, List.set_cons_zero, List.set_cons_succ]
          refine wpAnyH_take (i := 25) (oi := ?ozz60) (v := ?vzz60) ?hzz60 ?azz60 ?bzz60 ?czz60 ?qzz60 ?yzz60 ?szz60 ?rzz60
          case hzz60 => simp only [List.getElem?_toArray, List.getElem?_cons_zero, List.getElem?_cons_succ]; rfl
          case azz60 => kernel_rfl
          case bzz60 => kernel_rfl
          case czz60 => kernel_rfl
          case yzz60 =>
            refine Or.inl ⟨by rfl, ?_⟩
            intro w hSw
            have u0 := box_ hSw z0; have u1 := box_ hSw z1; clear hSw
            go_simp
            try with_reducible rfl
          case qzz60 => exact fun _ _ _ h => h
          case szz60 => first | assumption | trivial
          case' rzz60 => simp only [Act.put, List.setIfInBounds_toArray, List.set_cons_zero, List.set_cons_succ]
          refine wpAnyH_take (i := 26) (oi := ?ozz61) (v := ?vzz61) ?hzz61 ?azz61 ?bzz61 ?czz61 ?qzz61 ?yzz61 ?szz61 ?rzz61
          case hzz61 => simp only [List.getElem?_toArray, List.getElem?_cons_zero, List.getElem?_cons_succ]; rfl
          case azz61 => kernel_rfl
          case bzz61 => kernel_rfl
          case czz61 => kernel_rfl
          case yzz61 =>
            refine Or.inl ⟨by rfl, ?_⟩
            intro w hSw
            have u0 := box_ hSw z0; have u1 := box_ hSw z1; clear hSw
            go_simp
            try with_reducible rfl
          case qzz61 => exact fun _ _ _ h => h
          case szz61 => first | assumption | trivial
          case' rzz61 => simp only [Act.put, List.setIfInBounds_toArray, List.set_cons_zero, List.set_cons_succ]
          refine wpAnyH_take (i := 27) (oi := ?ozz62) (v := ?vzz62) ?hzz62 ?azz62 ?bzz62 ?czz62 ?qzz62 ?yzz62 ?szz62 ?rzz62
          case hzz62 => simp only [List.getElem?_toArray, List.getElem?_cons_zero, List.getElem?_cons_succ]; rfl
          case azz62 => kernel_rfl
          case bzz62 => kernel_rfl
          case czz62 => kernel_rfl
          case yzz62 =>
            refine Or.inl ⟨by rfl, ?_⟩
            intro w hSw
            have u0 := box_ hSw z0; have u1 := box_ hSw z1; clear hSw
            go_simp
            try with_reducible rfl
          case qzz62 => exact fun _ _ _ h => h
          case szz62 => first | assumption | trivial
          case' rzz62 => simp only [Act.put, List.setIfInBounds_toArray, List.set_cons_zero, List.set_cons_succ]
          refine wpAnyH_take (i := 29) (oi := ?ozz63) (v := ?vzz63) ?hzz63 ?azz63 ?bzz63 ?czz63 ?qzz63 ?yzz63 ?szz63 ?rzz63
          case hzz63 => simp only [List.getElem?_toArray, List.getElem?_cons_zero, List.getElem?_cons_succ]; rfl
          case azz63 => kernel_rfl
          case bzz63 => kernel_rfl
          case czz63 => kernel_rfl
          case yzz63 =>
            refine Or.inl ⟨by rfl, ?_⟩
            intro w hSw
            have u0 := box_ hSw z0; have u1 := box_ hSw z1; clear hSw
            go_simp
            try with_reducible rfl
          case qzz63 => exact fun _ _ _ h => h
          case szz63 => first | assumption | trivial
          case' rzz63 => simp only [Act.put, List.setIfInBounds_toArray, List.set_cons_zero, List.set_cons_succ]
          refine wpAnyH_take (i := 30) (oi := ?ozz64) (v := ?vzz64) ?hzz64 ?azz64 ?bzz64 ?czz64 ?qzz64 ?yzz64 ?szz64 ?rzz64
          case hzz64 => simp only [List.getElem?_toArray, List.getElem?_cons_zero, List.getElem?_cons_succ]; rfl
          case azz64 => kernel_rfl
          case bzz64 => kernel_rfl
          case czz64 => kernel_rfl
          case yzz64 =>
            refine Or.inl ⟨by rfl, ?_⟩
            intro w hSw
            have u0 := box_ hSw z0; have u1 := box_ hSw z1; clear hSw
            go_simp
            try with_reducible rfl
          case qzz64 => exact fun _ _ _ h => h
          case szz64 => first | assumption | trivial
          case' rzz64 => simp only [Act.put, List.setIfInBounds_toArray, List.set_cons_zero, List.set_cons_succ]
          refine wpAnyH_take (i := 31) (oi := ?ozz65) (v := ?vzz65) ?hzz65 ?azz65 ?bzz65 ?czz65 ?qzz65 ?yzz65 ?szz65 ?rzz65
          case hzz65 => simp only [List.getElem?_toArray, List.getElem?_cons_zero, List.getElem?_cons_succ]; rfl
          case azz65 => kernel_rfl
          case bzz65 => kernel_rfl
          case czz65 => kernel_rfl
          case yzz65 =>
            refine Or.inl ⟨by rfl, ?_⟩
            intro w hSw
            have u0 := box_ hSw z0; have u1 := box_ hSw z1; clear hSw
            go_simp
            try with_reducible rfl
          case qzz65 => exact fun _ _ _ h => h
          case szz65 => first | assumption | trivial
          case' rzz65 => simp only [Act.put, List.setIfInBounds_toArray, List.set_cons_zero, List.set_cons_succ]
          refine wpAnyH_ready (rs := [22]) (by kernel_rfl) (by simp) ?_
          refine AllReadyH.cons (o := ?ozz72) ?hzz72 (fun K hK => ?kzz72) ?mzz72
          case hzz72 => simp only [List.getElem?_toArray, List.getElem?_cons_zero, List.getElem?_cons_succ]; rfl
          case kzz72 =>
            go_simp
            refine (S1.out (n + 1) _ A3 c3 (I3.out.q hHeld)).mono ?_
            rintro e v2 ⟨rfl, q5⟩
            go_wp2_with fail
            refine hK.out _ _ ?Szz72 (fun hHeld => ?Rzz72)
            case Szz72 =>
              exact hHeld.trans q5
            case Rzz72 =>
              clear hK K
              try simp only [Act.put, List.setIfInBounds_toArray, List.set_cons_zero, List.set_cons_succ]
              refine wpAnyH_ready (rs := [24]) (by kernel_rfl) (by simp) ?_
              refine AllReadyH.cons (o := ?ozz71) ?hzz71 (fun K hK => ?kzz71) ?mzz71
              case hzz71 => simp only [List.getElem?_toArray, List.getElem?_cons_zero, List.getElem?_cons_succ]; rfl
              case kzz71 =>
                go_simp
                refine (S0.out _ (HD.out.q (Q3.out.trans hHeld))).mono ?_
                rintro e v3 ⟨rfl, q6⟩
                go_wp2_with fail
                refine hK.out _ _ ?Szz71 (fun hHeld => ?Rzz71)
                case Szz71 =>
                  exact hHeld.trans q6
                case Rzz71 =>
                  clear hK K
                  try simp only [Act.put, List.setIfInBounds_toArray, List.set_cons_zero, List.set_cons_succ]
                  refine wpAnyH_take (i := 28) (oi := ?ozz66) (v := ?vzz66) ?hzz66 ?azz66 ?bzz66 ?czz66 ?qzz66 ?yzz66 ?szz66 ?rzz66
                  case hzz66 => simp only [List.getElem?_toArray, List.getElem?_cons_zero, List.getElem?_cons_succ]; rfl
                  case azz66 => kernel_rfl
                  case bzz66 => kernel_rfl
                  case czz66 => kernel_rfl
                  case yzz66 =>
                    refine Or.inl ⟨by rfl, ?_⟩
                    intro w hSw
                    have u0 := box_ hSw z0; have u1 := box_ hSw z1; clear hSw
                    go_simp
                    try with_reducible rfl
                  case qzz66 => exact fun _ _ _ h => h
                  case szz66 => first | assumption | trivial
                  case' rzz66 => simp only [Act.put, List.setIfInBounds_toArray, List.set_cons_zero, List.set_cons_succ]
                  refine wpAnyH_take (i := 32) (oi := ?ozz67) (v := ?vzz67) ?hzz67 ?azz67 ?bzz67 ?czz67 ?qzz67 ?yzz67 ?szz67 ?rzz67
                  case hzz67 => simp only [List.getElem?_toArray, List.getElem?_cons_zero, List.getElem?_cons_succ]; rfl
                  case azz67 => kernel_rfl
                  case bzz67 => kernel_rfl
                  case czz67 => kernel_rfl
                  case yzz67 =>
                    refine Or.inl ⟨by rfl, ?_⟩
                    intro w hSw
                    have u0 := box_ hSw z0; have u1 := box_ hSw z1; clear hSw
                    go_simp
                    try with_reducible rfl
                  case qzz67 => exact fun _ _ _ h => h
                  case szz67 => first | assumption | trivial
                  case' rzz67 => simp only [Act.put, List.setIfInBounds_toArray, List.set_cons_zero, List.set_cons_succ]
                  refine wpAnyH_take (i := 33) (oi := ?ozz68) (v := ?vzz68) ?hzz68 ?azz68 ?bzz68 ?czz68 ?qzz68 ?yzz68 ?szz68 ?rzz68
                  case hzz68 => simp only [List.getElem?_toArray, List.getElem?_cons_zero, List.getElem?_cons_succ]; rfl
                  case azz68 => kernel_rfl
                  case bzz68 => kernel_rfl
                  case czz68 => kernel_rfl
                  case yzz68 =>
                    refine Or.inl ⟨by rfl, ?_⟩
                    intro w hSw
                    have u0 := box_ hSw z0; have u1 := box_ hSw z1; clear hSw
                    go_simp
                    try with_reducible rfl
                  case qzz68 => exact fun _ _ _ h => h
                  case szz68 => first | assumption | trivial
                  case' rzz68 => simp only [Act.put, List.setIfInBounds_toArray, List.set_cons_zero, List.set_cons_succ]
                  refine wpAnyH_take (i := 34) (oi := ?ozz69) (v := ?vzz69) ?hzz69 ?azz69 ?bzz69 ?czz69 ?qzz69 ?yzz69 ?szz69 ?rzz69
                  case hzz69 => simp only [List.getElem?_toArray, List.getElem?_cons_zero, List.getElem?_cons_succ]; rfl
                  case azz69 => kernel_rfl
                  case bzz69 => kernel_rfl
                  case czz69 => kernel_rfl
                  case yzz69 =>
                    refine Or.inl ⟨by rfl, ?_⟩
                    intro w hSw
                    have u0 := box_ hSw z0; have u1 := box_ hSw z1; clear hSw
                    go_simp
                    try with_reducible rfl
                  case qzz69 => exact fun _ _ _ h => h
                  case szz69 => first | assumption | trivial
                  case' rzz69 => simp only [Act.put, List.setIfInBounds_toArray, List.set_cons_zero, List.set_cons_succ]
                  refine wpAnyH_take (i := 35) (oi := ?ozz70) (v := ?vzz70) ?hzz70 ?azz70 ?bzz70 ?czz70 ?qzz70 ?yzz70 ?szz70 ?rzz70
                  case hzz70 => simp only [List.getElem?_toArray, List.getElem?_cons_zero, List.getElem?_cons_succ]; rfl
                  case azz70 => kernel_rfl
                  case bzz70 => kernel_rfl
                  case czz70 => kernel_rfl
                  case yzz70 =>
                    refine Or.inl ⟨by rfl, ?_⟩
                    intro w hSw
                    have u0 := box_ hSw z0; have u1 := box_ hSw z1; clear hSw
                    go_simp
                    try with_reducible rfl
                  case qzz70 => exact fun _ _ _ h => h
                  case szz70 => first | assumption | trivial
                  case' rzz70 => simp only [Act.put, List.setIfInBounds_toArray, List.set_cons_zero, List.set_cons_succ]
                  refine wpAnyH_done (by kernel_rfl) ?_ _
                  have Q4 := Lib.hid (Q3.out.trans hHeld)
                  go_wp2
                  all_goals go_ret
                  all_goals exact ⟨by first | rfl | simp, Q4.out⟩
              case' mzz71 => skip
              exact AllReadyH.nil
          case' mzz72 => skip
          exact AllReadyH.nil
      case' mzz73 => skip
      exact AllReadyH.nil
  · rw [show risesB l = false by simpa using hr] at U1
    have U1 := Lib.hid U1
    clear hd hp hb hr hu hn1
    go_enter Try.func6, Try.ntmps6
    go_upto_region 1 with (fail)
    generalize w.alloc (.cells #[.string xk, .string xv, .bool xd] 24) = W0 at q0 X0 ⊢
    obtain ⟨x0, x1, x2⟩ := X0.out
    go_wp2_with fail
    refine (vshown_any _).mono ?_
    rintro e w1 ⟨rfl, q1⟩
    have Q1 := Lib.hid (q0.out.trans q1)
    have y0 := box_ q1 x0
    have y1 := box_ q1 x1
    have y2 := box_ q1 x2
    clear x0 x1 x2 X0 q1
    go_wp2_with fail
    refine (U1.out _ (HD.out.q Q1.out)).mono ?_
    rintro e w2 ⟨rfl, q2⟩
    have Q2 := Lib.hid (Q1.out.trans q2)
    have x0 := box_ q2 y0
    have x1 := box_ q2 y1
    have x2 := box_ q2 y2
    clear y0 y1 y2 q2
    go_wp2
    all_goals go_ret
    all_goals exact ⟨by first | rfl | simp, Q2.out⟩

theorem opened (W : World) (args : Array Value) (hn : args.size = 2) (h : ∀ (j : Nat) t v, Try.f6.params[j]? = some t → args[j]? = some v → RdV W t v ∧ (true = true → RdU W t v.cells.toList)) :
    Calls Try.prog 6 args W fun e W' => e = .returned (.bool true) ∧ Q W W' := by
  obtain ⟨v0, v1, rfl⟩ := args2 hn
  rw [Try.params6] at h
  obtain ⟨A0, n0, c0, e0, r0⟩ := (h 0 22 v0 rfl rfl).1.slice Try.underlying22
  obtain ⟨B0, m0, d0, w, f0, hd0, hb0, hp0⟩ := open_writes r0
  simp only [List.cons.injEq, Value.slice.injEq, and_true] at f0
  obtain ⟨rfl, rfl, rfl⟩ := f0
  obtain ⟨cs1, e1, r1⟩ := (h 1 24 v1 rfl rfl).1.struct Try.underlying24
  obtain ⟨x, f1, p1⟩ := open_write r1
  subst f1
  subst e0 e1
  have u0 := small_list hd0 (fun a ha => RdU.cap (w := W) (t := 22) (a := a) (len := n0) (cap := c0) (by subst ha; exact ((h 0 22 _ rfl rfl).2 rfl)) Try.underlying22)
  exact walk A0 n0 c0 w x W hd0 hb0 hp0 p1 u0 (writes_small hd0 ((h 0 22 _ rfl rfl).2 rfl))

set_option maxRecDepth 100000 in
theorem lifted (os : Os) (started : os.Started) (H : Type) (enc : TypeId × Value → H) (F : Stop.Interp) :
    ReturnsInHanded {} Try.checked os 6 .any ((Rows.OpenSpec.upto Rows.viewRisesSpec).pre6 enc Try.prog Try.f6 Rows.viewRisesUptoRow.domain false) (((Rows.OpenSpec.upto Rows.viewRisesSpec).at F).post enc Try.prog Try.f6 false true false false) :=
  framedU (s := Rows.viewRisesSpec) 2 Try.func6 (by rw [Try.params6]; rfl) rfl (by kernel_rfl) (by kernel_rfl) (by kernel_rfl)
    (fun H ds h => by match ds, h with | [d0, d1], _ => exact ⟨rfl, rfl, rfl⟩)
    opened os started H enc F
    (OpenSpec.witness (enc := enc) (C := Try.checked) (s := Rows.OpenSpec.upto Rows.viewRisesSpec) (k := Rows.uptoSmall) rfl false ⟨#[], #[.slice none 0 0, .agg #[.string ByteArray.empty, .string ByteArray.empty, .bool false]], []⟩ 8 (by kernel_rfl) (by kernel_rfl) (by kernel_rfl)
      (x := ([.nil, .agg [.lit (.string []), .lit (.string []), .lit (.bool false)]], [], [])) (by kernel_rfl) (by kernel_rfl) (by kernel_rfl))

theorem proved : Rows.ViewRisesUptoSaid :=
  OpenClaim.holds_of_cond 6 Try.f6 rfl rfl rfl rfl rfl rfl rfl ⟨rfl, rfl, rfl, rfl, rfl⟩ rfl rfl rfl rfl rfl (by kernel_rfl) Try.func6 (by kernel_rfl)
    (of_decide_eq_true (by kernel_rfl)) (by unfold Func.isWrapper; first | (rw [if_pos (by decide +kernel)]; kernel_rfl) | (rw [if_neg (by decide +kernel)]; exact ⟨rfl, rfl⟩))
    (fun os started H enc _ F => lifted os started H enc F)
end Go.Proofs.Ytcclgepccahhbaa.viewRisesUpto
