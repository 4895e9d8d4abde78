/- For all locks, few, and every transaction: all of its ring have the same ring, and the same victim, the last one of it; each waits for one of it. No condition. -/
import Derived.Test.YtncnfblnelkmbaaA9
import Derived.Test.YtncnfblnelkmbaaA10
namespace Go.Proofs.Ytncnfblnelkmbaa.ringSame
set_option maxRecDepth 100000
open Go.ChangeShapes Go.WideShapes Go.ChangeAt Go.RowKit Lm Sm
set_option linter.unusedVariables false
set_option linter.unusedSimpArgs false

set_option maxHeartbeats 16000000 in
set_option maxRecDepth 100000 in
theorem walk (A B : Option Addr) (n c m d : Nat) (l : Lo) (txn : Int) (w : World) (h : LIn w A n c B m d l) :
    Calls Try.prog 4 #[locV A n c B m d, .int .i64 txn] w fun e w' => e = .returned (.bool true) ∧ Q w w' := by
  have KS := Lib.hid (fun W => rgsmall_any A B n c m d W)
  by_cases hs : n ≤ 30 ∧ m ≤ 12
  · rw [rgfew hs] at KS
    have h1 := h.held.lst
    have h2 := h.queue
    have hi := h.loI
    have hw := h.loW
    have hnd := nodes_few h.held.len h.queue.len (show n + m ≤ 4000 by omega)
    have KR := Lib.hid (fun x W q => lring_any A B n c m d l x W (h1.q q) (h2.q q) hi.1 hi.2 (by omega))
    have KV := Lib.hid (fun x W q => lvictim_any A B n c m d l x W (h1.q q) (h2.q q) hi.1 hi.2 (by omega))
    have KA := Lib.hid (fun x W q => lafter_any A B n c m d l x W (h1.q q) (h2.q q) hi.1 hi.2 (by omega))
    have E1 := Lib.hid (fun x (hx : x ∈ ring l txn) => ring_same hx)
    have E2 := Lib.hid (fun x (hx : x ∈ ring l txn) => show ∃ c ∈ aft l x, c ∈ ring l txn from (by
      obtain ⟨c, h1, h2⟩ := ring_next hx
      exact ⟨c, h1, h2⟩))
    have N1 := Lib.hid (show (ring l txn).length ≤ 4000 by have := ring_len l txn; omega)
    have N2 := Lib.hid (fun x => show (aft l x).length ≤ 4000 by have := aft_len l x; omega)
    have KT := Lib.hid (KR.out txn)
    generalize ring l txn = r at KT E1 E2 N1
    clear h h1 h2 hi hw hs hnd
    go_enter Try.func4, Try.ntmps4
    go_wp2_with fail
    refine (rgshown_any _).mono ?_
    rintro e w1 ⟨rfl, q1⟩
    have X := Lib.hid ((Bx.new w [.slice A n c, .slice B m d] 25).q q1)
    have HQ := Lib.hid (((Q.refl w).alloc (.cells #[.slice A n c, .slice B m d] 25)).trans q1)
    clear q1
    obtain ⟨⟨x0, x1⟩, x2, x3⟩ := X.out.get2
    go_wp2_with fail
    refine (KS.out _).mono ?_
    rintro e w2 ⟨rfl, q2⟩
    have X := Lib.hid (X.out.q q2)
    have HQ := Lib.hid (HQ.out.trans q2)
    clear q2 x0 x1 x2 x3
    obtain ⟨⟨x0, x1⟩, x2, x3⟩ := X.out.get2
    go_wp2_with fail
    refine (KT.out _ HQ.out).mono ?_
    rintro e w3 ⟨A1, c1, rfl, o1, q3⟩
    have L1 := Lib.hid o1.lst
    clear o1
    have X := Lib.hid (X.out.q q3)
    have HQ := Lib.hid (HQ.out.trans q3)
    clear q3 x0 x1 x2 x3
    obtain ⟨⟨x0, x1⟩, x2, x3⟩ := X.out.get2
    have hn1 := N1.out
    go_wp2
    clear x0 x1 x2 x3
    go_loopw [8] (fun i wr => ∃ k : Nat, k ≤ r.length ∧ i = .int .i64 k ∧ Q w3 wr) (fun i _ => r.length - (intOf i).toNat)
    case atStart => exact ⟨0, Nat.zero_le _, rfl, Q.refl _⟩
    case round =>
      obtain ⟨k, hk, rfl, q4⟩ := hrel
      have X := Lib.hid (X.out.q q4)
      have HQ := Lib.hid (HQ.out.trans q4)
      have HQ3 := Lib.hid q4
      have L4 := Lib.hid (L1.out.q q4)
      clear q4
      obtain ⟨⟨x0, x1⟩, x2, x3⟩ := X.out.get2
      by_cases hlt : k < r.length
      · have hki : (k : Int) < (r.length : Int) := by omega
        obtain ⟨ad, hae, hab, y0⟩ := load_num L4.out hlt hlt
        obtain ⟨ad2, hae2, hab2, v0⟩ := load_num L4.out (k := r.length - 1) (by omega) (by omega)
        rw [hae] at hae2
        injection hae2 with hae2
        subst hae2
        subst hae
        have hmem := List.getElem_mem hlt
        have hlast : r.getLast? = some r[r.length - 1] := by rw [List.getLast?_eq_getElem?, List.getElem?_eq_getElem (by omega)]
        generalize r[k] = u at y0 hmem
        have hne : decide (r ≠ []) = true := by simp; intro e; subst e; simp at hlt
        have hru := E1.out u hmem
        have KU := Lib.hid (hru ▸ KR.out u)
        have KW := Lib.hid (hru ▸ KV.out u)
        rw [hlast, hne, Option.getD_some] at KW
        generalize r[r.length - 1] = lv at v0 KW
        have HE := Lib.hid (E2.out u hmem)
        have hau := N2.out u
        have KN := Lib.hid (KA.out u)
        generalize aft l u = nx at HE hau KN
        clear hru hne hlast hmem
        go_wp2
        refine wp_region_held_drew (S := Q wr) (by kernel_rfl) ?szz0 (fun hHeld => ?rzz0)
        case szz0 =>
          exact (Q.refl wr).drew
        case' rzz0 => skip
        generalize hgen : wr.drew = D0 at hHeld ⊢
        clear hgen
        refine wpAnyH_take (i := 0) (oi := ?ozz1) (v := ?vzz1) ?hzz1 ?azz1 ?bzz1 ?czz1 ?qzz1 ?yzz1 ?szz1 ?rzz1
        case hzz1 => simp only [List.getElem?_toArray, List.getElem?_cons_zero]; rfl
        case azz1 => kernel_rfl
        case bzz1 => kernel_rfl
        case czz1 => kernel_rfl
        case yzz1 =>
          refine Or.inl ⟨by rfl, ?_⟩
          intro w hSw
          have z0 := box_ hSw x0; have z1 := box_ hSw x1; have z2 := box_ hSw y0; clear hSw
          go_simp
          try with_reducible rfl
        case qzz1 => exact fun _ _ _ h => h
        case szz1 => first | assumption | trivial
        case' rzz1 => simp only [Act.put, List.setIfInBounds_toArray, List.set_cons_zero, List.set_cons_succ]
        refine wpAnyH_take (i := 1) (oi := ?ozz2) (v := ?vzz2) ?hzz2 ?azz2 ?bzz2 ?czz2 ?qzz2 ?yzz2 ?szz2 ?rzz2
        case hzz2 => simp only [List.getElem?_toArray, List.getElem?_cons_zero, List.getElem?_cons_succ]; rfl
        case azz2 => kernel_rfl
        case bzz2 => kernel_rfl
        case czz2 => kernel_rfl
        case yzz2 =>
          refine Or.inl ⟨by rfl, ?_⟩
          intro w hSw
          have z0 := box_ hSw x0; have z1 := box_ hSw x1; have z2 := box_ hSw y0; clear hSw
          go_simp
          try with_reducible rfl
        case qzz2 => exact fun _ _ _ h => h
        case szz2 => first | assumption | trivial
        case' rzz2 => simp only [Act.put, List.setIfInBounds_toArray, List.set_cons_zero, List.set_cons_succ]
        refine wpAnyH_take (i := 2) (oi := ?ozz3) (v := ?vzz3) ?hzz3 ?azz3 ?bzz3 ?czz3 ?qzz3 ?yzz3 ?szz3 ?rzz3
        case hzz3 => simp only [List.getElem?_toArray, List.getElem?_cons_zero, List.getElem?_cons_succ]; rfl
        case azz3 => kernel_rfl
        case bzz3 => kernel_rfl
        case czz3 => kernel_rfl
        case yzz3 =>
          refine Or.inl ⟨by rfl, ?_⟩
          intro w hSw
          have z0 := box_ hSw x0; have z1 := box_ hSw x1; have z2 := box_ hSw y0; clear hSw
          go_simp
          try with_reducible rfl
        case qzz3 => exact fun _ _ _ h => h
        case szz3 => first | assumption | trivial
        case' rzz3 => simp only [Act.put, List.setIfInBounds_toArray, List.set_cons_zero, List.set_cons_succ]
        refine wpAnyH_take (i := 3) (oi := ?ozz4) (v := ?vzz4) ?hzz4 ?azz4 ?bzz4 ?czz4 ?qzz4 ?yzz4 ?szz4 ?rzz4
        case hzz4 => simp only [List.getElem?_toArray, List.getElem?_cons_zero, List.getElem?_cons_succ]; rfl
        case azz4 => kernel_rfl
        case bzz4 => kernel_rfl
        case czz4 => kernel_rfl
        case yzz4 =>
          refine Or.inl ⟨by rfl, ?_⟩
          intro w hSw
          have z0 := box_ hSw x0; have z1 := box_ hSw x1; have z2 := box_ hSw y0; clear hSw
          go_simp
          try with_reducible rfl
        case qzz4 => exact fun _ _ _ h => h
        case szz4 => first | assumption | trivial
        case' rzz4 => simp only [Act.put, List.setIfInBounds_toArray, List.set_cons_zero, List.set_cons_succ]
        refine wpAnyH_take (i := 4) (oi := ?ozz5) (v := ?vzz5) ?hzz5 ?azz5 ?bzz5 ?czz5 ?qzz5 ?yzz5 ?szz5 ?rzz5
        case hzz5 => simp only [List.getElem?_toArray, List.getElem?_cons_zero, List.getElem?_cons_succ]; rfl
        case azz5 => kernel_rfl
        case bzz5 => kernel_rfl
        case czz5 => kernel_rfl
        case yzz5 =>
          refine Or.inl ⟨by rfl, ?_⟩
          intro w hSw
          have z0 := box_ hSw x0; have z1 := box_ hSw x1; have z2 := box_ hSw y0; clear hSw
          go_simp
          try with_reducible rfl
        case qzz5 => exact fun _ _ _ h => h
        case szz5 => first | assumption | trivial
        case' rzz5 => simp only [Act.put, List.setIfInBounds_toArray, List.set_cons_zero, List.set_cons_succ]
        refine wpAnyH_take (i := 5) (oi := ?ozz6) (v := ?vzz6) ?hzz6 ?azz6 ?bzz6 ?czz6 ?qzz6 ?yzz6 ?szz6 ?rzz6
        case hzz6 => simp only [List.getElem?_toArray, List.getElem?_cons_zero, List.getElem?_cons_succ]; rfl
        case azz6 => kernel_rfl
        case bzz6 => kernel_rfl
        case czz6 => kernel_rfl
        case yzz6 =>
          refine Or.inl ⟨by rfl, ?_⟩
          intro w hSw
          have z0 := box_ hSw x0; have z1 := box_ hSw x1; have z2 := box_ hSw y0; clear hSw
          go_simp
          try with_reducible rfl
        case qzz6 => exact fun _ _ _ h => h
        case szz6 => first | assumption | trivial
        case' rzz6 => simp only [Act.put, List.setIfInBounds_toArray, List.set_cons_zero, List.set_cons_succ]
        refine wpAnyH_ready (rs := [6]) (by kernel_rfl) (by simp) ?_
        refine AllReadyH.cons (o := ?ozz9) ?hzz9 (fun K hK => ?kzz9) ?mzz9
        case hzz9 => simp only [List.getElem?_toArray, List.getElem?_cons_zero, List.getElem?_cons_succ]; rfl
        case kzz9 =>
          go_simp
          refine (KU.out _ (HQ.out.trans hHeld)).mono ?_
          rintro e u5 ⟨A5, c5, rfl, o5, q5⟩
          have LU := Lib.hid (o5.lst)
          go_wp2_with fail
          refine hK.out _ _ ?Szz9 (fun hHeld => ?Rzz9)
          case Szz9 =>
            exact hHeld.trans q5
          case Rzz9 =>
            clear hK K
            try simp only [Act.put, List.setIfInBounds_toArray, List.set_cons_zero, List.set_cons_succ]
            refine wpAnyH_ready (rs := [7]) (by kernel_rfl) (by simp) ?_
            refine AllReadyH.cons (o := ?ozz8) ?hzz8 (fun K hK => ?kzz8) ?mzz8
            case hzz8 => simp only [List.getElem?_toArray, List.getElem?_cons_zero, List.getElem?_cons_succ]; rfl
            case kzz8 =>
              go_simp
              refine (rints_same _ A5 r.length c1 r.length c5 r _ (L4.out.q hHeld) LU.out (by unfold maxLen; omega)).mono ?_
              rintro e u6 ⟨rfl, q6⟩
              have LU := Lib.hid (LU.out.q q6)
              go_wp2_with fail
              refine hK.out _ _ ?Szz8 (fun hHeld => ?Rzz8)
              case Szz8 =>
                exact hHeld.trans q6
              case Rzz8 =>
                clear hK K
                try simp only [Act.put, List.setIfInBounds_toArray, List.set_cons_zero, List.set_cons_succ]
                refine wpAnyH_take (i := 8) (oi := ?ozz7) (v := ?vzz7) ?hzz7 ?azz7 ?bzz7 ?czz7 ?qzz7 ?yzz7 ?szz7 ?rzz7
                case hzz7 => simp only [List.getElem?_toArray, List.getElem?_cons_zero, List.getElem?_cons_succ]; rfl
                case azz7 => kernel_rfl
                case bzz7 => kernel_rfl
                case czz7 => kernel_rfl
                case yzz7 =>
                  refine Or.inl ⟨by rfl, ?_⟩
                  intro w hSw
                  have z0 := box_ hSw x0; have z1 := box_ hSw x1; have z2 := box_ hSw y0; clear hSw
                  go_simp
                  try with_reducible rfl
                case qzz7 => exact fun _ _ _ h => h
                case szz7 => first | assumption | trivial
                case' rzz7 => simp only [Act.put, List.setIfInBounds_toArray, List.set_cons_zero, List.set_cons_succ]
                refine wpAnyH_done (by kernel_rfl) ?_ _
                have HQ := Lib.hid (HQ.out.trans hHeld)
                have X := Lib.hid (X.out.q hHeld)
                have L4 := Lib.hid (L4.out.q hHeld)
                have HQ3 := Lib.hid (HQ3.out.trans hHeld)
                have y0 := box_ hHeld y0
                have v0 := box_ hHeld v0
                clear hHeld LU o5 x0 x1 x2 x3
                obtain ⟨⟨x0, x1⟩, x2, x3⟩ := X.out.get2
                go_wp2
                refine wp_region_held_drew (S := Q u6) (by kernel_rfl) ?szz10a (fun hHeld => ?rzz10a)
                case szz10a =>
                  exact (Q.refl u6).drew
                case' rzz10a => skip
                generalize hgen : u6.drew = D0 at hHeld ⊢
                clear hgen
                refine wpAnyH_take (i := 0) (oi := ?ozz11a) (v := ?vzz11a) ?hzz11a ?azz11a ?bzz11a ?czz11a ?qzz11a ?yzz11a ?szz11a ?rzz11a
                case hzz11a => simp only [List.getElem?_toArray, List.getElem?_cons_zero]; rfl
                case azz11a => kernel_rfl
                case bzz11a => kernel_rfl
                case czz11a => kernel_rfl
                case yzz11a =>
                  refine Or.inl ⟨by rfl, ?_⟩
                  intro w hSw
                  have z0 := box_ hSw x0; have z1 := box_ hSw x1; have z2 := box_ hSw y0; clear hSw
                  go_simp
                  try with_reducible rfl
                case qzz11a => exact fun _ _ _ h => h
                case szz11a => first | assumption | trivial
                case' rzz11a => simp only [Act.put, List.setIfInBounds_toArray, List.set_cons_zero, List.set_cons_succ]
                refine wpAnyH_take (i := 1) (oi := ?ozz12a) (v := ?vzz12a) ?hzz12a ?azz12a ?bzz12a ?czz12a ?qzz12a ?yzz12a ?szz12a ?rzz12a
                case hzz12a => simp only [List.getElem?_toArray, List.getElem?_cons_zero, List.getElem?_cons_succ]; rfl
                case azz12a => kernel_rfl
                case bzz12a => kernel_rfl
                case czz12a => kernel_rfl
                case yzz12a =>
                  refine Or.inl ⟨by rfl, ?_⟩
                  intro w hSw
                  have z0 := box_ hSw x0; have z1 := box_ hSw x1; have z2 := box_ hSw y0; clear hSw
                  go_simp
                  try with_reducible rfl
                case qzz12a => exact fun _ _ _ h => h
                case szz12a => first | assumption | trivial
                case' rzz12a => simp only [Act.put, List.setIfInBounds_toArray, List.set_cons_zero, List.set_cons_succ]
                refine wpAnyH_take (i := 2) (oi := ?ozz13a) (v := ?vzz13a) ?hzz13a ?azz13a ?bzz13a ?czz13a ?qzz13a ?yzz13a ?szz13a ?rzz13a
                case hzz13a => simp only [List.getElem?_toArray, List.getElem?_cons_zero, List.getElem?_cons_succ]; rfl
                case azz13a => kernel_rfl
                case bzz13a => kernel_rfl
                case czz13a => kernel_rfl
                case yzz13a =>
                  refine Or.inl ⟨by rfl, ?_⟩
                  intro w hSw
                  have z0 := box_ hSw x0; have z1 := box_ hSw x1; have z2 := box_ hSw y0; clear hSw
                  go_simp
                  try with_reducible rfl
                case qzz13a => exact fun _ _ _ h => h
                case szz13a => first | assumption | trivial
                case' rzz13a => simp only [Act.put, List.setIfInBounds_toArray, List.set_cons_zero, List.set_cons_succ]
                refine wpAnyH_take (i := 3) (oi := ?ozz14a) (v := ?vzz14a) ?hzz14a ?azz14a ?bzz14a ?czz14a ?qzz14a ?yzz14a ?szz14a ?rzz14a
                case hzz14a => simp only [List.getElem?_toArray, List.getElem?_cons_zero, List.getElem?_cons_succ]; rfl
                case azz14a => kernel_rfl
                case bzz14a => kernel_rfl
                case czz14a => kernel_rfl
                case yzz14a =>
                  refine Or.inl ⟨by rfl, ?_⟩
                  intro w hSw
                  have z0 := box_ hSw x0; have z1 := box_ hSw x1; have z2 := box_ hSw y0; clear hSw
                  go_simp
                  try with_reducible rfl
                case qzz14a => exact fun _ _ _ h => h
                case szz14a => first | assumption | trivial
                case' rzz14a => simp only [Act.put, List.setIfInBounds_toArray, List.set_cons_zero, List.set_cons_succ]
                refine wpAnyH_take (i := 4) (oi := ?ozz15a) (v := ?vzz15a) ?hzz15a ?azz15a ?bzz15a ?czz15a ?qzz15a ?yzz15a ?szz15a ?rzz15a
                case hzz15a => simp only [List.getElem?_toArray, List.getElem?_cons_zero, List.getElem?_cons_succ]; rfl
                case azz15a => kernel_rfl
                case bzz15a => kernel_rfl
                case czz15a => kernel_rfl
                case yzz15a =>
                  refine Or.inl ⟨by rfl, ?_⟩
                  intro w hSw
                  have z0 := box_ hSw x0; have z1 := box_ hSw x1; have z2 := box_ hSw y0; clear hSw
                  go_simp
                  try with_reducible rfl
                case qzz15a => exact fun _ _ _ h => h
                case szz15a => first | assumption | trivial
                case' rzz15a => simp only [Act.put, List.setIfInBounds_toArray, List.set_cons_zero, List.set_cons_succ]
                refine wpAnyH_ready (rs := [5]) (by kernel_rfl) (by simp) ?_
                refine AllReadyH.cons (o := ?ozz24a) ?hzz24a (fun K hK => ?kzz24a) ?mzz24a
                case hzz24a => simp only [List.getElem?_toArray, List.getElem?_cons_zero, List.getElem?_cons_succ]; rfl
                case kzz24a =>
                  go_simp
                  refine (KW.out _ (HQ.out.trans hHeld)).mono ?_
                  rintro e u7 ⟨rfl, q7⟩
                  go_wp2_with fail
                  refine hK.out _ _ ?Szz24a (fun hHeld => ?Rzz24a)
                  case Szz24a =>
                    exact hHeld.trans q7
                  case Rzz24a =>
                    clear hK K
                    try simp only [Act.put, List.setIfInBounds_toArray, List.set_cons_zero, List.set_cons_succ]
                    refine wpAnyH_take (i := 6) (oi := ?ozz16a) (v := ?vzz16a) ?hzz16a ?azz16a ?bzz16a ?czz16a ?qzz16a ?yzz16a ?szz16a ?rzz16a
                    case hzz16a => simp only [List.getElem?_toArray, List.getElem?_cons_zero, List.getElem?_cons_succ]; rfl
                    case azz16a => kernel_rfl
                    case bzz16a => kernel_rfl
                    case czz16a => kernel_rfl
                    case yzz16a =>
                      refine Or.inl ⟨by rfl, ?_⟩
                      intro w hSw
                      have z0 := box_ hSw x0; have z1 := box_ hSw x1; have z2 := box_ hSw y0; clear hSw
                      go_simp
                      try with_reducible rfl
                    case qzz16a => exact fun _ _ _ h => h
                    case szz16a => first | assumption | trivial
                    case' rzz16a => simp only [Act.put, List.setIfInBounds_toArray, List.set_cons_zero, List.set_cons_succ]
                    refine wpAnyH_take (i := 7) (oi := ?ozz17a) (v := ?vzz17a) ?hzz17a ?azz17a ?bzz17a ?czz17a ?qzz17a ?yzz17a ?szz17a ?rzz17a
                    case hzz17a => simp only [List.getElem?_toArray, List.getElem?_cons_zero, List.getElem?_cons_succ]; rfl
                    case azz17a => kernel_rfl
                    case bzz17a => kernel_rfl
                    case czz17a => kernel_rfl
                    case yzz17a =>
                      refine Or.inl ⟨by rfl, ?_⟩
                      intro w hSw
                      have z0 := box_ hSw x0; have z1 := box_ hSw x1; have z2 := box_ hSw y0; clear hSw
                      go_simp
                      try with_reducible rfl
                    case qzz17a => exact fun _ _ _ h => h
                    case szz17a => first | assumption | trivial
                    case' rzz17a => simp only [Act.put, List.setIfInBounds_toArray, List.set_cons_zero, List.set_cons_succ]
                    refine wpAnyH_ready (rs := [8, 9]) (by kernel_rfl) (by simp) ?_
                    refine AllReadyH.cons (o := ?ozz22a) ?hzz22a (fun K hK => ?kzz22a) ?mzz22a
                    case hzz22a => simp only [List.getElem?_toArray, List.getElem?_cons_zero, List.getElem?_cons_succ]; rfl
                    case kzz22a =>
                      go_simp
                      refine hK.out _ _ ?Szz22a (fun hHeld => ?Rzz22a)
                      case Szz22a =>
                        exact hHeld
                      case Rzz22a =>
                        clear hK K
                        try simp only [Act.put, List.setIfInBounds_toArray, List.set_cons_zero, List.set_cons_succ]
                        refine wpAnyH_take (i := 9) (oi := ?ozz18a) (v := ?vzz18a) ?hzz18a ?azz18a ?bzz18a ?czz18a ?qzz18a ?yzz18a ?szz18a ?rzz18a
                        case hzz18a => simp only [List.getElem?_toArray, List.getElem?_cons_zero, List.getElem?_cons_succ]; rfl
                        case azz18a => kernel_rfl
                        case bzz18a => kernel_rfl
                        case czz18a => kernel_rfl
                        case yzz18a =>
                          refine Or.inl ⟨by rfl, ?_⟩
                          intro w hSw
                          have z0 := box_ hSw x0; have z1 := box_ hSw x1; have z2 := box_ hSw y0; clear hSw
                          go_simp
                          try with_reducible rfl
                        case qzz18a => exact fun _ _ _ h => h
                        case szz18a => first | assumption | trivial
                        case' rzz18a => simp only [Act.put, List.setIfInBounds_toArray, List.set_cons_zero, List.set_cons_succ]
                        refine wpAnyH_take (i := 10) (oi := ?ozz19a) (v := ?vzz19a) ?hzz19a ?azz19a ?bzz19a ?czz19a ?qzz19a ?yzz19a ?szz19a ?rzz19a
                        case hzz19a => simp only [List.getElem?_toArray, List.getElem?_cons_zero, List.getElem?_cons_succ]; rfl
                        case azz19a => kernel_rfl
                        case bzz19a => kernel_rfl
                        case czz19a => kernel_rfl
                        case yzz19a =>
                          refine Or.inl ⟨by rfl, ?_⟩
                          intro w hSw
                          have z0 := box_ hSw x0; have z1 := box_ hSw x1; have z2 := box_ hSw y0; clear hSw
                          go_simp
                          try with_reducible rfl
                        case qzz19a => exact fun _ _ _ h => h
                        case szz19a => first | assumption | trivial
                        case' rzz19a => simp only [Act.put, List.setIfInBounds_toArray, List.set_cons_zero, List.set_cons_succ]
                        refine wpAnyH_done (by kernel_rfl) ?_ _
                        have HQ := Lib.hid (HQ.out.trans hHeld)
                        have X := Lib.hid (X.out.q hHeld)
                        have L4 := Lib.hid (L4.out.q hHeld)
                        have HQ3 := Lib.hid (HQ3.out.trans hHeld)
                        have y0 := box_ hHeld y0
                        have v0 := box_ hHeld v0
                        clear hHeld x0 x1 x2 x3
                        obtain ⟨⟨x0, x1⟩, x2, x3⟩ := X.out.get2
                        go_wp2
                        refine wp_region_held_drew (S := Q u7) (by kernel_rfl) ?szz25aa (fun hHeld => ?rzz25aa)
                        case szz25aa =>
                          exact (Q.refl u7).drew
                        case' rzz25aa => skip
                        generalize hgen : u7.drew = D0 at hHeld ⊢
                        clear hgen
                        refine wpAnyH_take (i := 0) (oi := ?ozz26aa) (v := ?vzz26aa) ?hzz26aa ?azz26aa ?bzz26aa ?czz26aa ?qzz26aa ?yzz26aa ?szz26aa ?rzz26aa
                        case hzz26aa => simp only [List.getElem?_toArray, List.getElem?_cons_zero]; rfl
                        case azz26aa => kernel_rfl
                        case bzz26aa => kernel_rfl
                        case czz26aa => kernel_rfl
                        case yzz26aa =>
                          refine Or.inl ⟨by rfl, ?_⟩
                          intro w hSw
                          have z0 := box_ hSw x0; have z1 := box_ hSw x1; have z2 := box_ hSw y0; clear hSw
                          go_simp
                          try with_reducible rfl
                        case qzz26aa => exact fun _ _ _ h => h
                        case szz26aa => first | assumption | trivial
                        case' rzz26aa => simp only [Act.put, List.setIfInBounds_toArray, List.set_cons_zero, List.set_cons_succ]
                        refine wpAnyH_take (i := 1) (oi := ?ozz27aa) (v := ?vzz27aa) ?hzz27aa ?azz27aa ?bzz27aa ?czz27aa ?qzz27aa ?yzz27aa ?szz27aa ?rzz27aa
                        case hzz27aa => simp only [List.getElem?_toArray, List.getElem?_cons_zero, List.getElem?_cons_succ]; rfl
                        case azz27aa => kernel_rfl
                        case bzz27aa => kernel_rfl
                        case czz27aa => kernel_rfl
                        case yzz27aa =>
                          refine Or.inl ⟨by rfl, ?_⟩
                          intro w hSw
                          have z0 := box_ hSw x0; have z1 := box_ hSw x1; have z2 := box_ hSw y0; clear hSw
                          go_simp
                          try with_reducible rfl
                        case qzz27aa => exact fun _ _ _ h => h
                        case szz27aa => first | assumption | trivial
                        case' rzz27aa => simp only [Act.put, List.setIfInBounds_toArray, List.set_cons_zero, List.set_cons_succ]
                        refine wpAnyH_take (i := 2) (oi := ?ozz28aa) (v := ?vzz28aa) ?hzz28aa ?azz28aa ?bzz28aa ?czz28aa ?qzz28aa ?yzz28aa ?szz28aa ?rzz28aa
                        case hzz28aa => simp only [List.getElem?_toArray, List.getElem?_cons_zero, List.getElem?_cons_succ]; rfl
                        case azz28aa => kernel_rfl
                        case bzz28aa => kernel_rfl
                        case czz28aa => kernel_rfl
                        case yzz28aa =>
                          refine Or.inl ⟨by rfl, ?_⟩
                          intro w hSw
                          have z0 := box_ hSw x0; have z1 := box_ hSw x1; have z2 := box_ hSw y0; clear hSw
                          go_simp
                          try with_reducible rfl
                        case qzz28aa => exact fun _ _ _ h => h
                        case szz28aa => first | assumption | trivial
                        case' rzz28aa => simp only [Act.put, List.setIfInBounds_toArray, List.set_cons_zero, List.set_cons_succ]
                        refine wpAnyH_take (i := 3) (oi := ?ozz29aa) (v := ?vzz29aa) ?hzz29aa ?azz29aa ?bzz29aa ?czz29aa ?qzz29aa ?yzz29aa ?szz29aa ?rzz29aa
                        case hzz29aa => simp only [List.getElem?_toArray, List.getElem?_cons_zero, List.getElem?_cons_succ]; rfl
                        case azz29aa => kernel_rfl
                        case bzz29aa => kernel_rfl
                        case czz29aa => kernel_rfl
                        case yzz29aa =>
                          refine Or.inl ⟨by rfl, ?_⟩
                          intro w hSw
                          have z0 := box_ hSw x0; have z1 := box_ hSw x1; have z2 := box_ hSw y0; clear hSw
                          go_simp
                          try with_reducible rfl
                        case qzz29aa => exact fun _ _ _ h => h
                        case szz29aa => first | assumption | trivial
                        case' rzz29aa => simp only [Act.put, List.setIfInBounds_toArray, List.set_cons_zero, List.set_cons_succ]
                        refine wpAnyH_take (i := 4) (oi := ?ozz30aa) (v := ?vzz30aa) ?hzz30aa ?azz30aa ?bzz30aa ?czz30aa ?qzz30aa ?yzz30aa ?szz30aa ?rzz30aa
                        case hzz30aa => simp only [List.getElem?_toArray, List.getElem?_cons_zero, List.getElem?_cons_succ]; rfl
                        case azz30aa => kernel_rfl
                        case bzz30aa => kernel_rfl
                        case czz30aa => kernel_rfl
                        case yzz30aa =>
                          refine Or.inl ⟨by rfl, ?_⟩
                          intro w hSw
                          have z0 := box_ hSw x0; have z1 := box_ hSw x1; have z2 := box_ hSw y0; clear hSw
                          go_simp
                          try with_reducible rfl
                        case qzz30aa => exact fun _ _ _ h => h
                        case szz30aa => first | assumption | trivial
                        case' rzz30aa => simp only [Act.put, List.setIfInBounds_toArray, List.set_cons_zero, List.set_cons_succ]
                        refine wpAnyH_ready (rs := [5]) (by kernel_rfl) (by simp) ?_
                        refine AllReadyH.cons (o := ?ozz32aa) ?hzz32aa (fun K hK => ?kzz32aa) ?mzz32aa
                        case hzz32aa => simp only [List.getElem?_toArray, List.getElem?_cons_zero, List.getElem?_cons_succ]; rfl
                        case kzz32aa =>
                          go_simp
                          refine (KN.out _ (HQ.out.trans hHeld)).mono ?_
                          rintro e u8 ⟨A8, c8, rfl, o8, q8⟩
                          have LN := Lib.hid (o8.lst)
                          go_wp2_with fail
                          refine hK.out _ _ ?Szz32aa (fun hHeld => ?Rzz32aa)
                          case Szz32aa =>
                            exact hHeld.trans q8
                          case Rzz32aa =>
                            clear hK K
                            try simp only [Act.put, List.setIfInBounds_toArray, List.set_cons_zero, List.set_cons_succ]
                            refine wpAnyH_take (i := 6) (oi := ?ozz31aa) (v := ?vzz31aa) ?hzz31aa ?azz31aa ?bzz31aa ?czz31aa ?qzz31aa ?yzz31aa ?szz31aa ?rzz31aa
                            case hzz31aa => simp only [List.getElem?_toArray, List.getElem?_cons_zero, List.getElem?_cons_succ]; rfl
                            case azz31aa => kernel_rfl
                            case bzz31aa => kernel_rfl
                            case czz31aa => kernel_rfl
                            case yzz31aa =>
                              refine Or.inl ⟨by rfl, ?_⟩
                              intro w hSw
                              have z0 := box_ hSw x0; have z1 := box_ hSw x1; have z2 := box_ hSw y0; clear hSw
                              go_simp
                              try with_reducible rfl
                            case qzz31aa => exact fun _ _ _ h => h
                            case szz31aa => first | assumption | trivial
                            case' rzz31aa => simp only [Act.put, List.setIfInBounds_toArray, List.set_cons_zero, List.set_cons_succ]
                            refine wpAnyH_done (by kernel_rfl) ?_ _
                            have HQ := Lib.hid (HQ.out.trans hHeld)
                            have X := Lib.hid (X.out.q hHeld)
                            have L4 := Lib.hid (L4.out.q hHeld)
                            have HQ3 := Lib.hid (HQ3.out.trans hHeld)
                            clear hHeld x0 x1 x2 x3 y0 v0 o8
                            go_wp2
                            go_loopw [13, 14] (fun o i wr2 => ∃ (j : Nat) (b : Bool), j ≤ nx.length ∧ i = .int .i64 j ∧ o = .bool b ∧ Q u8 wr2 ∧ (b = true ∨ ∃ c ∈ nx.drop j, c ∈ r)) (fun _ i _ => nx.length - (intOf i).toNat)
                            case atStart => exact ⟨0, false, Nat.zero_le _, rfl, rfl, Q.refl _, .inr (by simpa using HE.out)⟩
                            case round =>
                              obtain ⟨j, b, hj, rfl, rfl, q9, hb⟩ := hrel
                              have HQ9 := Lib.hid q9
                              have HB := Lib.hid hb
                              clear q9 hb
                              by_cases hjl : j < nx.length
                              · have hji : (j : Int) < (nx.length : Int) := by omega
                                cases b with
                                | true =>
                                  go_wp2
                                  go_roundw
                                  case rel => exact ⟨j + 1, true, by omega, by go_num, rfl, HQ9.out, .inl rfl⟩
                                  case measure => simp [intOf]; omega
                                | false =>
                                  obtain ⟨ad3, hae3, hab3, y3⟩ := load_num (LN.out.q HQ9.out) hjl hjl
                                  subst hae3
                                  have hB : nx[j] ∈ r ∨ ∃ c ∈ nx.drop (j + 1), c ∈ r := by
                                    rcases HB.out with h | ⟨c, hc, hr⟩
                                    · cases h
                                    · rw [List.drop_eq_getElem_cons hjl] at hc
                                      rcases List.mem_cons.1 hc with e | hc
                                      · subst e; exact .inl hr
                                      · exact .inr ⟨c, hc, hr⟩
                                  generalize nx[j] = z at y3 hB
                                  have KH := Lib.hid (whas_any z _ r.length c1 r _ (L4.out.q HQ9.out) (by omega))
                                  have HB2 := Lib.hid (show decide (z ∈ r) = true ∨ ∃ c ∈ nx.drop (j + 1), c ∈ r from hB.imp (fun h => by simp [h]) id)
                                  generalize decide (z ∈ r) = dz at KH HB2
                                  clear hB
                                  go_wp2_with fail
                                  refine KH.out.mono ?_
                                  rintro e u9 ⟨rfl, q10⟩
                                  have HQ9 := Lib.hid (HQ9.out.trans q10)
                                  clear q10 y3
                                  go_wp2
                                  go_roundw
                                  case rel => exact ⟨j + 1, dz, by omega, by go_num, by first | rfl | (simp; done), HQ9.out, HB2.out⟩
                                  case measure => simp [intOf]; omega
                              · have hbt : b = true := by
                                  rcases HB.out with h | ⟨c, hc, _⟩
                                  · exact h
                                  · rw [List.drop_of_length_le (by omega)] at hc; cases hc
                                subst hbt
                                go_wp2
                                go_roundw
                                case rel => exact ⟨k + 1, by omega, by go_num, HQ3.out.trans HQ9.out⟩
                                case measure => simp [intOf]; omega
                        case' mzz32aa => skip
                        exact AllReadyH.nil
                    case' mzz22a => skip
                    refine AllReadyH.cons (o := ?ozz23a) ?hzz23a (fun K hK => ?kzz23a) ?mzz23a
                    case hzz23a => simp only [List.getElem?_toArray, List.getElem?_cons_zero, List.getElem?_cons_succ]; rfl
                    case kzz23a =>
                      go_simp
                      refine hK.out _ _ ?Szz23a (fun hHeld => ?Rzz23a)
                      case Szz23a =>
                        exact hHeld
                      case Rzz23a =>
                        clear hK K
                        try simp only [Act.put, List.setIfInBounds_toArray, List.set_cons_zero, List.set_cons_succ]
                        refine wpAnyH_take (i := 8) (oi := ?ozz20a) (v := ?vzz20a) ?hzz20a ?azz20a ?bzz20a ?czz20a ?qzz20a ?yzz20a ?szz20a ?rzz20a
                        case hzz20a => simp only [List.getElem?_toArray, List.getElem?_cons_zero, List.getElem?_cons_succ]; rfl
                        case azz20a => kernel_rfl
                        case bzz20a => kernel_rfl
                        case czz20a => kernel_rfl
                        case yzz20a =>
                          refine Or.inl ⟨by rfl, ?_⟩
                          intro w hSw
                          have z0 := box_ hSw x0; have z1 := box_ hSw x1; have z2 := box_ hSw y0; clear hSw
                          go_simp
                          try with_reducible rfl
                        case qzz20a => exact fun _ _ _ h => h
                        case szz20a => first | assumption | trivial
                        case' rzz20a => simp only [Act.put, List.setIfInBounds_toArray, List.set_cons_zero, List.set_cons_succ]
                        refine wpAnyH_take (i := 10) (oi := ?ozz21a) (v := ?vzz21a) ?hzz21a ?azz21a ?bzz21a ?czz21a ?qzz21a ?yzz21a ?szz21a ?rzz21a
                        case hzz21a => simp only [List.getElem?_toArray, List.getElem?_cons_zero, List.getElem?_cons_succ]; rfl
                        case azz21a => kernel_rfl
                        case bzz21a => kernel_rfl
                        case czz21a => kernel_rfl
                        case yzz21a =>
                          refine Or.inl ⟨by rfl, ?_⟩
                          intro w hSw
                          have z0 := box_ hSw x0; have z1 := box_ hSw x1; have z2 := box_ hSw y0; clear hSw
                          go_simp
                          try with_reducible rfl
                        case qzz21a => exact fun _ _ _ h => h
                        case szz21a => first | assumption | trivial
                        case' rzz21a => simp only [Act.put, List.setIfInBounds_toArray, List.set_cons_zero, List.set_cons_succ]
                        refine wpAnyH_done (by kernel_rfl) ?_ _
                        have HQ := Lib.hid (HQ.out.trans hHeld)
                        have X := Lib.hid (X.out.q hHeld)
                        have L4 := Lib.hid (L4.out.q hHeld)
                        have HQ3 := Lib.hid (HQ3.out.trans hHeld)
                        have y0 := box_ hHeld y0
                        have v0 := box_ hHeld v0
                        clear hHeld x0 x1 x2 x3
                        obtain ⟨⟨x0, x1⟩, x2, x3⟩ := X.out.get2
                        go_wp2
                        refine wp_region_held_drew (S := Q u7) (by kernel_rfl) ?szz25ba (fun hHeld => ?rzz25ba)
                        case szz25ba =>
                          exact (Q.refl u7).drew
                        case' rzz25ba => skip
                        generalize hgen : u7.drew = D0 at hHeld ⊢
                        clear hgen
                        refine wpAnyH_take (i := 0) (oi := ?ozz26ba) (v := ?vzz26ba) ?hzz26ba ?azz26ba ?bzz26ba ?czz26ba ?qzz26ba ?yzz26ba ?szz26ba ?rzz26ba
                        case hzz26ba => simp only [List.getElem?_toArray, List.getElem?_cons_zero]; rfl
                        case azz26ba => kernel_rfl
                        case bzz26ba => kernel_rfl
                        case czz26ba => kernel_rfl
                        case yzz26ba =>
                          refine Or.inl ⟨by rfl, ?_⟩
                          intro w hSw
                          have z0 := box_ hSw x0; have z1 := box_ hSw x1; have z2 := box_ hSw y0; clear hSw
                          go_simp
                          try with_reducible rfl
                        case qzz26ba => exact fun _ _ _ h => h
                        case szz26ba => first | assumption | trivial
                        case' rzz26ba => simp only [Act.put, List.setIfInBounds_toArray, List.set_cons_zero, List.set_cons_succ]
                        refine wpAnyH_take (i := 1) (oi := ?ozz27ba) (v := ?vzz27ba) ?hzz27ba ?azz27ba ?bzz27ba ?czz27ba ?qzz27ba ?yzz27ba ?szz27ba ?rzz27ba
                        case hzz27ba => simp only [List.getElem?_toArray, List.getElem?_cons_zero, List.getElem?_cons_succ]; rfl
                        case azz27ba => kernel_rfl
                        case bzz27ba => kernel_rfl
                        case czz27ba => kernel_rfl
                        case yzz27ba =>
                          refine Or.inl ⟨by rfl, ?_⟩
                          intro w hSw
                          have z0 := box_ hSw x0; have z1 := box_ hSw x1; have z2 := box_ hSw y0; clear hSw
                          go_simp
                          try with_reducible rfl
                        case qzz27ba => exact fun _ _ _ h => h
                        case szz27ba => first | assumption | trivial
                        case' rzz27ba => simp only [Act.put, List.setIfInBounds_toArray, List.set_cons_zero, List.set_cons_succ]
                        refine wpAnyH_take (i := 2) (oi := ?ozz28ba) (v := ?vzz28ba) ?hzz28ba ?azz28ba ?bzz28ba ?czz28ba ?qzz28ba ?yzz28ba ?szz28ba ?rzz28ba
                        case hzz28ba => simp only [List.getElem?_toArray, List.getElem?_cons_zero, List.getElem?_cons_succ]; rfl
                        case azz28ba => kernel_rfl
                        case bzz28ba => kernel_rfl
                        case czz28ba => kernel_rfl
                        case yzz28ba =>
                          refine Or.inl ⟨by rfl, ?_⟩
                          intro w hSw
                          have z0 := box_ hSw x0; have z1 := box_ hSw x1; have z2 := box_ hSw y0; clear hSw
                          go_simp
                          try with_reducible rfl
                        case qzz28ba => exact fun _ _ _ h => h
                        case szz28ba => first | assumption | trivial
                        case' rzz28ba => simp only [Act.put, List.setIfInBounds_toArray, List.set_cons_zero, List.set_cons_succ]
                        refine wpAnyH_take (i := 3) (oi := ?ozz29ba) (v := ?vzz29ba) ?hzz29ba ?azz29ba ?bzz29ba ?czz29ba ?qzz29ba ?yzz29ba ?szz29ba ?rzz29ba
                        case hzz29ba => simp only [List.getElem?_toArray, List.getElem?_cons_zero, List.getElem?_cons_succ]; rfl
                        case azz29ba => kernel_rfl
                        case bzz29ba => kernel_rfl
                        case czz29ba => kernel_rfl
                        case yzz29ba =>
                          refine Or.inl ⟨by rfl, ?_⟩
                          intro w hSw
                          have z0 := box_ hSw x0; have z1 := box_ hSw x1; have z2 := box_ hSw y0; clear hSw
                          go_simp
                          try with_reducible rfl
                        case qzz29ba => exact fun _ _ _ h => h
                        case szz29ba => first | assumption | trivial
                        case' rzz29ba => simp only [Act.put, List.setIfInBounds_toArray, List.set_cons_zero, List.set_cons_succ]
                        refine wpAnyH_take (i := 4) (oi := ?ozz30ba) (v := ?vzz30ba) ?hzz30ba ?azz30ba ?bzz30ba ?czz30ba ?qzz30ba ?yzz30ba ?szz30ba ?rzz30ba
                        case hzz30ba => simp only [List.getElem?_toArray, List.getElem?_cons_zero, List.getElem?_cons_succ]; rfl
                        case azz30ba => kernel_rfl
                        case bzz30ba => kernel_rfl
                        case czz30ba => kernel_rfl
                        case yzz30ba =>
                          refine Or.inl ⟨by rfl, ?_⟩
                          intro w hSw
                          have z0 := box_ hSw x0; have z1 := box_ hSw x1; have z2 := box_ hSw y0; clear hSw
                          go_simp
                          try with_reducible rfl
                        case qzz30ba => exact fun _ _ _ h => h
                        case szz30ba => first | assumption | trivial
                        case' rzz30ba => simp only [Act.put, List.setIfInBounds_toArray, List.set_cons_zero, List.set_cons_succ]
                        refine wpAnyH_ready (rs := [5]) (by kernel_rfl) (by simp) ?_
                        refine AllReadyH.cons (o := ?ozz32ba) ?hzz32ba (fun K hK => ?kzz32ba) ?mzz32ba
                        case hzz32ba => simp only [List.getElem?_toArray, List.getElem?_cons_zero, List.getElem?_cons_succ]; rfl
                        case kzz32ba =>
                          go_simp
                          refine (KN.out _ (HQ.out.trans hHeld)).mono ?_
                          rintro e u8 ⟨A8, c8, rfl, o8, q8⟩
                          have LN := Lib.hid (o8.lst)
                          go_wp2_with fail
                          refine hK.out _ _ ?Szz32ba (fun hHeld => ?Rzz32ba)
                          case Szz32ba =>
                            exact hHeld.trans q8
                          case Rzz32ba =>
                            clear hK K
                            try simp only [Act.put, List.setIfInBounds_toArray, List.set_cons_zero, List.set_cons_succ]
                            refine wpAnyH_take (i := 6) (oi := ?ozz31ba) (v := ?vzz31ba) ?hzz31ba ?azz31ba ?bzz31ba ?czz31ba ?qzz31ba ?yzz31ba ?szz31ba ?rzz31ba
                            case hzz31ba => simp only [List.getElem?_toArray, List.getElem?_cons_zero, List.getElem?_cons_succ]; rfl
                            case azz31ba => kernel_rfl
                            case bzz31ba => kernel_rfl
                            case czz31ba => kernel_rfl
                            case yzz31ba =>
                              refine Or.inl ⟨by rfl, ?_⟩
                              intro w hSw
                              have z0 := box_ hSw x0; have z1 := box_ hSw x1; have z2 := box_ hSw y0; clear hSw
                              go_simp
                              try with_reducible rfl
                            case qzz31ba => exact fun _ _ _ h => h
                            case szz31ba => first | assumption | trivial
                            case' rzz31ba => simp only [Act.put, List.setIfInBounds_toArray, List.set_cons_zero, List.set_cons_succ]
                            refine wpAnyH_done (by kernel_rfl) ?_ _
                            have HQ := Lib.hid (HQ.out.trans hHeld)
                            have X := Lib.hid (X.out.q hHeld)
                            have L4 := Lib.hid (L4.out.q hHeld)
                            have HQ3 := Lib.hid (HQ3.out.trans hHeld)
                            clear hHeld x0 x1 x2 x3 y0 v0 o8
                            go_wp2
                            go_loopw [13, 14] (fun o i wr2 => ∃ (j : Nat) (b : Bool), j ≤ nx.length ∧ i = .int .i64 j ∧ o = .bool b ∧ Q u8 wr2 ∧ (b = true ∨ ∃ c ∈ nx.drop j, c ∈ r)) (fun _ i _ => nx.length - (intOf i).toNat)
                            case atStart => exact ⟨0, false, Nat.zero_le _, rfl, rfl, Q.refl _, .inr (by simpa using HE.out)⟩
                            case round =>
                              obtain ⟨j, b, hj, rfl, rfl, q9, hb⟩ := hrel
                              have HQ9 := Lib.hid q9
                              have HB := Lib.hid hb
                              clear q9 hb
                              by_cases hjl : j < nx.length
                              · have hji : (j : Int) < (nx.length : Int) := by omega
                                cases b with
                                | true =>
                                  go_wp2
                                  go_roundw
                                  case rel => exact ⟨j + 1, true, by omega, by go_num, rfl, HQ9.out, .inl rfl⟩
                                  case measure => simp [intOf]; omega
                                | false =>
                                  obtain ⟨ad3, hae3, hab3, y3⟩ := load_num (LN.out.q HQ9.out) hjl hjl
                                  subst hae3
                                  have hB : nx[j] ∈ r ∨ ∃ c ∈ nx.drop (j + 1), c ∈ r := by
                                    rcases HB.out with h | ⟨c, hc, hr⟩
                                    · cases h
                                    · rw [List.drop_eq_getElem_cons hjl] at hc
                                      rcases List.mem_cons.1 hc with e | hc
                                      · subst e; exact .inl hr
                                      · exact .inr ⟨c, hc, hr⟩
                                  generalize nx[j] = z at y3 hB
                                  have KH := Lib.hid (whas_any z _ r.length c1 r _ (L4.out.q HQ9.out) (by omega))
                                  have HB2 := Lib.hid (show decide (z ∈ r) = true ∨ ∃ c ∈ nx.drop (j + 1), c ∈ r from hB.imp (fun h => by simp [h]) id)
                                  generalize decide (z ∈ r) = dz at KH HB2
                                  clear hB
                                  go_wp2_with fail
                                  refine KH.out.mono ?_
                                  rintro e u9 ⟨rfl, q10⟩
                                  have HQ9 := Lib.hid (HQ9.out.trans q10)
                                  clear q10 y3
                                  go_wp2
                                  go_roundw
                                  case rel => exact ⟨j + 1, dz, by omega, by go_num, by first | rfl | (simp; done), HQ9.out, HB2.out⟩
                                  case measure => simp [intOf]; omega
                              · have hbt : b = true := by
                                  rcases HB.out with h | ⟨c, hc, _⟩
                                  · exact h
                                  · rw [List.drop_of_length_le (by omega)] at hc; cases hc
                                subst hbt
                                go_wp2
                                go_roundw
                                case rel => exact ⟨k + 1, by omega, by go_num, HQ3.out.trans HQ9.out⟩
                                case measure => simp [intOf]; omega
                        case' mzz32ba => skip
                        exact AllReadyH.nil
                    case' mzz23a => skip
                    exact AllReadyH.nil
                case' mzz24a => skip
                exact AllReadyH.nil
            case' mzz8 => skip
            exact AllReadyH.nil
        case' mzz9 => skip
        exact AllReadyH.nil

      · go_wp2
        go_ret
        exact ⟨by first | rfl | (simp; done), HQ.out⟩
  · rw [rgmany hs] at KS
    clear h hs
    go_enter Try.func4, Try.ntmps4
    go_wp2_with fail
    refine (rgshown_any _).mono ?_
    rintro e w1 ⟨rfl, q1⟩
    have X := Lib.hid ((Bx.new w [.slice A n c, .slice B m d] 25).q q1)
    have HQ := Lib.hid (((Q.refl w).alloc (.cells #[.slice A n c, .slice B m d] 25)).trans q1)
    clear q1
    obtain ⟨⟨x0, x1⟩, x2, x3⟩ := X.out.get2
    go_wp2_with fail
    refine (KS.out _).mono ?_
    rintro e w2 ⟨rfl, q2⟩
    have X := Lib.hid (X.out.q q2)
    have HQ := Lib.hid (HQ.out.trans q2)
    clear q2 x0 x1 x2 x3
    obtain ⟨⟨x0, x1⟩, x2, x3⟩ := X.out.get2
    go_wp2
    go_ret
    exact ⟨by first | rfl | (simp; done), HQ.out⟩

theorem opened (W : World) (args : Array Value) (hn : args.size = 2) (h : ∀ (j : Nat) t v, Try.f4.params[j]? = some t → args[j]? = some v → RdV W t v) :
    Calls Try.prog 4 args W fun e W' => e = .returned (.bool true) ∧ Q W W' := by
  obtain ⟨v0, v1, rfl⟩ := args2 hn
  rw [Try.params4] at h
  obtain ⟨cs, rfl, hr⟩ := (h 0 25 v0 rfl rfl).struct Try.underlying25
  obtain ⟨A, n, c, B, m, d, l, rfl, hl⟩ := open_locks hr
  obtain ⟨x1, rfl, _⟩ := (h 1 3 v1 rfl rfl).int Try.underlying3
  exact walk A B n c m d l x1 W hl

set_option maxRecDepth 100000 in
theorem lifted (os : Os) (started : os.Started) (H : Type) (enc : TypeId × Value → H) :
    ReturnsInHanded {} Try.checked os 4 .any (Rows.ringSameSpec.pre6 enc Try.prog Try.f4 Rows.ringSameRow.domain false) (Rows.ringSameSpec.post enc Try.prog Try.f4 false true false false) :=
  framed 2 Try.func4 (by rw [Try.params4]; rfl) rfl (by kernel_rfl) (by kernel_rfl) (by kernel_rfl)
    (fun H ds h => by match ds, h with | [d0, d1], _ => exact ⟨rfl, rfl, rfl⟩)
    opened os started H enc
    (ChangeSpec.witness6 (enc := enc) (C := Try.checked) false ⟨#[], #[.agg #[.slice none 0 0, .slice none 0 0], .int .i64 0], []⟩ 8 (by kernel_rfl) (by kernel_rfl) (by kernel_rfl) (by kernel_rfl))

theorem over : Rows.ringSameRow.holds Try.pinned (OpenSpec.ofChange Rows.ringSameSpec) :=
  OpenClaim.holds_of_wide 4 Try.f4 rfl rfl rfl rfl rfl rfl rfl ⟨rfl, rfl, rfl, rfl, rfl⟩ rfl rfl rfl rfl rfl (by kernel_rfl) Try.func4 (by kernel_rfl)
    (of_decide_eq_true (by kernel_rfl)) (by unfold Func.isWrapper; first | (rw [if_pos (by decide +kernel)]; kernel_rfl) | (rw [if_neg (by decide +kernel)]; exact ⟨rfl, rfl⟩))
    (fun os started H enc _ => lifted os started H enc)

theorem proved : Rows.RingSameSaid := over
end Go.Proofs.Ytncnfblnelkmbaa.ringSame
