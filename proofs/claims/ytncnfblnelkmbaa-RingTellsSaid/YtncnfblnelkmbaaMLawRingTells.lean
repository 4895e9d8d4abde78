/- For all locks, few, and every transaction: whom it waits for, directly and by others, with whom it waits in a ring, and who is given up, is as the document says. No condition. -/
import Derived.Test.YtncnfblnelkmbaaA9
import Derived.Test.YtncnfblnelkmbaaA10
namespace Go.Proofs.Ytncnfblnelkmbaa.ringTells
set_option maxRecDepth 100000
open Go.ChangeShapes Go.WideShapes Go.ChangeAt Go.RowKit Lm Sm
set_option linter.unusedVariables false
set_option linter.unusedSimpArgs false

set_option maxHeartbeats 16000000 in
set_option maxRecDepth 100000 in
theorem walk (A B : Option Addr) (n c m d : Nat) (l : Lo) (txn : Int) (w : World) (h : LIn w A n c B m d l) :
    Calls Try.prog 3 #[locV A n c B m d, .int .i64 txn] w fun e w' => e = .returned (.bool true) ∧ Q w w' := by
  have KS := Lib.hid (fun W => rgsmall_any A B n c m d W)
  by_cases hs : n ≤ 30 ∧ m ≤ 12
  · rw [rgfew hs] at KS
    have h1 := h.held.lst
    have h2 := h.queue
    have hi := h.loI
    have hw := h.loW
    have hnd := nodes_few h.held.len h.queue.len (show n + m ≤ 4000 by omega)
    have K1 := Lib.hid (fun W q => lafter_any A B n c m d l txn W (h1.q q) (h2.q q) hi.1 hi.2 (by omega))
    have K2 := Lib.hid (fun W q => rafter_any A B n c m d l txn W (h1.q q) (h2.lst.q q) hw.1 hw.2 (by omega))
    have K3 := Lib.hid (fun W q => lreach_any A B n c m d l txn W (h1.q q) (h2.q q) hi.1 hi.2 (by omega))
    have K4 := Lib.hid (fun W q => rreach_any A B n c m d l txn W (h1.q q) (h2.lst.q q) hw.1 hw.2 (by omega))
    have K5 := Lib.hid (fun W q => lring_any A B n c m d l txn W (h1.q q) (h2.q q) hi.1 hi.2 (by omega))
    have K6 := Lib.hid (fun W q => rring_any A B n c m d l txn W (h1.q q) (h2.lst.q q) hw.1 hw.2 (by omega))
    have K7 := Lib.hid (fun W q => lvictim_any A B n c m d l txn W (h1.q q) (h2.q q) hi.1 hi.2 (by omega))
    have K8 := Lib.hid (fun W q => rvictim_any A B n c m d l txn W (h1.q q) (h2.lst.q q) hw.1 hw.2 (by omega))
    have N1 := Lib.hid (show (aft l txn).length ≤ maxLen by have := aft_len l txn; unfold maxLen; omega)
    have N2 := Lib.hid (show (reach l txn).length ≤ maxLen by have := reach_len l txn; unfold maxLen; omega)
    have N3 := Lib.hid (show (ring l txn).length ≤ maxLen by have := ring_len l txn; unfold maxLen; omega)
    generalize (ring l txn).getLast?.getD 0 = vic at K7 K8
    generalize decide (ring l txn ≠ []) = isv at K7 K8
    generalize aft l txn = ra at K1 K2 N1
    generalize reach l txn = rb at K3 K4 N2
    generalize ring l txn = rc at K5 K6 N3
    clear h h1 h2 hi hw hs hnd
    go_enter Try.func3, Try.ntmps3
    go_wp2_with fail
    refine (rgshown_any _).mono ?_
    rintro e w1 ⟨rfl, q1⟩
    have X := Lib.hid ((Bx.new w [.slice A n c, .slice B m d] 25).q q1)
    have HQ := Lib.hid (((Q.refl w).alloc (.cells #[.slice A n c, .slice B m d] 25)).trans q1)
    clear q1
    obtain ⟨⟨x0, x1⟩, x2, x3⟩ := X.out.get2
    go_wp2_with fail
    refine (KS.out _).mono ?_
    rintro e w2 ⟨rfl, q2⟩
    have X := Lib.hid (X.out.q q2)
    have HQ := Lib.hid (HQ.out.trans q2)
    clear q2 x0 x1 x2 x3
    obtain ⟨⟨x0, x1⟩, x2, x3⟩ := X.out.get2
    go_wp2
    refine wp_region_held_drew (S := Q w2) (by kernel_rfl) ?szz0 (fun hHeld => ?rzz0)
    case szz0 =>
      exact (Q.refl w2).drew
    case' rzz0 => skip
    generalize hgen : w2.drew = D0 at hHeld ⊢
    clear hgen
    refine wpAnyH_take (i := 0) (oi := ?ozz1) (v := ?vzz1) ?hzz1 ?azz1 ?bzz1 ?czz1 ?qzz1 ?yzz1 ?szz1 ?rzz1
    case hzz1 => simp only [List.getElem?_toArray, List.getElem?_cons_zero]; rfl
    case azz1 => kernel_rfl
    case bzz1 => kernel_rfl
    case czz1 => kernel_rfl
    case yzz1 =>
      refine Or.inl ⟨by rfl, ?_⟩
      intro w hSw
      have z0 := box_ hSw x0; have z1 := box_ hSw x1; clear hSw
      go_simp
      try with_reducible rfl
    case qzz1 => exact fun _ _ _ h => h
    case szz1 => first | assumption | trivial
    case' rzz1 => simp only [Act.put, List.setIfInBounds_toArray, List.set_cons_zero, List.set_cons_succ]
    refine wpAnyH_take (i := 1) (oi := ?ozz2) (v := ?vzz2) ?hzz2 ?azz2 ?bzz2 ?czz2 ?qzz2 ?yzz2 ?szz2 ?rzz2
    case hzz2 => simp only [List.getElem?_toArray, List.getElem?_cons_zero, List.getElem?_cons_succ]; rfl
    case azz2 => kernel_rfl
    case bzz2 => kernel_rfl
    case czz2 => kernel_rfl
    case yzz2 =>
      refine Or.inl ⟨by rfl, ?_⟩
      intro w hSw
      have z0 := box_ hSw x0; have z1 := box_ hSw x1; clear hSw
      go_simp
      try with_reducible rfl
    case qzz2 => exact fun _ _ _ h => h
    case szz2 => first | assumption | trivial
    case' rzz2 => simp only [Act.put, List.setIfInBounds_toArray, List.set_cons_zero, List.set_cons_succ]
    refine wpAnyH_take (i := 3) (oi := ?ozz3) (v := ?vzz3) ?hzz3 ?azz3 ?bzz3 ?czz3 ?qzz3 ?yzz3 ?szz3 ?rzz3
    case hzz3 => simp only [List.getElem?_toArray, List.getElem?_cons_zero, List.getElem?_cons_succ]; rfl
    case azz3 => kernel_rfl
    case bzz3 => kernel_rfl
    case czz3 => kernel_rfl
    case yzz3 =>
      refine Or.inl ⟨by rfl, ?_⟩
      intro w hSw
      have z0 := box_ hSw x0; have z1 := box_ hSw x1; clear hSw
      go_simp
      try with_reducible rfl
    case qzz3 => exact fun _ _ _ h => h
    case szz3 => first | assumption | trivial
    case' rzz3 => simp only [Act.put, List.setIfInBounds_toArray, List.set_cons_zero, List.set_cons_succ]
    refine wpAnyH_take (i := 4) (oi := ?ozz4) (v := ?vzz4) ?hzz4 ?azz4 ?bzz4 ?czz4 ?qzz4 ?yzz4 ?szz4 ?rzz4
    case hzz4 => simp only [List.getElem?_toArray, List.getElem?_cons_zero, List.getElem?_cons_succ]; rfl
    case azz4 => kernel_rfl
    case bzz4 => kernel_rfl
    case czz4 => kernel_rfl
    case yzz4 =>
      refine Or.inl ⟨by rfl, ?_⟩
      intro w hSw
      have z0 := box_ hSw x0; have z1 := box_ hSw x1; clear hSw
      go_simp
      try with_reducible rfl
    case qzz4 => exact fun _ _ _ h => h
    case szz4 => first | assumption | trivial
    case' rzz4 => simp only [Act.put, List.setIfInBounds_toArray, List.set_cons_zero, List.set_cons_succ]
    refine wpAnyH_ready (rs := [2]) (by kernel_rfl) (by simp) ?_
    refine AllReadyH.cons (o := ?ozz8) ?hzz8 (fun K hK => ?kzz8) ?mzz8
    case hzz8 => simp only [List.getElem?_toArray, List.getElem?_cons_zero, List.getElem?_cons_succ]; rfl
    case kzz8 =>
      go_simp
      refine (K1.out _ (HQ.out.trans hHeld)).mono ?_
      rintro e u1 ⟨A1, c1, rfl, o1, q4⟩
      have L1 := Lib.hid (o1.lst)
      go_wp2_with fail
      refine hK.out _ _ ?Szz8 (fun hHeld => ?Rzz8)
      case Szz8 =>
        exact hHeld.trans q4
      case Rzz8 =>
        clear hK K
        try simp only [Act.put, List.setIfInBounds_toArray, List.set_cons_zero, List.set_cons_succ]
        refine wpAnyH_ready (rs := [5]) (by kernel_rfl) (by simp) ?_
        refine AllReadyH.cons (o := ?ozz7) ?hzz7 (fun K hK => ?kzz7) ?mzz7
        case hzz7 => simp only [List.getElem?_toArray, List.getElem?_cons_zero, List.getElem?_cons_succ]; rfl
        case kzz7 =>
          go_simp
          refine (K2.out _ (HQ.out.trans hHeld)).mono ?_
          rintro e u2 ⟨A2, c2, rfl, o2, q5⟩
          have L1 := Lib.hid (L1.out.q q5)
          have L2 := Lib.hid (o2.lst)
          go_wp2_with fail
          refine hK.out _ _ ?Szz7 (fun hHeld => ?Rzz7)
          case Szz7 =>
            exact hHeld.trans q5
          case Rzz7 =>
            clear hK K
            try simp only [Act.put, List.setIfInBounds_toArray, List.set_cons_zero, List.set_cons_succ]
            refine wpAnyH_ready (rs := [6]) (by kernel_rfl) (by simp) ?_
            refine AllReadyH.cons (o := ?ozz6) ?hzz6 (fun K hK => ?kzz6) ?mzz6
            case hzz6 => simp only [List.getElem?_toArray, List.getElem?_cons_zero, List.getElem?_cons_succ]; rfl
            case kzz6 =>
              go_simp
              refine (rints_same A1 A2 ra.length c1 ra.length c2 ra _ L1.out L2.out N1.out).mono ?_
              rintro e w5a ⟨rfl, q6⟩
              have L1 := Lib.hid (L1.out.q q6)
              have L2 := Lib.hid (L2.out.q q6)
              go_wp2_with fail
              refine hK.out _ _ ?Szz6 (fun hHeld => ?Rzz6)
              case Szz6 =>
                exact hHeld.trans q6
              case Rzz6 =>
                clear hK K
                try simp only [Act.put, List.setIfInBounds_toArray, List.set_cons_zero, List.set_cons_succ]
                refine wpAnyH_take (i := 7) (oi := ?ozz5) (v := ?vzz5) ?hzz5 ?azz5 ?bzz5 ?czz5 ?qzz5 ?yzz5 ?szz5 ?rzz5
                case hzz5 => simp only [List.getElem?_toArray, List.getElem?_cons_zero, List.getElem?_cons_succ]; rfl
                case azz5 => kernel_rfl
                case bzz5 => kernel_rfl
                case czz5 => kernel_rfl
                case yzz5 =>
                  refine Or.inl ⟨by rfl, ?_⟩
                  intro w hSw
                  have z0 := box_ hSw x0; have z1 := box_ hSw x1; clear hSw
                  go_simp
                  try with_reducible rfl
                case qzz5 => exact fun _ _ _ h => h
                case szz5 => first | assumption | trivial
                case' rzz5 => simp only [Act.put, List.setIfInBounds_toArray, List.set_cons_zero, List.set_cons_succ]
                refine wpAnyH_done (by kernel_rfl) ?_ _
                have X := Lib.hid (X.out.q hHeld)
                have HQ := Lib.hid (HQ.out.trans hHeld)
                clear hHeld L1 L2 o1 o2 x0 x1 x2 x3
                obtain ⟨⟨x0, x1⟩, x2, x3⟩ := X.out.get2
                go_wp2
                refine wp_region_held_drew (S := Q w5a) (by kernel_rfl) ?szz9a (fun hHeld => ?rzz9a)
                case szz9a =>
                  exact (Q.refl w5a).drew
                case' rzz9a => skip
                generalize hgen : w5a.drew = D0 at hHeld ⊢
                clear hgen
                refine wpAnyH_take (i := 0) (oi := ?ozz10a) (v := ?vzz10a) ?hzz10a ?azz10a ?bzz10a ?czz10a ?qzz10a ?yzz10a ?szz10a ?rzz10a
                case hzz10a => simp only [List.getElem?_toArray, List.getElem?_cons_zero]; rfl
                case azz10a => kernel_rfl
                case bzz10a => kernel_rfl
                case czz10a => kernel_rfl
                case yzz10a =>
                  refine Or.inl ⟨by rfl, ?_⟩
                  intro w hSw
                  have z0 := box_ hSw x0; have z1 := box_ hSw x1; clear hSw
                  go_simp
                  try with_reducible rfl
                case qzz10a => exact fun _ _ _ h => h
                case szz10a => first | assumption | trivial
                case' rzz10a => simp only [Act.put, List.setIfInBounds_toArray, List.set_cons_zero, List.set_cons_succ]
                refine wpAnyH_take (i := 1) (oi := ?ozz11a) (v := ?vzz11a) ?hzz11a ?azz11a ?bzz11a ?czz11a ?qzz11a ?yzz11a ?szz11a ?rzz11a
                case hzz11a => simp only [List.getElem?_toArray, List.getElem?_cons_zero, List.getElem?_cons_succ]; rfl
                case azz11a => kernel_rfl
                case bzz11a => kernel_rfl
                case czz11a => kernel_rfl
                case yzz11a =>
                  refine Or.inl ⟨by rfl, ?_⟩
                  intro w hSw
                  have z0 := box_ hSw x0; have z1 := box_ hSw x1; clear hSw
                  go_simp
                  try with_reducible rfl
                case qzz11a => exact fun _ _ _ h => h
                case szz11a => first | assumption | trivial
                case' rzz11a => simp only [Act.put, List.setIfInBounds_toArray, List.set_cons_zero, List.set_cons_succ]
                refine wpAnyH_take (i := 3) (oi := ?ozz12a) (v := ?vzz12a) ?hzz12a ?azz12a ?bzz12a ?czz12a ?qzz12a ?yzz12a ?szz12a ?rzz12a
                case hzz12a => simp only [List.getElem?_toArray, List.getElem?_cons_zero, List.getElem?_cons_succ]; rfl
                case azz12a => kernel_rfl
                case bzz12a => kernel_rfl
                case czz12a => kernel_rfl
                case yzz12a =>
                  refine Or.inl ⟨by rfl, ?_⟩
                  intro w hSw
                  have z0 := box_ hSw x0; have z1 := box_ hSw x1; clear hSw
                  go_simp
                  try with_reducible rfl
                case qzz12a => exact fun _ _ _ h => h
                case szz12a => first | assumption | trivial
                case' rzz12a => simp only [Act.put, List.setIfInBounds_toArray, List.set_cons_zero, List.set_cons_succ]
                refine wpAnyH_take (i := 4) (oi := ?ozz13a) (v := ?vzz13a) ?hzz13a ?azz13a ?bzz13a ?czz13a ?qzz13a ?yzz13a ?szz13a ?rzz13a
                case hzz13a => simp only [List.getElem?_toArray, List.getElem?_cons_zero, List.getElem?_cons_succ]; rfl
                case azz13a => kernel_rfl
                case bzz13a => kernel_rfl
                case czz13a => kernel_rfl
                case yzz13a =>
                  refine Or.inl ⟨by rfl, ?_⟩
                  intro w hSw
                  have z0 := box_ hSw x0; have z1 := box_ hSw x1; clear hSw
                  go_simp
                  try with_reducible rfl
                case qzz13a => exact fun _ _ _ h => h
                case szz13a => first | assumption | trivial
                case' rzz13a => simp only [Act.put, List.setIfInBounds_toArray, List.set_cons_zero, List.set_cons_succ]
                refine wpAnyH_ready (rs := [2]) (by kernel_rfl) (by simp) ?_
                refine AllReadyH.cons (o := ?ozz17a) ?hzz17a (fun K hK => ?kzz17a) ?mzz17a
                case hzz17a => simp only [List.getElem?_toArray, List.getElem?_cons_zero, List.getElem?_cons_succ]; rfl
                case kzz17a =>
                  go_simp
                  refine (K3.out _ (HQ.out.trans hHeld)).mono ?_
                  rintro e u1 ⟨A1, c1, rfl, o1, q4⟩
                  have L1 := Lib.hid (o1.lst)
                  go_wp2_with fail
                  refine hK.out _ _ ?Szz17a (fun hHeld => ?Rzz17a)
                  case Szz17a =>
                    exact hHeld.trans q4
                  case Rzz17a =>
                    clear hK K
                    try simp only [Act.put, List.setIfInBounds_toArray, List.set_cons_zero, List.set_cons_succ]
                    refine wpAnyH_ready (rs := [5]) (by kernel_rfl) (by simp) ?_
                    refine AllReadyH.cons (o := ?ozz16a) ?hzz16a (fun K hK => ?kzz16a) ?mzz16a
                    case hzz16a => simp only [List.getElem?_toArray, List.getElem?_cons_zero, List.getElem?_cons_succ]; rfl
                    case kzz16a =>
                      go_simp
                      refine (K4.out _ (HQ.out.trans hHeld)).mono ?_
                      rintro e u2 ⟨A2, c2, rfl, o2, q5⟩
                      have L1 := Lib.hid (L1.out.q q5)
                      have L2 := Lib.hid (o2.lst)
                      go_wp2_with fail
                      refine hK.out _ _ ?Szz16a (fun hHeld => ?Rzz16a)
                      case Szz16a =>
                        exact hHeld.trans q5
                      case Rzz16a =>
                        clear hK K
                        try simp only [Act.put, List.setIfInBounds_toArray, List.set_cons_zero, List.set_cons_succ]
                        refine wpAnyH_ready (rs := [6]) (by kernel_rfl) (by simp) ?_
                        refine AllReadyH.cons (o := ?ozz15a) ?hzz15a (fun K hK => ?kzz15a) ?mzz15a
                        case hzz15a => simp only [List.getElem?_toArray, List.getElem?_cons_zero, List.getElem?_cons_succ]; rfl
                        case kzz15a =>
                          go_simp
                          refine (rints_same A1 A2 rb.length c1 rb.length c2 rb _ L1.out L2.out N2.out).mono ?_
                          rintro e w5b ⟨rfl, q6⟩
                          have L1 := Lib.hid (L1.out.q q6)
                          have L2 := Lib.hid (L2.out.q q6)
                          go_wp2_with fail
                          refine hK.out _ _ ?Szz15a (fun hHeld => ?Rzz15a)
                          case Szz15a =>
                            exact hHeld.trans q6
                          case Rzz15a =>
                            clear hK K
                            try simp only [Act.put, List.setIfInBounds_toArray, List.set_cons_zero, List.set_cons_succ]
                            refine wpAnyH_take (i := 7) (oi := ?ozz14a) (v := ?vzz14a) ?hzz14a ?azz14a ?bzz14a ?czz14a ?qzz14a ?yzz14a ?szz14a ?rzz14a
                            case hzz14a => simp only [List.getElem?_toArray, List.getElem?_cons_zero, List.getElem?_cons_succ]; rfl
                            case azz14a => kernel_rfl
                            case bzz14a => kernel_rfl
                            case czz14a => kernel_rfl
                            case yzz14a =>
                              refine Or.inl ⟨by rfl, ?_⟩
                              intro w hSw
                              have z0 := box_ hSw x0; have z1 := box_ hSw x1; clear hSw
                              go_simp
                              try with_reducible rfl
                            case qzz14a => exact fun _ _ _ h => h
                            case szz14a => first | assumption | trivial
                            case' rzz14a => simp only [Act.put, List.setIfInBounds_toArray, List.set_cons_zero, List.set_cons_succ]
                            refine wpAnyH_done (by kernel_rfl) ?_ _
                            have X := Lib.hid (X.out.q hHeld)
                            have HQ := Lib.hid (HQ.out.trans hHeld)
                            clear hHeld L1 L2 o1 o2 x0 x1 x2 x3
                            obtain ⟨⟨x0, x1⟩, x2, x3⟩ := X.out.get2
                            go_wp2
                            refine wp_region_held_drew (S := Q w5b) (by kernel_rfl) ?szz18aa (fun hHeld => ?rzz18aa)
                            case szz18aa =>
                              exact (Q.refl w5b).drew
                            case' rzz18aa => skip
                            generalize hgen : w5b.drew = D0 at hHeld ⊢
                            clear hgen
                            refine wpAnyH_take (i := 0) (oi := ?ozz19aa) (v := ?vzz19aa) ?hzz19aa ?azz19aa ?bzz19aa ?czz19aa ?qzz19aa ?yzz19aa ?szz19aa ?rzz19aa
                            case hzz19aa => simp only [List.getElem?_toArray, List.getElem?_cons_zero]; rfl
                            case azz19aa => kernel_rfl
                            case bzz19aa => kernel_rfl
                            case czz19aa => kernel_rfl
                            case yzz19aa =>
                              refine Or.inl ⟨by rfl, ?_⟩
                              intro w hSw
                              have z0 := box_ hSw x0; have z1 := box_ hSw x1; clear hSw
                              go_simp
                              try with_reducible rfl
                            case qzz19aa => exact fun _ _ _ h => h
                            case szz19aa => first | assumption | trivial
                            case' rzz19aa => simp only [Act.put, List.setIfInBounds_toArray, List.set_cons_zero, List.set_cons_succ]
                            refine wpAnyH_take (i := 1) (oi := ?ozz20aa) (v := ?vzz20aa) ?hzz20aa ?azz20aa ?bzz20aa ?czz20aa ?qzz20aa ?yzz20aa ?szz20aa ?rzz20aa
                            case hzz20aa => simp only [List.getElem?_toArray, List.getElem?_cons_zero, List.getElem?_cons_succ]; rfl
                            case azz20aa => kernel_rfl
                            case bzz20aa => kernel_rfl
                            case czz20aa => kernel_rfl
                            case yzz20aa =>
                              refine Or.inl ⟨by rfl, ?_⟩
                              intro w hSw
                              have z0 := box_ hSw x0; have z1 := box_ hSw x1; clear hSw
                              go_simp
                              try with_reducible rfl
                            case qzz20aa => exact fun _ _ _ h => h
                            case szz20aa => first | assumption | trivial
                            case' rzz20aa => simp only [Act.put, List.setIfInBounds_toArray, List.set_cons_zero, List.set_cons_succ]
                            refine wpAnyH_take (i := 3) (oi := ?ozz21aa) (v := ?vzz21aa) ?hzz21aa ?azz21aa ?bzz21aa ?czz21aa ?qzz21aa ?yzz21aa ?szz21aa ?rzz21aa
                            case hzz21aa => simp only [List.getElem?_toArray, List.getElem?_cons_zero, List.getElem?_cons_succ]; rfl
                            case azz21aa => kernel_rfl
                            case bzz21aa => kernel_rfl
                            case czz21aa => kernel_rfl
                            case yzz21aa =>
                              refine Or.inl ⟨by rfl, ?_⟩
                              intro w hSw
                              have z0 := box_ hSw x0; have z1 := box_ hSw x1; clear hSw
                              go_simp
                              try with_reducible rfl
                            case qzz21aa => exact fun _ _ _ h => h
                            case szz21aa => first | assumption | trivial
                            case' rzz21aa => simp only [Act.put, List.setIfInBounds_toArray, List.set_cons_zero, List.set_cons_succ]
                            refine wpAnyH_take (i := 4) (oi := ?ozz22aa) (v := ?vzz22aa) ?hzz22aa ?azz22aa ?bzz22aa ?czz22aa ?qzz22aa ?yzz22aa ?szz22aa ?rzz22aa
                            case hzz22aa => simp only [List.getElem?_toArray, List.getElem?_cons_zero, List.getElem?_cons_succ]; rfl
                            case azz22aa => kernel_rfl
                            case bzz22aa => kernel_rfl
                            case czz22aa => kernel_rfl
                            case yzz22aa =>
                              refine Or.inl ⟨by rfl, ?_⟩
                              intro w hSw
                              have z0 := box_ hSw x0; have z1 := box_ hSw x1; clear hSw
                              go_simp
                              try with_reducible rfl
                            case qzz22aa => exact fun _ _ _ h => h
                            case szz22aa => first | assumption | trivial
                            case' rzz22aa => simp only [Act.put, List.setIfInBounds_toArray, List.set_cons_zero, List.set_cons_succ]
                            refine wpAnyH_ready (rs := [2]) (by kernel_rfl) (by simp) ?_
                            refine AllReadyH.cons (o := ?ozz26aa) ?hzz26aa (fun K hK => ?kzz26aa) ?mzz26aa
                            case hzz26aa => simp only [List.getElem?_toArray, List.getElem?_cons_zero, List.getElem?_cons_succ]; rfl
                            case kzz26aa =>
                              go_simp
                              refine (K5.out _ (HQ.out.trans hHeld)).mono ?_
                              rintro e u1 ⟨A1, c1, rfl, o1, q4⟩
                              have L1 := Lib.hid (o1.lst)
                              go_wp2_with fail
                              refine hK.out _ _ ?Szz26aa (fun hHeld => ?Rzz26aa)
                              case Szz26aa =>
                                exact hHeld.trans q4
                              case Rzz26aa =>
                                clear hK K
                                try simp only [Act.put, List.setIfInBounds_toArray, List.set_cons_zero, List.set_cons_succ]
                                refine wpAnyH_ready (rs := [5]) (by kernel_rfl) (by simp) ?_
                                refine AllReadyH.cons (o := ?ozz25aa) ?hzz25aa (fun K hK => ?kzz25aa) ?mzz25aa
                                case hzz25aa => simp only [List.getElem?_toArray, List.getElem?_cons_zero, List.getElem?_cons_succ]; rfl
                                case kzz25aa =>
                                  go_simp
                                  refine (K6.out _ (HQ.out.trans hHeld)).mono ?_
                                  rintro e u2 ⟨A2, c2, rfl, o2, q5⟩
                                  have L1 := Lib.hid (L1.out.q q5)
                                  have L2 := Lib.hid (o2.lst)
                                  go_wp2_with fail
                                  refine hK.out _ _ ?Szz25aa (fun hHeld => ?Rzz25aa)
                                  case Szz25aa =>
                                    exact hHeld.trans q5
                                  case Rzz25aa =>
                                    clear hK K
                                    try simp only [Act.put, List.setIfInBounds_toArray, List.set_cons_zero, List.set_cons_succ]
                                    refine wpAnyH_ready (rs := [6]) (by kernel_rfl) (by simp) ?_
                                    refine AllReadyH.cons (o := ?ozz24aa) ?hzz24aa (fun K hK => ?kzz24aa) ?mzz24aa
                                    case hzz24aa => simp only [List.getElem?_toArray, List.getElem?_cons_zero, List.getElem?_cons_succ]; rfl
                                    case kzz24aa =>
                                      go_simp
                                      refine (rints_same A1 A2 rc.length c1 rc.length c2 rc _ L1.out L2.out N3.out).mono ?_
                                      rintro e w5c ⟨rfl, q6⟩
                                      have L1 := Lib.hid (L1.out.q q6)
                                      have L2 := Lib.hid (L2.out.q q6)
                                      go_wp2_with fail
                                      refine hK.out _ _ ?Szz24aa (fun hHeld => ?Rzz24aa)
                                      case Szz24aa =>
                                        exact hHeld.trans q6
                                      case Rzz24aa =>
                                        clear hK K
                                        try simp only [Act.put, List.setIfInBounds_toArray, List.set_cons_zero, List.set_cons_succ]
                                        refine wpAnyH_take (i := 7) (oi := ?ozz23aa) (v := ?vzz23aa) ?hzz23aa ?azz23aa ?bzz23aa ?czz23aa ?qzz23aa ?yzz23aa ?szz23aa ?rzz23aa
                                        case hzz23aa => simp only [List.getElem?_toArray, List.getElem?_cons_zero, List.getElem?_cons_succ]; rfl
                                        case azz23aa => kernel_rfl
                                        case bzz23aa => kernel_rfl
                                        case czz23aa => kernel_rfl
                                        case yzz23aa =>
                                          refine Or.inl ⟨by rfl, ?_⟩
                                          intro w hSw
                                          have z0 := box_ hSw x0; have z1 := box_ hSw x1; clear hSw
                                          go_simp
                                          try with_reducible rfl
                                        case qzz23aa => exact fun _ _ _ h => h
                                        case szz23aa => first | assumption | trivial
                                        case' rzz23aa => simp only [Act.put, List.setIfInBounds_toArray, List.set_cons_zero, List.set_cons_succ]
                                        refine wpAnyH_done (by kernel_rfl) ?_ _
                                        have X := Lib.hid (X.out.q hHeld)
                                        have HQ := Lib.hid (HQ.out.trans hHeld)
                                        clear hHeld L1 L2 o1 o2 x0 x1 x2 x3
                                        obtain ⟨⟨x0, x1⟩, x2, x3⟩ := X.out.get2
                                        go_wp2_with fail
                                        refine (K7.out _ HQ.out).mono ?_
                                        rintro e w6 ⟨rfl, q7⟩
                                        have X := Lib.hid (X.out.q q7)
                                        have HQ := Lib.hid (HQ.out.trans q7)
                                        clear q7 x0 x1 x2 x3
                                        obtain ⟨⟨x0, x1⟩, x2, x3⟩ := X.out.get2
                                        go_wp2_with fail
                                        refine (K8.out _ HQ.out).mono ?_
                                        rintro e w7 ⟨rfl, q8⟩
                                        have HQ := Lib.hid (HQ.out.trans q8)
                                        clear q8
                                        have hvv : (vic == vic) = true := by simp
                                        have hbb := beq_b isv
                                        go_wp2
                                        go_ret
                                        exact ⟨by first | rfl | (simp; done), HQ.out⟩
                                    case' mzz24aa => skip
                                    exact AllReadyH.nil
                                case' mzz25aa => skip
                                exact AllReadyH.nil
                            case' mzz26aa => skip
                            exact AllReadyH.nil
                        case' mzz15a => skip
                        exact AllReadyH.nil
                    case' mzz16a => skip
                    exact AllReadyH.nil
                case' mzz17a => skip
                exact AllReadyH.nil
            case' mzz6 => skip
            exact AllReadyH.nil
        case' mzz7 => skip
        exact AllReadyH.nil
    case' mzz8 => skip
    exact AllReadyH.nil
  · rw [rgmany hs] at KS
    clear h hs
    go_enter Try.func3, Try.ntmps3
    go_wp2_with fail
    refine (rgshown_any _).mono ?_
    rintro e w1 ⟨rfl, q1⟩
    have X := Lib.hid ((Bx.new w [.slice A n c, .slice B m d] 25).q q1)
    have HQ := Lib.hid (((Q.refl w).alloc (.cells #[.slice A n c, .slice B m d] 25)).trans q1)
    clear q1
    obtain ⟨⟨x0, x1⟩, x2, x3⟩ := X.out.get2
    go_wp2_with fail
    refine (KS.out _).mono ?_
    rintro e w2 ⟨rfl, q2⟩
    have X := Lib.hid (X.out.q q2)
    have HQ := Lib.hid (HQ.out.trans q2)
    clear q2 x0 x1 x2 x3
    obtain ⟨⟨x0, x1⟩, x2, x3⟩ := X.out.get2
    go_wp2
    go_ret
    exact ⟨by first | rfl | (simp; done), HQ.out⟩

theorem opened (W : World) (args : Array Value) (hn : args.size = 2) (h : ∀ (j : Nat) t v, Try.f3.params[j]? = some t → args[j]? = some v → RdV W t v) :
    Calls Try.prog 3 args W fun e W' => e = .returned (.bool true) ∧ Q W W' := by
  obtain ⟨v0, v1, rfl⟩ := args2 hn
  rw [Try.params3] at h
  obtain ⟨cs, rfl, hr⟩ := (h 0 25 v0 rfl rfl).struct Try.underlying25
  obtain ⟨A, n, c, B, m, d, l, rfl, hl⟩ := open_locks hr
  obtain ⟨x1, rfl, _⟩ := (h 1 3 v1 rfl rfl).int Try.underlying3
  exact walk A B n c m d l x1 W hl

set_option maxRecDepth 100000 in
theorem lifted (os : Os) (started : os.Started) (H : Type) (enc : TypeId × Value → H) :
    ReturnsInHanded {} Try.checked os 3 .any (Rows.ringTellsSpec.pre6 enc Try.prog Try.f3 Rows.ringTellsRow.domain false) (Rows.ringTellsSpec.post enc Try.prog Try.f3 false true false false) :=
  framed 2 Try.func3 (by rw [Try.params3]; rfl) rfl (by kernel_rfl) (by kernel_rfl) (by kernel_rfl)
    (fun H ds h => by match ds, h with | [d0, d1], _ => exact ⟨rfl, rfl, rfl⟩)
    opened os started H enc
    (ChangeSpec.witness6 (enc := enc) (C := Try.checked) false ⟨#[], #[.agg #[.slice none 0 0, .slice none 0 0], .int .i64 0], []⟩ 8 (by kernel_rfl) (by kernel_rfl) (by kernel_rfl) (by kernel_rfl))

theorem over : Rows.ringTellsRow.holds Try.pinned (OpenSpec.ofChange Rows.ringTellsSpec) :=
  OpenClaim.holds_of_wide 3 Try.f3 rfl rfl rfl rfl rfl rfl rfl ⟨rfl, rfl, rfl, rfl, rfl⟩ rfl rfl rfl rfl rfl (by kernel_rfl) Try.func3 (by kernel_rfl)
    (of_decide_eq_true (by kernel_rfl)) (by unfold Func.isWrapper; first | (rw [if_pos (by decide +kernel)]; kernel_rfl) | (rw [if_neg (by decide +kernel)]; exact ⟨rfl, rfl⟩))
    (fun os started H enc _ => lifted os started H enc)

theorem proved : Rows.RingTellsSaid := over
end Go.Proofs.Ytncnfblnelkmbaa.ringTells
