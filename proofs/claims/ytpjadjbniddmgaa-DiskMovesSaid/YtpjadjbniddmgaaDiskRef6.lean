/- Contracts: the document's Crash. -/
import Derived.Test.YtpjadjbniddmgaaDiskRef5
import Derived.Deep.RegionLaw
import Derived.Deep.DeepCutAuto
namespace Go.Proofs.Ytpjadjbniddmgaa
open Go.RowKit Dkm
set_option linter.unusedVariables false

namespace Dkm
def crd (ks : List Int) (l : List Fil) (k : Nat) : List Fil := (l.take k).mapIdx (crf ks)
theorem crd_succ (ks : List Int) (l : List Fil) (k : Nat) (h : k < l.length) : crd ks l (k + 1) = crd ks l k ++ [crf ks k l[k]] := by
  unfold crd
  rw [List.take_succ_eq_append_getElem h, List.mapIdx_append]
  simp [show min k l.length = k by omega]
theorem crd_all (ks : List Int) (l : List Fil) : crl ks l l.length = crd ks l l.length := by simp [crl, crd]
theorem wrap_less (r : Int) (a b : Nat) : wrap64 (wrap64 (r + a) - b) = wrap64 (r + ((a : Int) - (b : Int))) := by unfold wrap64; omega
theorem kp_big {ks : List Int} {i : Nat} {f : Fil} (h : i < ks.length) (h2 : (f.wt.size : Int) < ks[i]) : kp ks i f = f.wt.size := by
  have := kp_in f h; omega
theorem kp_mid {ks : List Int} {i : Nat} {f : Fil} (h : i < ks.length) (h1 : 0 < ks[i]) (h2 : ks[i] ≤ (f.wt.size : Int)) : ks[i] = (kp ks i f : Int) := by
  have := kp_in f h; omega
theorem kp_low {ks : List Int} {i : Nat} {f : Fil} (h : i < ks.length) (h1 : ks[i] ≤ 0) : kp ks i f = 0 := by
  have := kp_in f h; omega
end Dkm

/-- 'append(own, more...)' as one step of a region that draws. -/
theorem step_app {ops : Array Oper} {o : Oper} {a : Act} {w : World} {K : Act → World → Prop} {R : Exit → Act → World → Prop} {E : Prop} (hgd : o.guard = none) (s x : Operand)
    (ho : o.op = .call { callee := .builtin .append, args := #[s, x], argTypes := #[22, 22] })
    (base : Nat) (A : Option Addr) (n c : Nat) (l : List Fil) (hs : a.eval s = .slice A n c) (h : Own w base A n c l) (A2 : Option Addr) (m c2 : Nat) (l2 : List Fil) (hx : a.eval x = .slice A2 m c2) (h2 : Files w A2 m l2) (hnil : A2 = none → m = 0 ∧ c2 = 0)
    (hb : (n + m) * 48 ≤ 140737488355328) (hbase : base ≤ w.heap.size)
    (hK : ∀ A' c' w', Own w' base A' (n + m) c' (l ++ l2) → Below base w w' → K (a.put o.dst (.slice A' (n + m) c')) w') :
    if Region.wanted o (yielded ops a.tmps) = true then Oper.wp Try.prog o a w K R else E := by
  have hw : Region.wanted o (yielded ops a.tmps) = true := by simp [Region.wanted, hgd]
  rw [if_pos hw]
  obtain ⟨A', c', w', hr, h3, h4⟩ := run_app w base A n c l h A2 m c2 l2 h2 hnil hb hbase o.type
  unfold Oper.wp execOp
  simp only [ho, resolve, invoke, builtin, Sem.run_bind, Sem.run_pure, Result.andThen_ok, List.map_toArray, List.map_cons, List.map_nil, hs, hx, hr]
  exact hK A' c' w' h3 h4

/-- the boxes of the document's Crash: d, the result, out. -/
structure Sc (w : World) (A : Option Addr) (n c : Nat) (room fuse : Int) (off : Bool) (A2 : Option Addr) (k c2 : Nat) (room2 : Int) (m : List Fil) (wr : World) : Prop where
  dk : Bx wr w.heap.size [.slice A n c, .int .i64 room, .int .i64 fuse, .bool off]
  res : Bx wr (w.heap.size + 1) [.slice none 0 0, .int .i64 0, .int .i64 0, .bool false]
  out : Bx wr (w.heap.size + 2) [.slice A2 k c2, .int .i64 room2, .int .i64 (-1), .bool false]
  own : Own wr (w.heap.size + 3) A2 k c2 m
  q : Q w wr
section
variable {w wr : World} {A A2 : Option Addr} {n c k c2 : Nat} {room fuse room2 : Int} {off : Bool} {m : List Fil}
theorem Sc.new (w : World) (A : Option Addr) (n c : Nat) (room fuse : Int) (off : Bool) :
    Sc w A n c room fuse off none 0 0 room [] (((w.alloc (.cells #[.slice A n c, .int .i64 room, .int .i64 fuse, .bool off] 24)).alloc (.cells #[.slice none 0 0, .int .i64 0, .int .i64 0, .bool false] 24)).alloc (.cells #[.slice none 0 0, .int .i64 room, .int .i64 (-1), .bool false] 24)) := by
  have s := Sb.new w A n c room fuse off
  have b := Bx.new ((w.alloc (.cells #[.slice A n c, .int .i64 room, .int .i64 fuse, .bool off] 24)).alloc (.cells #[.slice none 0 0, .int .i64 0, .int .i64 0, .bool false] 24)) [.slice none 0 0, .int .i64 room, .int .i64 (-1), .bool false] 24
  exact ⟨s.box.alloc _, s.res.alloc _, by simpa using b, ⟨rfl, .inl ⟨rfl, rfl⟩⟩, s.q.alloc _⟩
theorem Sc.step {w2 : World} (h : Sc w A n c room fuse off A2 k c2 room2 m wr) (q : Q wr w2) : Sc w A n c room fuse off A2 k c2 room2 m w2 := ⟨h.dk.q q, h.res.q q, h.out.q q, h.own.q q, h.q.trans q⟩
theorem Sc.setRoom (h : Sc w A n c room fuse off A2 k c2 room2 m wr) (x : Int) : Sc w A n c room fuse off A2 k c2 x m (wr.setCell ⟨w.heap.size + 2, 1, none⟩ (.int .i64 x)) :=
  ⟨h.dk.far (p := ⟨w.heap.size + 2, 1, none⟩) (by simp) _, h.res.far (p := ⟨w.heap.size + 2, 1, none⟩) (by simp) _, h.out.set (k := 1) (by simp) _, h.own.setCell (p := ⟨w.heap.size + 2, 1, none⟩) (by simp) _, h.q.setCell (p := ⟨w.heap.size + 2, 1, none⟩) (by simp) _⟩
theorem Sc.wrote {w2 : World} (h : Sc w A n c room fuse off A2 k c2 room2 m wr) {A3 : Option Addr} {k3 c3 : Nat} {m3 : List Fil} (ho : Own w2 (w.heap.size + 3) A3 k3 c3 m3) (hb : Below (w.heap.size + 3) wr w2) :
    Sc w A n c room fuse off A3 k3 c3 room2 m3 (w2.setCell ⟨w.heap.size + 2, 0, none⟩ (.slice A3 k3 c3)) :=
  ⟨(h.dk.below hb (by omega)).far (p := ⟨w.heap.size + 2, 0, none⟩) (by simp) _, (h.res.below hb (by omega)).far (p := ⟨w.heap.size + 2, 0, none⟩) (by simp) _, (h.out.below hb (by omega)).set (k := 0) (by simp) _,
    ho.setCell (p := ⟨w.heap.size + 2, 0, none⟩) (by simp) _, (show Q w w2 from h.q.below.trans (hb.mono (by omega))).setCell (p := ⟨w.heap.size + 2, 0, none⟩) (by simp) _⟩
end
def Wx (W wx : World) : Prop := wx = W
/-- what the document's Crash asks to keep. -/
def vz (ks : List Int) (k : Nat) : Int := if k < ks.length ∧ 0 < ks.getD k 0 then ks.getD k 0 else 0
theorem vz_yes {ks : List Int} {k : Nat} (h : k < ks.length) (h1 : 0 < ks.getD k 0) : vz ks k = ks.getD k 0 := by unfold vz; rw [if_pos ⟨h, h1⟩]
theorem vz_no {ks : List Int} {k : Nat} (h : ¬ (k < ks.length ∧ 0 < ks.getD k 0)) : vz ks k = 0 := by unfold vz; rw [if_neg h]
theorem vz_kp (ks : List Int) (k : Nat) (f : Fil) : 0 ≤ vz ks k ∧ (kp ks k f : Int) = if (f.wt.size : Int) < vz ks k then (f.wt.size : Int) else vz ks k := by
  unfold vz kp
  by_cases h : k < ks.length
  · by_cases h1 : 0 < ks.getD k 0
    · rw [if_pos ⟨h, h1⟩, if_pos h]
      split <;> omega
    · rw [if_neg (by omega), if_pos h]
      split <;> omega
  · rw [if_neg (by omega), if_neg h]
    split <;> omega
def bz (ks : List Int) (k : Nat) : Bool := decide (k < ks.length ∧ 0 < ks.getD k 0)
theorem bz_in {ks : List Int} {k : Nat} (h : k < ks.length) : bz ks k = decide (0 < ks.getD k 0) := by
  unfold bz
  by_cases h1 : 0 < ks.getD k 0
  · rw [decide_eq_true ⟨h, h1⟩, decide_eq_true h1]
  · rw [decide_eq_false (fun x => h1 x.2), decide_eq_false h1]
theorem bz_out {ks : List Int} {k : Nat} (h : ¬ k < ks.length) : bz ks k = false := decide_eq_false (fun x => h x.1)
theorem bz_vz {ks : List Int} {k : Nat} (h : bz ks k = false) : vz ks k = 0 := vz_no (of_decide_eq_false h)
theorem bz_yes {ks : List Int} {k : Nat} (h : bz ks k = true) : k < ks.length ∧ 0 < ks.getD k 0 ∧ vz ks k = ks.getD k 0 := ⟨(of_decide_eq_true h).1, (of_decide_eq_true h).2, vz_yes (of_decide_eq_true h).1 (of_decide_eq_true h).2⟩
theorem bool_eq {a b : Bool} (h : a = b) : Value.bool a = .bool b := by rw [h]
theorem int_eq {a b : Int} (h : a = b) : Value.int .i64 a = .int .i64 b := by rw [h]

set_option maxHeartbeats 4000000 in
theorem ref_crash (A : Option Addr) (n c : Nat) (room fuse : Int) (off : Bool) (K : Option Addr) (kn kc : Nat) (ks : List Int) (l : List Fil) (w : World) (hd : Dsk w A n c l) (hk : Ints w K kn ks) (hkn : kn ≤ maxLen) (hs : ∀ f ∈ l, f.sf.size + f.wt.size ≤ maxLen) :
    Calls Try.prog 28 #[dkv A n c room fuse off, .slice K kn kc] w fun e w' => RetD w (crs ⟨l, room, fuse, off⟩ ks) e w' := by
  have hnm := hd.max
  have hfew := hd.few
  unfold maxLen at hnm hkn
  have HD := Lib.hid hd
  have HK := Lib.hid hk
  have HL := Lib.hid hd.len
  have HKL := Lib.hid hk.len
  have HS := Lib.hid hs
  have S0 := Lib.hid (Sc.new w A n c room fuse off)
  clear hd hk hs
  go_enter Try.func28, Try.ntmps28
  go_wp2
  generalize (((w.alloc (.cells #[.slice A n c, .int .i64 room, .int .i64 fuse, .bool off] 24)).alloc (.cells #[.slice none 0 0, .int .i64 0, .int .i64 0, .bool false] 24)).alloc (.cells #[.slice none 0 0, .int .i64 room, .int .i64 (-1), .bool false] 24)) = W at S0 ⊢
  go_loopw [6] (fun i wr => ∃ (k : Nat) (A2 : Option Addr) (c2 : Nat), k ≤ n ∧ i = .int .i64 k ∧ Sc w A n c room fuse off A2 k c2 (croom ks l room k) (crd ks l k) wr) (fun i _ => n - (intOf i).toNat)
  case atStart => exact ⟨0, none, 0, Nat.zero_le _, rfl, by simpa [croom, crd] using S0.out⟩
  case round =>
    obtain ⟨k, A2, c2, hk, rfl, hsc⟩ := hrel
    have Y := Lib.hid hsc
    clear hsc S0
    obtain ⟨⟨d0, d1, d2, d3⟩, _⟩ := Y.out.dk.get4
    by_cases hlt : k < n
    · have hkl : k < l.length := by have := HL.out; omega
      obtain ⟨ad, rfl, hb, c0, c1, c3⟩ := (HD.out.files.q Y.out.q).load hlt hkl
      have q4 : (k : Int) < (n : Int) := by omega
      have q5 : 0 ≤ (k : Int) := by omega
      have hsz := HS.out l[k] (List.getElem_mem hkl)
      unfold maxLen at hsz
      have hkp := kp_le ks k l[k]
      have z0 : w.heap.size + 2 < wr.heap.size := Y.out.out.lt
      have KF : Hid (k < kn → ∃ ka, K = some ka ∧ (wr.alloc (.cells #[.string l[k].nm, .string l[k].sf, .string l[k].wt] 29)).cell? (ka.add k) = some (.int .i64 (ks.getD k 0))) := Lib.hid (fun h => by
        have h2 : k < ks.length := by have := HKL.out; omega
        obtain ⟨ka, e, _, hc⟩ := (HK.out.q (Y.out.q.alloc (.cells #[.string l[k].nm, .string l[k].sf, .string l[k].wt] 29))).load h2
        exact ⟨ka, e, by rw [hc]; simp [h2]⟩)
      have HVK := Lib.hid (vz_kp ks k l[k])
      have v0 := (vz_kp ks k l[k]).1
      go_upto_region 7 with (fail)
      go_cut [34] (fun s34 wx => s34 = .bool (bz ks k) ∧ Wx (wr.alloc (.cells #[.string l[k].nm, .string l[k].sf, .string l[k].wt] 29)) wx)
      case first =>
        by_cases hkk : k < kn
        · obtain ⟨ka, rfl, kc0⟩ := KF.out hkk
          have hk2 : k < ks.length := by have := HKL.out; omega
          have q6 : (k : Int) < (kn : Int) := by omega
          have HB := Lib.hid (bz_in (ks := ks) hk2)
          generalize ks.getD k 0 = xx at kc0 HB
          by_cases hx : 0 < xx
          · go_wp2
            go_meet
            exact ⟨bool_eq (by rw [HB.out]; simp [hx]), rfl⟩
          · have hx2 : decide ((0 : Int) < xx) = false := by simpa using hx
            go_wp2
            go_meet
            exact ⟨bool_eq (by rw [HB.out]; simp [hx]), rfl⟩
        · have HV := Lib.hid (bz_out (ks := ks) (k := k) (by have := HKL.out; omega))
          go_wp2
          go_meet
          exact ⟨bool_eq (by rw [HV.out]), rfl⟩
      case rest =>
        obtain ⟨rfl, hw⟩ := hcut
        unfold Wx at hw
        subst hw
        go_upto_if 34 with (fail)
        go_cut [8] (fun s8 wx => s8 = .int .i64 (vz ks k) ∧ Wx (wr.alloc (.cells #[.string l[k].nm, .string l[k].sf, .string l[k].wt] 29)) wx)
        case first =>
          cases hbz : bz ks k
          · have HV := Lib.hid (bz_vz hbz)
            clear hbz
            go_wp2
            go_meet
            exact ⟨int_eq HV.out.symm, rfl⟩
          · obtain ⟨hkk, hx, hvx⟩ := bz_yes hbz
            have hkn2 : k < kn := by have := HKL.out; omega
            obtain ⟨ka, rfl, kc0⟩ := KF.out hkn2
            have q6 : (k : Int) < (kn : Int) := by omega
            have HV := Lib.hid hvx
            clear hbz hvx
            generalize ks.getD k 0 = xx at kc0 HV hx
            go_wp2
            go_meet
            exact ⟨int_eq HV.out.symm, rfl⟩
        case rest =>
          obtain ⟨rfl, hw⟩ := hcut
          unfold Wx at hw
          subst hw
          generalize vz ks k = v at HVK v0 ⊢
          clear KF
          go_upto_if 43 with (fail)
          go_cut [8] (fun s8 wx => s8 = .int .i64 (kp ks k l[k] : Int) ∧ Wx (wr.alloc (.cells #[.string l[k].nm, .string l[k].sf, .string l[k].wt] 29)) wx)
          case first =>
            by_cases hv : (l[k].wt.size : Int) < v
            · have HE := Lib.hid (HVK.out.2.trans (if_pos hv))
              go_wp2
              go_meet
              exact ⟨int_eq HE.out.symm, rfl⟩
            · have HE := Lib.hid (HVK.out.2.trans (if_neg hv))
              go_wp2
              go_meet
              exact ⟨int_eq HE.out.symm, rfl⟩
          case rest =>
            obtain ⟨rfl, hw⟩ := hcut
            unfold Wx at hw
            subst hw
            clear HVK v0
            have HF : Hid (crf ks k l[k] = ⟨l[k].nm, l[k].sf ++ l[k].wt.extract 0 (kp ks k l[k]), ⟨#[]⟩⟩) := Lib.hid rfl
            have HR := Lib.hid (croom_succ ks l room k hkl)
            have HC := Lib.hid (crd_succ ks l k hkl)
            have HWL := Lib.hid (wrap_less (croom ks l room k) l[k].wt.size (kp ks k l[k]))
            generalize kp ks k l[k] = y at hkp HF HR HWL ⊢
            obtain ⟨⟨o0, o1, o2, o3⟩, g0, g1, g2, g3⟩ := Y.out.out.get4
            have z1 : w.heap.size + 2 ≠ wr.heap.size := by omega
            go_upto_region 12 with (fail)
            rw [HWL.out, ← HR.out]
            clear HR
            generalize hr3 : croom ks l room (k + 1) = r3
            have HR3 := Lib.hid hr3
            clear hr3
            have Z : Hid (Sc w (some ad) n c room fuse off A2 k c2 r3 (crd ks l k) ((wr.setCell ⟨w.heap.size + 1 + 1, 1, none⟩ (.int .i64 r3)).alloc (.cells #[.string l[k].nm, .string l[k].sf, .string l[k].wt] 29))) := Lib.hid ((Y.out.setRoom r3).step ((Q.refl _).alloc (.cells #[.string l[k].nm, .string l[k].sf, .string l[k].wt] 29)))
            have BF : Hid (Bx ((wr.setCell ⟨w.heap.size + 1 + 1, 1, none⟩ (.int .i64 r3)).alloc (.cells #[.string l[k].nm, .string l[k].sf, .string l[k].wt] 29)) wr.heap.size [.string l[k].nm, .string l[k].sf, .string l[k].wt]) := Lib.hid (by
              have := Bx.new (wr.setCell ⟨w.heap.size + 1 + 1, 1, none⟩ (.int .i64 r3)) [.string l[k].nm, .string l[k].sf, .string l[k].wt] 29
              simpa [World.setCell] using this)
            generalize ((wr.setCell ⟨w.heap.size + 1 + 1, 1, none⟩ (.int .i64 r3)).alloc (.cells #[.string l[k].nm, .string l[k].sf, .string l[k].wt] 29)) = V at Z BF ⊢
            generalize wr.heap.size = gf at BF ⊢
            clear o0 o1 o2 o3 g0 g1 g2 g3 d0 d1 d2 d3 c0 c1 c3 hb z0 z1 Y
            have P0 : Bx V (w.heap.size + 1 + 1) [.slice A2 k c2, .int .i64 r3, .int .i64 (-1), .bool false] := Z.out.out
            obtain ⟨⟨o0, o1, o2, o3⟩, g0, g1, g2, g3⟩ := P0.get4
            clear P0
            obtain ⟨⟨b0, b1, b2⟩, _⟩ := BF.out.get3
            have q6 : (y : Int) ≤ (l[k].wt.size : Int) := by omega
            have q7 : 0 ≤ (y : Int) := by omega
            have q8 : ¬ 9223372036854775807 < l[k].sf.size + y := by omega
            have q9 : y ≤ l[k].wt.size := by omega
            have z5 : w.heap.size + 1 + 1 < V.heap.size := Z.out.out.lt
            have z6 : w.heap.size + 1 + 1 ≠ V.heap.size := by omega
            have z7 : gf < V.heap.size := BF.out.lt
            have z8 : gf ≠ V.heap.size := by omega
            have T1 : Hid (Own ((V.alloc (.cells #[.string l[k].nm, .string (l[k].sf ++ l[k].wt.extract 0 y), .string ⟨#[]⟩] 29)).drew) (w.heap.size + 3) A2 k c2 (crd ks l k)) := Lib.hid ((Z.out.own.alloc _).q (Q.refl _).drew)
            have T2 : Hid (Files ((V.alloc (.cells #[.string l[k].nm, .string (l[k].sf ++ l[k].wt.extract 0 y), .string ⟨#[]⟩] 29)).drew) (some ⟨V.heap.size, 0, none⟩) 1 [⟨l[k].nm, l[k].sf ++ l[k].wt.extract 0 y, ⟨#[]⟩⟩]) := Lib.hid ((files_lit1 V ⟨l[k].nm, l[k].sf ++ l[k].wt.extract 0 y, ⟨#[]⟩⟩).q (Q.refl _).drew)
            have T3 : Hid (w.heap.size + 3 ≤ ((V.alloc (.cells #[.string l[k].nm, .string (l[k].sf ++ l[k].wt.extract 0 y), .string ⟨#[]⟩] 29)).drew).heap.size) := Lib.hid (by have := Z.out.out.lt; simp; omega)
            have T4 : (k + 1) * 48 ≤ 140737488355328 := by omega
            go_region_law ((refine step_app (by rfl) _ _ (by rfl) (w.heap.size + 3) A2 k c2 (crd ks l k) (by rfl) T1.out (some ⟨V.heap.size, 0, none⟩) 1 1 [⟨l[k].nm, l[k].sf ++ l[k].wt.extract 0 y, ⟨#[]⟩⟩] (by rfl) T2.out (fun e => by cases e) T4 T3.out ?_
                            intro A4 c4 w4 ho4 hb4
                            obtain ⟨⟨x0, x1, x2, x3⟩, y0, y1, y2, y3⟩ := (show Bx w4 (w.heap.size + 1 + 1) [.slice A2 k c2, .int .i64 r3, .int .i64 (-1), .bool false] from (((Z.out.out.alloc _).q (Q.refl _).drew).below hb4 (by omega))).get4))
            all_goals
              have U : Hid (Sc w (some ad) n c room fuse off A4 (k + 1) c4 r3 (crd ks l (k + 1)) (w4.setCell ⟨w.heap.size + 1 + 1, 0, none⟩ (.slice A4 (k + 1) c4))) := Lib.hid (by
                rw [HC.out, HF.out]
                exact ((Z.out.step ((Q.refl _).alloc (.cells #[.string l[k].nm, .string (l[k].sf ++ l[k].wt.extract 0 y), .string ⟨#[]⟩] 29))).step (Q.refl _).drew).wrote ho4 hb4)
              clear ho4 hb4 o0 o1 o2 o3 g0 g1 g2 g3 b0 b1 b2 x0 x1 x2 x3 y0 y1 y2 y3
              go_wp2
              go_roundw
              case rel => exact ⟨k + 1, A4, c4, by omega, by go_num, by rw [HR3.out]; exact U.out⟩
              case measure => simp [intOf]; omega
    · have e : n = k := by omega
      subst e
      obtain ⟨⟨o0, o1, o2, o3⟩, _⟩ := (show Bx wr (w.heap.size + 1 + 1) [.slice A2 n c2, .int .i64 (croom ks l room n), .int .i64 (-1), .bool false] from Y.out.out).get4
      obtain ⟨⟨s0, s1, s2, s3⟩, h0, h1, h2, h3⟩ := Y.out.res.get4
      go_wp2
      refine bodyPost_ret (v := dkv A2 n c2 (croom ks l room n) (-1) false) (by simp [results, Try.results28, go_sem, s0, s1, s2, s3]) rfl ?_
      rw [show crs ⟨l, room, fuse, off⟩ ks = ⟨crd ks l n, croom ks l room n, -1, false⟩ by unfold crs; simp only; rw [crd_all, HL.out]]
      exact ⟨A2, n, c2, rfl, (Y.out.own.set4 (b := w.heap.size + 1) (by omega) _ _ _ _).lower (by omega), Y.out.q.set4 (b := w.heap.size + 1) (by omega) _ _ _ _⟩
end Go.Proofs.Ytpjadjbniddmgaa
