/- DiskRef6, DiskTot, Flat, DiskIn, DiskVar, WalShown, WalSame, WalIn: merged. -/
import Derived.Test.YtggbdhnjogalgaaGreatDoorZ6
import Derived.Deep.RegionLaw
import Derived.Deep.DeepCutAuto
import Derived.Test.YtggbdhnjogalgaaGreatDoorZ3
import Derived.Test.YtggbdhnjogalgaaGreatDoorZ1
import Derived.Test.YtggbdhnjogalgaaGreatDoorZ2
/- Contracts: the document's Crash. -/
namespace Go.Proofs.YtggbdhnjogalgaaGreatDoor
set_option maxRecDepth 100000
open Go.RowKit Dkm
set_option linter.unusedVariables false

namespace Dkm
def crd (ks : List Int) (l : List Fil) (k : Nat) : List Fil := (l.take k).mapIdx (crf ks)
theorem crd_succ (ks : List Int) (l : List Fil) (k : Nat) (h : k < l.length) : crd ks l (k + 1) = crd ks l k ++ [crf ks k l[k]] := by
  unfold crd
  rw [List.take_succ_eq_append_getElem h, List.mapIdx_append]
  simp [show min k l.length = k by omega]
theorem crd_all (ks : List Int) (l : List Fil) : crl ks l l.length = crd ks l l.length := by simp [crl, crd]
theorem wrap_less (r : Int) (a b : Nat) : wrap64 (wrap64 (r + a) - b) = wrap64 (r + ((a : Int) - (b : Int))) := by unfold wrap64; omega
end Dkm

/-- 'append(own, more...)' as one step of a region that draws. -/
theorem step_app {ops : Array Oper} {o : Oper} {a : Act} {w : World} {K : Act → World → Prop} {R : Exit → Act → World → Prop} {E : Prop} (hgd : o.guard = none) (s x : Operand)
    (ho : o.op = .call { callee := .builtin .append, args := #[s, x], argTypes := #[22, 22] })
    (base : Nat) (A : Option Addr) (n c : Nat) (l : List Fil) (hs : a.eval s = .slice A n c) (h : Own w base A n c l) (A2 : Option Addr) (m c2 : Nat) (l2 : List Fil) (hx : a.eval x = .slice A2 m c2) (h2 : Files w A2 m l2) (hnil : A2 = none → m = 0 ∧ c2 = 0)
    (hb : (n + m) * 48 ≤ 140737488355328) (hbase : base ≤ w.heap.size)
    (hK : ∀ A' c' w', Own w' base A' (n + m) c' (l ++ l2) → Below base w w' → K (a.put o.dst (.slice A' (n + m) c')) w') :
    if Region.wanted o (yielded ops a.tmps) = true then Oper.wp Tryz.prog o a w K R else E := by
  have hw : Region.wanted o (yielded ops a.tmps) = true := by simp [Region.wanted, hgd]
  rw [if_pos hw]
  obtain ⟨A', c', w', hr, h3, h4⟩ := run_app w base A n c l h A2 m c2 l2 h2 hnil hb hbase o.type
  unfold Oper.wp execOp
  simp only [ho, resolve, invoke, builtin, Sem.run_bind, Sem.run_pure, Result.andThen_ok, List.map_toArray, List.map_cons, List.map_nil, hs, hx, hr]
  exact hK A' c' w' h3 h4

/-- the boxes of the document's Crash: d, the result, out. -/
structure Sc (w : World) (A : Option Addr) (n c : Nat) (room fuse : Int) (off : Bool) (A2 : Option Addr) (k c2 : Nat) (room2 : Int) (m : List Fil) (wr : World) : Prop where
  dk : Bx wr w.heap.size [.slice A n c, .int .i64 room, .int .i64 fuse, .bool off]
  res : Bx wr (w.heap.size + 1) [.slice none 0 0, .int .i64 0, .int .i64 0, .bool false]
  out : Bx wr (w.heap.size + 2) [.slice A2 k c2, .int .i64 room2, .int .i64 (-1), .bool false]
  own : Own wr (w.heap.size + 3) A2 k c2 m
  q : Q w wr
section
variable {w wr : World} {A A2 : Option Addr} {n c k c2 : Nat} {room fuse room2 : Int} {off : Bool} {m : List Fil}
theorem Sc.new (w : World) (A : Option Addr) (n c : Nat) (room fuse : Int) (off : Bool) :
    Sc w A n c room fuse off none 0 0 room [] (((w.alloc (.cells #[.slice A n c, .int .i64 room, .int .i64 fuse, .bool off] 24)).alloc (.cells #[.slice none 0 0, .int .i64 0, .int .i64 0, .bool false] 24)).alloc (.cells #[.slice none 0 0, .int .i64 room, .int .i64 (-1), .bool false] 24)) := by
  have s := Sb.new w A n c room fuse off
  have b := Bx.new ((w.alloc (.cells #[.slice A n c, .int .i64 room, .int .i64 fuse, .bool off] 24)).alloc (.cells #[.slice none 0 0, .int .i64 0, .int .i64 0, .bool false] 24)) [.slice none 0 0, .int .i64 room, .int .i64 (-1), .bool false] 24
  exact ⟨s.box.alloc _, s.res.alloc _, by simpa using b, ⟨rfl, .inl ⟨rfl, rfl⟩⟩, s.q.alloc _⟩
theorem Sc.step {w2 : World} (h : Sc w A n c room fuse off A2 k c2 room2 m wr) (q : Q wr w2) : Sc w A n c room fuse off A2 k c2 room2 m w2 := ⟨h.dk.q q, h.res.q q, h.out.q q, h.own.q q, h.q.trans q⟩
theorem Sc.setRoom (h : Sc w A n c room fuse off A2 k c2 room2 m wr) (x : Int) : Sc w A n c room fuse off A2 k c2 x m (wr.setCell ⟨w.heap.size + 2, 1, none⟩ (.int .i64 x)) :=
  ⟨h.dk.far (p := ⟨w.heap.size + 2, 1, none⟩) (by simp) _, h.res.far (p := ⟨w.heap.size + 2, 1, none⟩) (by simp) _, h.out.set (k := 1) (by simp) _, h.own.setCell (p := ⟨w.heap.size + 2, 1, none⟩) (by simp) _, h.q.setCell (p := ⟨w.heap.size + 2, 1, none⟩) (by simp) _⟩
theorem Sc.wrote {w2 : World} (h : Sc w A n c room fuse off A2 k c2 room2 m wr) {A3 : Option Addr} {k3 c3 : Nat} {m3 : List Fil} (ho : Own w2 (w.heap.size + 3) A3 k3 c3 m3) (hb : Below (w.heap.size + 3) wr w2) :
    Sc w A n c room fuse off A3 k3 c3 room2 m3 (w2.setCell ⟨w.heap.size + 2, 0, none⟩ (.slice A3 k3 c3)) :=
  ⟨(h.dk.below hb (by omega)).far (p := ⟨w.heap.size + 2, 0, none⟩) (by simp) _, (h.res.below hb (by omega)).far (p := ⟨w.heap.size + 2, 0, none⟩) (by simp) _, (h.out.below hb (by omega)).set (k := 0) (by simp) _,
    ho.setCell (p := ⟨w.heap.size + 2, 0, none⟩) (by simp) _, (show Q w w2 from h.q.below.trans (hb.mono (by omega))).setCell (p := ⟨w.heap.size + 2, 0, none⟩) (by simp) _⟩
end
def Wx (W wx : World) : Prop := wx = W
/-- what the document's Crash asks to keep. -/
def vz (ks : List Int) (k : Nat) : Int := if k < ks.length ∧ 0 < ks.getD k 0 then ks.getD k 0 else 0
theorem vz_yes {ks : List Int} {k : Nat} (h : k < ks.length) (h1 : 0 < ks.getD k 0) : vz ks k = ks.getD k 0 := by unfold vz; rw [if_pos ⟨h, h1⟩]
theorem vz_no {ks : List Int} {k : Nat} (h : ¬ (k < ks.length ∧ 0 < ks.getD k 0)) : vz ks k = 0 := by unfold vz; rw [if_neg h]
theorem vz_kp (ks : List Int) (k : Nat) (f : Fil) : 0 ≤ vz ks k ∧ (kp ks k f : Int) = if (f.wt.size : Int) < vz ks k then (f.wt.size : Int) else vz ks k := by
  unfold vz kp
  by_cases h : k < ks.length
  · by_cases h1 : 0 < ks.getD k 0
    · rw [if_pos ⟨h, h1⟩, if_pos h]
      split <;> omega
    · rw [if_neg (by omega), if_pos h]
      split <;> omega
  · rw [if_neg (by omega), if_neg h]
    split <;> omega
def bz (ks : List Int) (k : Nat) : Bool := decide (k < ks.length ∧ 0 < ks.getD k 0)
theorem bz_in {ks : List Int} {k : Nat} (h : k < ks.length) : bz ks k = decide (0 < ks.getD k 0) := by
  unfold bz
  by_cases h1 : 0 < ks.getD k 0
  · rw [decide_eq_true ⟨h, h1⟩, decide_eq_true h1]
  · rw [decide_eq_false (fun x => h1 x.2), decide_eq_false h1]
theorem bz_out {ks : List Int} {k : Nat} (h : ¬ k < ks.length) : bz ks k = false := decide_eq_false (fun x => h x.1)
theorem bz_vz {ks : List Int} {k : Nat} (h : bz ks k = false) : vz ks k = 0 := vz_no (of_decide_eq_false h)
theorem bz_yes {ks : List Int} {k : Nat} (h : bz ks k = true) : k < ks.length ∧ 0 < ks.getD k 0 ∧ vz ks k = ks.getD k 0 := ⟨(of_decide_eq_true h).1, (of_decide_eq_true h).2, vz_yes (of_decide_eq_true h).1 (of_decide_eq_true h).2⟩
theorem bool_eq {a b : Bool} (h : a = b) : Value.bool a = .bool b := by rw [h]
theorem int_eq {a b : Int} (h : a = b) : Value.int .i64 a = .int .i64 b := by rw [h]

set_option maxHeartbeats 4000000 in
theorem ref_crash (A : Option Addr) (n c : Nat) (room fuse : Int) (off : Bool) (K : Option Addr) (kn kc : Nat) (ks : List Int) (l : List Fil) (w : World) (hd : Dsk w A n c l) (hk : Ints w K kn ks) (hkn : kn ≤ maxLen) (hs : ∀ f ∈ l, f.sf.size + f.wt.size ≤ maxLen) :
    Calls Tryz.prog 17 #[dkv A n c room fuse off, .slice K kn kc] w fun e w' => RetD w (crs ⟨l, room, fuse, off⟩ ks) e w' := by
  have hnm := hd.max
  have hfew := hd.few
  unfold maxLen at hnm hkn
  have HD := Lib.hid hd
  have HK := Lib.hid hk
  have HL := Lib.hid hd.len
  have HKL := Lib.hid hk.len
  have HS := Lib.hid hs
  have S0 := Lib.hid (Sc.new w A n c room fuse off)
  clear hd hk hs
  go_enter Tryz.func17, Tryz.ntmps17
  go_wp2
  generalize (((w.alloc (.cells #[.slice A n c, .int .i64 room, .int .i64 fuse, .bool off] 24)).alloc (.cells #[.slice none 0 0, .int .i64 0, .int .i64 0, .bool false] 24)).alloc (.cells #[.slice none 0 0, .int .i64 room, .int .i64 (-1), .bool false] 24)) = W at S0 ⊢
  go_loopw [6] (fun i wr => ∃ (k : Nat) (A2 : Option Addr) (c2 : Nat), k ≤ n ∧ i = .int .i64 k ∧ Sc w A n c room fuse off A2 k c2 (croom ks l room k) (crd ks l k) wr) (fun i _ => n - (intOf i).toNat)
  case atStart => exact ⟨0, none, 0, Nat.zero_le _, rfl, by simpa [croom, crd] using S0.out⟩
  case round =>
    obtain ⟨k, A2, c2, hk, rfl, hsc⟩ := hrel
    have Y := Lib.hid hsc
    clear hsc S0
    obtain ⟨⟨d0, d1, d2, d3⟩, _⟩ := Y.out.dk.get4
    by_cases hlt : k < n
    · have hkl : k < l.length := by have := HL.out; omega
      obtain ⟨ad, rfl, hb, c0, c1, c3⟩ := (HD.out.files.q Y.out.q).load hlt hkl
      have q4 : (k : Int) < (n : Int) := by omega
      have q5 : 0 ≤ (k : Int) := by omega
      have hsz := HS.out l[k] (List.getElem_mem hkl)
      unfold maxLen at hsz
      have hkp := kp_le ks k l[k]
      have z0 : w.heap.size + 2 < wr.heap.size := Y.out.out.lt
      have KF : Hid (k < kn → ∃ ka, K = some ka ∧ (wr.alloc (.cells #[.string l[k].nm, .string l[k].sf, .string l[k].wt] 42)).cell? (ka.add k) = some (.int .i64 (ks.getD k 0))) := Lib.hid (fun h => by
        have h2 : k < ks.length := by have := HKL.out; omega
        obtain ⟨ka, e, _, hc⟩ := (HK.out.q (Y.out.q.alloc (.cells #[.string l[k].nm, .string l[k].sf, .string l[k].wt] 42))).load h2
        exact ⟨ka, e, by rw [hc]; simp [h2]⟩)
      have HVK := Lib.hid (vz_kp ks k l[k])
      have v0 := (vz_kp ks k l[k]).1
      go_upto_region 7 with (fail)
      go_cut [34] (fun s34 wx => s34 = .bool (bz ks k) ∧ Wx (wr.alloc (.cells #[.string l[k].nm, .string l[k].sf, .string l[k].wt] 42)) wx)
      case first =>
        by_cases hkk : k < kn
        · obtain ⟨ka, rfl, kc0⟩ := KF.out hkk
          have hk2 : k < ks.length := by have := HKL.out; omega
          have q6 : (k : Int) < (kn : Int) := by omega
          have HB := Lib.hid (bz_in (ks := ks) hk2)
          generalize ks.getD k 0 = xx at kc0 HB
          by_cases hx : 0 < xx
          · go_wp2
            go_meet
            exact ⟨bool_eq (by rw [HB.out]; simp [hx]), rfl⟩
          · have hx2 : decide ((0 : Int) < xx) = false := by simpa using hx
            go_wp2
            go_meet
            exact ⟨bool_eq (by rw [HB.out]; simp [hx]), rfl⟩
        · have HV := Lib.hid (bz_out (ks := ks) (k := k) (by have := HKL.out; omega))
          go_wp2
          go_meet
          exact ⟨bool_eq (by rw [HV.out]), rfl⟩
      case rest =>
        obtain ⟨rfl, hw⟩ := hcut
        unfold Wx at hw
        subst hw
        go_upto_if 34 with (fail)
        go_cut [8] (fun s8 wx => s8 = .int .i64 (vz ks k) ∧ Wx (wr.alloc (.cells #[.string l[k].nm, .string l[k].sf, .string l[k].wt] 42)) wx)
        case first =>
          cases hbz : bz ks k
          · have HV := Lib.hid (bz_vz hbz)
            clear hbz
            go_wp2
            go_meet
            exact ⟨int_eq HV.out.symm, rfl⟩
          · obtain ⟨hkk, hx, hvx⟩ := bz_yes hbz
            have hkn2 : k < kn := by have := HKL.out; omega
            obtain ⟨ka, rfl, kc0⟩ := KF.out hkn2
            have q6 : (k : Int) < (kn : Int) := by omega
            have HV := Lib.hid hvx
            clear hbz hvx
            generalize ks.getD k 0 = xx at kc0 HV hx
            go_wp2
            go_meet
            exact ⟨int_eq HV.out.symm, rfl⟩
        case rest =>
          obtain ⟨rfl, hw⟩ := hcut
          unfold Wx at hw
          subst hw
          generalize vz ks k = v at HVK v0 ⊢
          clear KF
          go_upto_if 43 with (fail)
          go_cut [8] (fun s8 wx => s8 = .int .i64 (kp ks k l[k] : Int) ∧ Wx (wr.alloc (.cells #[.string l[k].nm, .string l[k].sf, .string l[k].wt] 42)) wx)
          case first =>
            by_cases hv : (l[k].wt.size : Int) < v
            · have HE := Lib.hid (HVK.out.2.trans (if_pos hv))
              go_wp2
              go_meet
              exact ⟨int_eq HE.out.symm, rfl⟩
            · have HE := Lib.hid (HVK.out.2.trans (if_neg hv))
              go_wp2
              go_meet
              exact ⟨int_eq HE.out.symm, rfl⟩
          case rest =>
            obtain ⟨rfl, hw⟩ := hcut
            unfold Wx at hw
            subst hw
            clear HVK v0
            have HF : Hid (crf ks k l[k] = ⟨l[k].nm, l[k].sf ++ l[k].wt.extract 0 (kp ks k l[k]), ⟨#[]⟩⟩) := Lib.hid rfl
            have HR := Lib.hid (croom_succ ks l room k hkl)
            have HC := Lib.hid (crd_succ ks l k hkl)
            have HWL := Lib.hid (wrap_less (croom ks l room k) l[k].wt.size (kp ks k l[k]))
            generalize kp ks k l[k] = y at hkp HF HR HWL ⊢
            obtain ⟨⟨o0, o1, o2, o3⟩, g0, g1, g2, g3⟩ := Y.out.out.get4
            have z1 : w.heap.size + 2 ≠ wr.heap.size := by omega
            go_upto_region 12 with (fail)
            rw [HWL.out, ← HR.out]
            clear HR
            generalize hr3 : croom ks l room (k + 1) = r3
            have HR3 := Lib.hid hr3
            clear hr3
            have Z : Hid (Sc w (some ad) n c room fuse off A2 k c2 r3 (crd ks l k) ((wr.setCell ⟨w.heap.size + 1 + 1, 1, none⟩ (.int .i64 r3)).alloc (.cells #[.string l[k].nm, .string l[k].sf, .string l[k].wt] 42))) := Lib.hid ((Y.out.setRoom r3).step ((Q.refl _).alloc (.cells #[.string l[k].nm, .string l[k].sf, .string l[k].wt] 42)))
            have BF : Hid (Bx ((wr.setCell ⟨w.heap.size + 1 + 1, 1, none⟩ (.int .i64 r3)).alloc (.cells #[.string l[k].nm, .string l[k].sf, .string l[k].wt] 42)) wr.heap.size [.string l[k].nm, .string l[k].sf, .string l[k].wt]) := Lib.hid (by
              have := Bx.new (wr.setCell ⟨w.heap.size + 1 + 1, 1, none⟩ (.int .i64 r3)) [.string l[k].nm, .string l[k].sf, .string l[k].wt] 42
              simpa [World.setCell] using this)
            generalize ((wr.setCell ⟨w.heap.size + 1 + 1, 1, none⟩ (.int .i64 r3)).alloc (.cells #[.string l[k].nm, .string l[k].sf, .string l[k].wt] 42)) = V at Z BF ⊢
            generalize wr.heap.size = gf at BF ⊢
            clear o0 o1 o2 o3 g0 g1 g2 g3 d0 d1 d2 d3 c0 c1 c3 hb z0 z1 Y
            have P0 : Bx V (w.heap.size + 1 + 1) [.slice A2 k c2, .int .i64 r3, .int .i64 (-1), .bool false] := Z.out.out
            obtain ⟨⟨o0, o1, o2, o3⟩, g0, g1, g2, g3⟩ := P0.get4
            clear P0
            obtain ⟨⟨b0, b1, b2⟩, _⟩ := BF.out.get3
            have q6 : (y : Int) ≤ (l[k].wt.size : Int) := by omega
            have q7 : 0 ≤ (y : Int) := by omega
            have q8 : ¬ 9223372036854775807 < l[k].sf.size + y := by omega
            have q9 : y ≤ l[k].wt.size := by omega
            have z5 : w.heap.size + 1 + 1 < V.heap.size := Z.out.out.lt
            have z6 : w.heap.size + 1 + 1 ≠ V.heap.size := by omega
            have z7 : gf < V.heap.size := BF.out.lt
            have z8 : gf ≠ V.heap.size := by omega
            have T1 : Hid (Own ((V.alloc (.cells #[.string l[k].nm, .string (l[k].sf ++ l[k].wt.extract 0 y), .string ⟨#[]⟩] 42)).drew) (w.heap.size + 3) A2 k c2 (crd ks l k)) := Lib.hid ((Z.out.own.alloc _).q (Q.refl _).drew)
            have T2 : Hid (Files ((V.alloc (.cells #[.string l[k].nm, .string (l[k].sf ++ l[k].wt.extract 0 y), .string ⟨#[]⟩] 42)).drew) (some ⟨V.heap.size, 0, none⟩) 1 [⟨l[k].nm, l[k].sf ++ l[k].wt.extract 0 y, ⟨#[]⟩⟩]) := Lib.hid ((files_lit1 V ⟨l[k].nm, l[k].sf ++ l[k].wt.extract 0 y, ⟨#[]⟩⟩).q (Q.refl _).drew)
            have T3 : Hid (w.heap.size + 3 ≤ ((V.alloc (.cells #[.string l[k].nm, .string (l[k].sf ++ l[k].wt.extract 0 y), .string ⟨#[]⟩] 42)).drew).heap.size) := Lib.hid (by have := Z.out.out.lt; simp; omega)
            have T4 : (k + 1) * 48 ≤ 140737488355328 := by omega
            go_region_law ((refine step_app (by rfl) _ _ (by rfl) (w.heap.size + 3) A2 k c2 (crd ks l k) (by rfl) T1.out (some ⟨V.heap.size, 0, none⟩) 1 1 [⟨l[k].nm, l[k].sf ++ l[k].wt.extract 0 y, ⟨#[]⟩⟩] (by rfl) T2.out (fun e => by cases e) T4 T3.out ?_
                            intro A4 c4 w4 ho4 hb4
                            obtain ⟨⟨x0, x1, x2, x3⟩, y0, y1, y2, y3⟩ := (show Bx w4 (w.heap.size + 1 + 1) [.slice A2 k c2, .int .i64 r3, .int .i64 (-1), .bool false] from (((Z.out.out.alloc _).q (Q.refl _).drew).below hb4 (by omega))).get4))
            all_goals
              have U : Hid (Sc w (some ad) n c room fuse off A4 (k + 1) c4 r3 (crd ks l (k + 1)) (w4.setCell ⟨w.heap.size + 1 + 1, 0, none⟩ (.slice A4 (k + 1) c4))) := Lib.hid (by
                rw [HC.out, HF.out]
                exact ((Z.out.step ((Q.refl _).alloc (.cells #[.string l[k].nm, .string (l[k].sf ++ l[k].wt.extract 0 y), .string ⟨#[]⟩] 42))).step (Q.refl _).drew).wrote ho4 hb4)
              clear ho4 hb4 o0 o1 o2 o3 g0 g1 g2 g3 b0 b1 b2 x0 x1 x2 x3 y0 y1 y2 y3
              go_wp2
              go_roundw
              case rel => exact ⟨k + 1, A4, c4, by omega, by go_num, by rw [HR3.out]; exact U.out⟩
              case measure => simp [intOf]; omega
    · have e : n = k := by omega
      subst e
      obtain ⟨⟨o0, o1, o2, o3⟩, _⟩ := (show Bx wr (w.heap.size + 1 + 1) [.slice A2 n c2, .int .i64 (croom ks l room n), .int .i64 (-1), .bool false] from Y.out.out).get4
      obtain ⟨⟨s0, s1, s2, s3⟩, h0, h1, h2, h3⟩ := Y.out.res.get4
      go_wp2
      refine bodyPost_ret (v := dkv A2 n c2 (croom ks l room n) (-1) false) (by simp [results, Tryz.results17, go_sem, s0, s1, s2, s3]) rfl ?_
      rw [show crs ⟨l, room, fuse, off⟩ ks = ⟨crd ks l n, croom ks l room n, -1, false⟩ by unfold crs; simp only; rw [crd_all, HL.out]]
      exact ⟨A2, n, c2, rfl, (Y.out.own.set4 (b := w.heap.size + 1) (by omega) _ _ _ _).lower (by omega), Y.out.q.set4 (b := w.heap.size + 1) (by omega) _ _ _ _⟩
end Go.Proofs.YtggbdhnjogalgaaGreatDoor

/- Room, and the bytes of all files: together always the same. -/
namespace Go.Proofs.YtggbdhnjogalgaaGreatDoor
set_option maxRecDepth 100000
open Go.RowKit Dkm
set_option linter.unusedVariables false
namespace Dkm
end Dkm
end Go.Proofs.YtggbdhnjogalgaaGreatDoor

/- Lists whose elements lie flat in memory, out of what is known of each element. -/
namespace Go.Proofs.YtggbdhnjogalgaaGreatDoor
set_option maxRecDepth 100000
open Go.ChangeShapes Go.WideShapes Go.RowKit
set_option linter.unusedVariables false

theorem choose_list {α : Type} {R : Nat → α → Prop} : ∀ (n : Nat), (∀ i, i < n → ∃ a, R i a) → ∃ l : List α, l.length = n ∧ ∀ i (hi : i < l.length), R i l[i]
  | 0, _ => ⟨[], rfl, fun i hi => by simp at hi⟩
  | n + 1, h => by
    obtain ⟨l, hl, hr⟩ := choose_list n (fun i hi => h i (by omega))
    obtain ⟨a, ha⟩ := h n (by omega)
    refine ⟨l ++ [a], by simp [hl], fun i hi => ?_⟩
    by_cases hlt : i < l.length
    · rw [List.getElem_append_left hlt]; exact hr i hlt
    · have e : i = l.length := by simp at hi; omega
      subst e
      rw [List.getElem_append_right (Nat.le_refl _)]
      simpa [hl] using ha

theorem flat_at {α : Type} (g : α → List Value) (k : Nat) (hg : ∀ a, (g a).length = k) : ∀ (l : List α) (j : Nat) (u : Value), (l.flatMap g)[j]? = some u → ∃ i r, ∃ hi : i < l.length, j = i * k + r ∧ r < k ∧ (g l[i])[r]? = some u
  | [], j, u, h => by simp at h
  | a :: l, j, u, h => by
    rw [List.flatMap_cons] at h
    by_cases hj : j < k
    · rw [List.getElem?_append_left (by rw [hg]; exact hj)] at h
      exact ⟨0, j, by simp, by omega, hj, by simpa using h⟩
    · rw [List.getElem?_append_right (by rw [hg]; omega), hg] at h
      obtain ⟨i, r, hi, he, hr, hu⟩ := flat_at g k hg l (j - k) u h
      refine ⟨i + 1, r, by simpa using hi, ?_, hr, by simpa using hu⟩
      rw [Nat.succ_mul]; omega
theorem flat_len {α : Type} (g : α → List Value) (k : Nat) (hg : ∀ a, (g a).length = k) : ∀ (l : List α), (l.flatMap g).length = l.length * k
  | [] => by simp
  | a :: l => by rw [List.flatMap_cons, List.length_append, hg, flat_len g k hg l, List.length_cons, Nat.succ_mul]; omega
theorem holds_flat {α : Type} (g : α → List Value) (k : Nat) (hg : ∀ a, (g a).length = k) (w : World) (ad : Addr) (l : List α) (h : ∀ i (hi : i < l.length), w.cells? 0 (ad.add (i * k)) k = some (g l[i])) :
    Holds w w.heap.size k (some ad) l.length (l.flatMap g) := by
  refine ⟨flat_len g k hg l, fun j u hu => ?_⟩
  obtain ⟨i, r, hi, rfl, hr, hv⟩ := flat_at g k hg l j u hu
  obtain ⟨_, _, hat⟩ := World.cells?_some (h i hi)
  have hc := hat r hr
  rw [hv, addr_add] at hc
  refine ⟨ad, rfl, ?_, hc⟩
  have := block_lt_of_cell hc
  rwa [addr_block] at this

theorem wf_i64 {x : Int} (h : (Lit.int .i64 x).wf = true) : -9223372036854775808 ≤ x ∧ x ≤ 9223372036854775807 := by
  simp only [Lit.wf, Bool.and_eq_true, decide_eq_true_eq] at h
  have e1 : IntKind.i64.min = -9223372036854775808 := by decide
  have e2 : IntKind.i64.max = 9223372036854775807 := by decide
  omega
end Go.Proofs.YtggbdhnjogalgaaGreatDoor

/- What comes in: files, disks, lists of integers, opened out of a reading. -/
namespace Go.Proofs.YtggbdhnjogalgaaGreatDoor
set_option maxRecDepth 100000
open Go.ChangeShapes Go.WideShapes Go.RowKit Dkm
set_option linter.unusedVariables false

theorem rows_flat (l : List Fil) : rows l = l.flatMap Fil.row := by
  induction l with
  | nil => rfl
  | cons f l ih => rw [rows, ih, List.flatMap_cons]

/-- a file's texts are within the reach. -/
def FilIn (f : Fil) : Prop := f.nm.size ≤ 140737488351232 ∧ f.sf.size ≤ 140737488351232 ∧ f.wt.size ≤ 140737488351232

theorem open_file {w : World} {cs : List Value} (h : Rd w 42 cs) : ∃ f : Fil, cs = f.row ∧ FilIn f := by
  obtain ⟨hl, hf⟩ := h.struct Tryz.underlying42
  rw [show Tryz.prog.cellsOf 42 = 3 by kernel_rfl] at hl
  match cs, hl with
  | [a, b, c], _ =>
    obtain ⟨s0, e0, r0⟩ := (h.field Tryz.underlying42 0 (ty := 9) 0 1 rfl (by kernel_rfl)).string Tryz.underlying9
    obtain ⟨s1, e1, r1⟩ := (h.field Tryz.underlying42 1 (ty := 9) 1 1 rfl (by kernel_rfl)).string Tryz.underlying9
    obtain ⟨s2, e2, r2⟩ := (h.field Tryz.underlying42 2 (ty := 9) 2 1 rfl (by kernel_rfl)).string Tryz.underlying9
    simp at e0 e1 e2
    subst e0 e1 e2
    exact ⟨⟨s0, s1, s2⟩, rfl, r0, r1, r2⟩

theorem open_files {w : World} {cs : List Value} (h : Rd w 22 cs) : ∃ A n c l, cs = [.slice A n c] ∧ Dsk w A n c l ∧ ∀ f ∈ l, FilIn f := by
  rcases h.slice Tryz.underlying22 with rfl | ⟨a, len, cap, rfl, hlc, hcm, hby, hi⟩
  · exact ⟨none, 0, 0, [], rfl, ⟨Holds.none_ _ _ _ _, fun _ => ⟨rfl, rfl⟩, Nat.le_refl _, Nat.zero_le _, by omega⟩, by simp⟩
  · rw [show Tryz.prog.bytesOf 42 = 48 by kernel_rfl] at hby
    rw [show Tryz.prog.cellsOf 42 = 3 by kernel_rfl] at hi
    obtain ⟨l, hl, hr⟩ := choose_list (R := fun i (f : Fil) => w.cells? 0 (a.add (i * 3)) 3 = some f.row ∧ FilIn f) len (fun i hlt => by
      obtain ⟨cs', hc, hrd⟩ := hi i (by omega)
      obtain ⟨f, rfl, hf⟩ := open_file hrd
      exact ⟨f, hc, hf⟩)
    refine ⟨some a, len, cap, l, rfl, ⟨?_, fun e => by (cases e), hlc, hcm, by omega⟩, fun f hf => ?_⟩
    · have := holds_flat Fil.row 3 (fun f => rfl) w a l (fun i hi => (hr i hi).1)
      rw [hl, ← rows_flat] at this
      exact this
    · obtain ⟨i, hi, rfl⟩ := List.getElem_of_mem hf
      exact (hr i hi).2

/-- a disk as it comes in. -/
structure DkIn (w : World) (A : Option Addr) (n c : Nat) (d : Dk) : Prop where
  dsk : Dsk w A n c d.fs
  fil : ∀ f ∈ d.fs, FilIn f
  room : -9223372036854775808 ≤ d.room ∧ d.room ≤ 9223372036854775807
  fuse : -9223372036854775808 ≤ d.fuse ∧ d.fuse ≤ 9223372036854775807
theorem open_disk {w : World} {cs : List Value} (h : Rd w 24 cs) : ∃ A n c d, cs = [.slice A n c, .int .i64 d.room, .int .i64 d.fuse, .bool d.off] ∧ DkIn w A n c d := by
  obtain ⟨hl, hf⟩ := h.struct Tryz.underlying24
  rw [show Tryz.prog.cellsOf 24 = 4 by kernel_rfl] at hl
  match cs, hl with
  | [x, y, z, u], _ =>
    obtain ⟨A, n, c, l, e0, hd, hi⟩ := open_files (h.field Tryz.underlying24 0 (ty := 22) 0 1 rfl (by kernel_rfl))
    obtain ⟨r, e1, hr⟩ := (h.field Tryz.underlying24 1 (ty := 3) 1 1 rfl (by kernel_rfl)).int Tryz.underlying3
    obtain ⟨s, e2, hs⟩ := (h.field Tryz.underlying24 2 (ty := 3) 2 1 rfl (by kernel_rfl)).int Tryz.underlying3
    obtain ⟨b, e3⟩ := (h.field Tryz.underlying24 3 (ty := 4) 3 1 rfl (by kernel_rfl)).bool Tryz.underlying4
    simp at e0 e1 e2 e3
    subst e0 e1 e2 e3
    exact ⟨A, n, c, ⟨l, r, s, b⟩, rfl, hd, hi, wf_i64 hr, wf_i64 hs⟩

end Go.Proofs.YtggbdhnjogalgaaGreatDoor

/- A disk in a law's variable, its list elsewhere. -/
namespace Go.Proofs.YtggbdhnjogalgaaGreatDoor
set_option maxRecDepth 100000
open Go.RowKit Dkm
set_option linter.unusedVariables false

structure DVA (W : World) (B : Nat) (A : Option Addr) (n c : Nat) (d : Dk) : Prop where
  dv : DV W B A n c d
  away : ∀ ad, A = some ad → ad.block ≠ B
theorem DVA.q {W W' : World} {B : Nat} {A : Option Addr} {n c : Nat} {d : Dk} (h : DVA W B A n c d) (hq : Q W W') : DVA W' B A n c d := ⟨h.dv.q hq, h.away⟩
theorem DVA.put {W W' : World} {B : Nat} {A A' : Option Addr} {n c n' c' : Nat} {d d' : Dk} (h : DVA W B A n c d) (hq : Q W W') (hd : Dsk W' A' n' c' d'.fs) (ha : A' = A ∨ ∀ ad, A' = some ad → W.heap.size ≤ ad.block) :
    DVA ((((W'.setCell ⟨B, 0, none⟩ (.slice A' n' c')).setCell ⟨B, 1, none⟩ (.int .i64 d'.room)).setCell ⟨B, 2, none⟩ (.int .i64 d'.fuse)).setCell ⟨B, 3, none⟩ (.bool d'.off)) B A' n' c' d' := by
  have hlt := h.dv.box.lt
  have haw : ∀ ad, A' = some ad → ad.block ≠ B := by
    intro ad e
    rcases ha with rfl | ha
    · exact h.away ad e
    · have := ha ad e; omega
  exact ⟨⟨(h.dv.box.q hq).put4 _ _ _ _, (((hd.away haw 0 _).away haw 1 _).away haw 2 _).away haw 3 _⟩, haw⟩

end Go.Proofs.YtggbdhnjogalgaaGreatDoor

/- The document's example of chapter 4. -/
namespace Go.Proofs.YtggbdhnjogalgaaGreatDoor
set_option maxRecDepth 100000
open Go.RowKit Dkm Wm
set_option linter.unusedVariables false

namespace Wm
def W1 : ByteArray := ⟨#[119, 49]⟩
def SA : ByteArray := ⟨#[49, 59, 97, 54, 52, 50, 50, 54, 50, 54, 59]⟩
def SB : ByteArray := ⟨#[49, 59, 98, 54, 52, 56, 56, 49, 54, 51, 59]⟩
def S4 : ByteArray := ⟨#[49, 59, 97, 54, 52, 50, 50, 54, 50, 54, 59, 49, 59, 98]⟩
def EB : ByteArray := ⟨#[]⟩
theorem nam1 : namB 1 = W1 := by
  unfold namB nam
  rw [if_pos (by decide), show (1 : Int).toNat = 1 from rfl, show Dm.dg 1 = [49] by rw [Dm.dg]; rfl]; rfl
theorem nam2 : namB 2 = ⟨#[119, 50]⟩ := by
  unfold namB nam
  rw [if_pos (by decide), show (2 : Int).toNat = 2 from rfl, show Dm.dg 2 = [50] by rw [Dm.dg]; rfl]
theorem ex_b : Sm.adler [98] = 6488163 := by decide
theorem ex_sldb : sld [98] = [49, 59, 98, 54, 52, 56, 56, 49, 54, 51, 59] := by
  unfold sld Dm.num
  rw [ex_b]
  have e1 : Dm.dg 1 = [49] := by rw [Dm.dg]; rfl
  have f0 : Dm.dg 6 = [54] := by rw [Dm.dg]; rfl
  have f1 : Dm.dg 64 = [54, 52] := by rw [Dm.dg, if_neg (by omega), show 64 / 10 = 6 from rfl, f0]; rfl
  have f2 : Dm.dg 648 = [54, 52, 56] := by rw [Dm.dg, if_neg (by omega), show 648 / 10 = 64 from rfl, f1]; rfl
  have f3 : Dm.dg 6488 = [54, 52, 56, 56] := by rw [Dm.dg, if_neg (by omega), show 6488 / 10 = 648 from rfl, f2]; rfl
  have f4 : Dm.dg 64881 = [54, 52, 56, 56, 49] := by rw [Dm.dg, if_neg (by omega), show 64881 / 10 = 6488 from rfl, f3]; rfl
  have f5 : Dm.dg 648816 = [54, 52, 56, 56, 49, 54] := by rw [Dm.dg, if_neg (by omega), show 648816 / 10 = 64881 from rfl, f4]; rfl
  have f6 : Dm.dg 6488163 = [54, 52, 56, 56, 49, 54, 51] := by rw [Dm.dg, if_neg (by omega), show 6488163 / 10 = 648816 from rfl, f5]; rfl
  rw [show (6488163 : Int).toNat = 6488163 from rfl, f6, show ([98] : List UInt8).length = 1 from rfl, e1]; rfl
theorem seal1 : sealB ⟨#[97]⟩ = SA := by
  unfold sealB; rw [show (⟨#[97]⟩ : ByteArray).data.toList = [97] from rfl, ex_sld]; rfl
theorem seal2 : sealB ⟨#[98]⟩ = SB := by
  unfold sealB; rw [show (⟨#[98]⟩ : ByteArray).data.toList = [98] from rfl, ex_sldb]; rfl
def d1 : Dk := ⟨[⟨W1, EB, SA⟩], 89, -1, false⟩
def d2 : Dk := ⟨[⟨W1, SA, EB⟩], 89, -1, false⟩
def d3 : Dk := ⟨[⟨W1, SA, SB⟩], 78, -1, false⟩
def d4 : Dk := ⟨[⟨W1, S4, EB⟩], 86, -1, false⟩
theorem x1 : putM ⟨[], 100, -1, false⟩ 1 ⟨#[97]⟩ = (d1, 1, 0) := by
  unfold putM; rw [if_neg (by decide), if_neg (by decide)]
  unfold putB; rw [nam1, if_pos (by decide)]
  unfold putA; rw [nam1, seal1]; rfl
theorem x2 : syncM d1 1 = (d2, 0) := by
  unfold syncM; rw [nam1]; rfl
theorem x3 : putM d2 1 ⟨#[98]⟩ = (d3, 1, 0) := by
  unfold putM; rw [if_neg (by decide), if_neg (by decide)]
  unfold putB; rw [nam1, if_pos (by decide)]
  unfold putA; rw [nam1, seal2]; rfl
theorem x4 : crs d3 [3] = d4 := by
  simp [crs, crl, croom, crf, kp, wrap64, d3, d4]
  exact ⟨by decide, by decide⟩
theorem scn4 : scn S4.data.toList = ([[97]], [49, 59, 98]) := by
  have h := scn_part [[97]] (by simp) (q := [49, 59, 98]) ⟨[98], by decide, 3, by rw [ex_sldb]; decide, by rw [ex_sldb]; rfl⟩
  rw [flat_cons, flat_nil, ex_sld] at h
  exact h
theorem flat1 : (⟨(flat [[97]]).toArray⟩ : ByteArray) = SA := by rw [flat_cons, flat_nil, ex_sld]; rfl
theorem dels_none {n : Nat} {d : Dk} {k : Int} (h : (hit (namB k) d.fs).2 = false) : dels n d k = (d, 0) := by
  cases n with
  | zero => rfl
  | succ n => unfold dels; rw [if_neg (by rw [h]; simp)]
theorem c1 : cut1 d4 = (d4, 0) := by rfl
theorem c2 : cut2 d4 SA = (⟨[⟨W1, S4, EB⟩, ⟨freshB, EB, SA⟩], 75, -1, false⟩, 0) := by unfold cut2; rw [c1]; rfl
theorem c3 : cut3 d4 SA = (⟨[⟨W1, S4, EB⟩, ⟨freshB, SA, EB⟩], 75, -1, false⟩, 0) := by unfold cut3; rw [c2]; rfl
theorem c4 : ∃ r, cut4 d4 1 SA = (⟨[⟨W1, SA, EB⟩], r, -1, false⟩, 0) := by unfold cut4; rw [c3, nam1]; exact ⟨_, rfl⟩
theorem c5 : ∃ r, cutM d4 1 SA = (⟨[⟨W1, SA, EB⟩], r, -1, false⟩, 0) := by
  obtain ⟨r, h⟩ := c4
  refine ⟨r, ?_⟩
  unfold cutM; rw [h, if_pos rfl, show (1 : Int) + 1 = 2 from rfl]
  exact dels_none (by rw [nam2]; rfl)
theorem x5 : ∃ y, recM d4 1 = (y, [[97]], 1, 0) := by
  obtain ⟨r, h⟩ := c5
  refine ⟨⟨[⟨W1, SA, EB⟩], r, -1, false⟩, ?_⟩
  unfold recM; rw [if_neg (by decide)]
  rw [recF_cut (s := S4) (y := (⟨[⟨W1, SA, EB⟩], r, -1, false⟩, 0)) (by decide) (by rw [nam1]; rfl) (by rw [scn4]; simp) (by rw [scn4, flat1]; exact h)]
  rw [scn4]; rfl
theorem bnd0 {B : Nat} {room : Int} (h : In64 room) : Bnd B ⟨[], room, -1, false⟩ := ⟨by simp, by simp, h, by unfold In64; simp⟩
end Wm

theorem strs_one {w : World} {A : Option Addr} {n : Nat} {r : List UInt8} (h : Strs w A n [r]) : n = 1 ∧ ∃ ad, A = some ad ∧ ad.block < w.heap.size ∧ w.cell? ad = some (.string (bs r)) := by
  have h1 := h.1
  obtain ⟨ad, e, hb, hc⟩ := h.2 0 _ rfl
  exact ⟨by simpa using h1.symm, ad, e, hb, by unfold Addr.add at hc; simpa using hc⟩

set_option maxHeartbeats 4000000 in
theorem wshown_any (w : World) (hT : Tab w) : Calls Tryz.prog 5 #[] w fun e w' => e = .returned (.bool true) ∧ Q w w' := by
  have HT := Lib.hid hT
  have B0 := Lib.hid (bnd0 (B := 2305843009213693952) (room := 100) (by unfold In64; omega))
  have B1 := Lib.hid (show Bnd 2305843009213693952 d1 by have := B0.out.putM (by omega) 1 ⟨#[97]⟩; rw [x1] at this; exact this)
  have B2 := Lib.hid (show Bnd 2305843009213693952 d2 by have := B1.out.syncM 1; rw [x2] at this; exact this)
  have B4 : Hid (Bnd 2097152 d4) := Lib.hid ⟨by simp [d4]; decide, by simp [d4], by simp [In64, d4], by simp [In64, d4]⟩
  have M1 := Lib.hid (show ∀ f ∈ d1.fs, f.sf.size + f.wt.size ≤ maxLen from fun f hf => Nat.le_trans (B1.out.sum f hf) (by unfold maxLen; omega))
  clear hT
  go_enter Tryz.func5, Tryz.ntmps5
  go_wp2_with fail
  refine (ref_new_any 100 _ (by omega)).mono ?_
  rintro e w1 ⟨rfl, q1⟩
  have V1 := Lib.hid (DVA.mk (DV.new (W := w1) (d := ⟨[], 100, -1, false⟩) (dsk_nil w1)) (fun ad e => by cases e))
  have QA := Lib.hid (q1.alloc (.cells #[.slice none 0 0, .int .i64 100, .int .i64 (-1), .bool false] 24))
  have hz : w.heap.size ≤ w1.heap.size := q1.size
  clear q1
  go_upto_region 2 with (fail)
  generalize (w1.alloc (.cells #[.slice none 0 0, .int .i64 100, .int .i64 (-1), .bool false] 24)) = W at V1 QA ⊢
  generalize w1.heap.size = B at V1 hz ⊢
  obtain ⟨⟨e0, e1, e2, e3⟩, f0, f1, f2', f3⟩ := V1.out.dv.get
  go_wp2_with fail
  have k2 := put_any 1 ⟨#[97]⟩ none 0 0 ⟨[], 100, -1, false⟩ W (HT.out.q QA.out) V1.out.dv.dsk B0.out (by unfold maxLen; decide)
  rw [x1] at k2
  refine k2.mono ?_
  clear k2
  rintro e w2 ⟨A2, n2, c2, rfl, hd2, hf2, q2⟩
  clear e0 e1 e2 e3 f0 f1 f2' f3
  obtain ⟨⟨e0, e1, e2, e3⟩, f0, f1, f2', f3⟩ := (V1.out.q q2).dv.get
  have V2 := Lib.hid (V1.out.put q2 (d' := d1) hd2 (.inr hf2))
  have QB := Lib.hid ((QA.out.trans q2).set4 hz (.slice A2 n2 c2) (.int .i64 d1.room) (.int .i64 d1.fuse) (.bool d1.off))
  clear V1 QA q2 hd2 hf2
  go_upto_region 3 with (fail)
  generalize ((((w2.setCell ⟨B, 0, none⟩ (.slice A2 n2 c2)).setCell ⟨B, 1, none⟩ (.int .i64 d1.room)).setCell ⟨B, 2, none⟩ (.int .i64 d1.fuse)).setCell ⟨B, 3, none⟩ (.bool d1.off)) = W2 at V2 QB ⊢
  clear e0 e1 e2 e3 f0 f1 f2' f3
  obtain ⟨⟨e0, e1, e2, e3⟩, f0, f1, f2', f3⟩ := V2.out.dv.get
  go_wp2_with fail
  have k3 := wsync_any 1 A2 n2 c2 d1 W2 (HT.out.q QB.out) V2.out.dv.dsk M1.out
  rw [x2] at k3
  refine k3.mono ?_
  clear k3
  rintro e w3 ⟨A3, n3, c3, rfl, hd3, hf3, q3⟩
  clear e0 e1 e2 e3 f0 f1 f2' f3
  obtain ⟨⟨e0, e1, e2, e3⟩, f0, f1, f2', f3⟩ := (V2.out.q q3).dv.get
  have V3 := Lib.hid (V2.out.put q3 (d' := d2) hd3 (.inr hf3))
  have QC := Lib.hid ((QB.out.trans q3).set4 hz (.slice A3 n3 c3) (.int .i64 d2.room) (.int .i64 d2.fuse) (.bool d2.off))
  clear V2 QB q3 hd3 hf3
  go_upto_region 4 with (fail)
  generalize ((((w3.setCell ⟨B, 0, none⟩ (.slice A3 n3 c3)).setCell ⟨B, 1, none⟩ (.int .i64 d2.room)).setCell ⟨B, 2, none⟩ (.int .i64 d2.fuse)).setCell ⟨B, 3, none⟩ (.bool d2.off)) = W3 at V3 QC ⊢
  clear e0 e1 e2 e3 f0 f1 f2' f3
  obtain ⟨⟨e0, e1, e2, e3⟩, f0, f1, f2', f3⟩ := V3.out.dv.get
  go_wp2_with fail
  have k4 := put_any 1 ⟨#[98]⟩ A3 n3 c3 d2 W3 (HT.out.q QC.out) V3.out.dv.dsk B2.out (by unfold maxLen; decide)
  rw [x3] at k4
  refine k4.mono ?_
  clear k4
  rintro e w4 ⟨A4, n4, c4, rfl, hd4, hf4, q4⟩
  clear e0 e1 e2 e3 f0 f1 f2' f3
  obtain ⟨⟨e0, e1, e2, e3⟩, f0, f1, f2', f3⟩ := (V3.out.q q4).dv.get
  have V4 := Lib.hid (V3.out.put q4 (d' := d3) hd4 (.inr hf4))
  have QD := Lib.hid ((QC.out.trans q4).set4 hz (.slice A4 n4 c4) (.int .i64 d3.room) (.int .i64 d3.fuse) (.bool d3.off))
  clear V3 QC q4 hd4 hf4
  go_upto_region 5 with (fail)
  generalize ((((w4.setCell ⟨B, 0, none⟩ (.slice A4 n4 c4)).setCell ⟨B, 1, none⟩ (.int .i64 d3.room)).setCell ⟨B, 2, none⟩ (.int .i64 d3.fuse)).setCell ⟨B, 3, none⟩ (.bool d3.off)) = W4 at V4 QD ⊢
  clear e0 e1 e2 e3 f0 f1 f2' f3
  obtain ⟨⟨e0, e1, e2, e3⟩, f0, f1, f2', f3⟩ := V4.out.dv.get
  go_wp2_with fail
  have k5 := ref_crash A4 n4 c4 d3.room d3.fuse d3.off (some ⟨W4.heap.size, 0, none⟩) 1 1 [3] d3.fs _ (V4.out.dv.dsk.q ((Q.refl _).alloc (.cells #[.int .i64 3] 3))) (ints_lit1 W4 3) (by unfold maxLen; omega) (by simp [d3, maxLen]; decide)
  rw [show (⟨d3.fs, d3.room, d3.fuse, d3.off⟩ : Dk) = d3 from rfl, x4] at k5
  refine k5.mono ?_
  clear k5
  rintro e w5 ⟨A5, n5, c5, rfl, ho5, q5⟩
  have QE := Lib.hid ((QD.out.alloc (.cells #[.int .i64 3] 3)).trans q5)
  have hn5 : n5 = 1 := ho5.len.symm
  subst hn5
  have HO := Lib.hid (ho5.dsk (by omega))
  clear ho5 q5 e0 e1 e2 e3 f0 f1 f2' f3 V4 QD
  go_wp2_with fail
  have k6 := recover_any 1 A5 1 c5 d4 w5 (HT.out.q QE.out) HO.out B4.out
  obtain ⟨y6, hx5⟩ := x5
  rw [hx5] at k6
  clear hx5
  refine k6.mono ?_
  clear k6
  rintro e w6 ⟨A6, n6, c6, L, ln, lc, rfl, hd6, hf6, hl6, q6⟩
  obtain ⟨rfl, ad, rfl, hbl, hcell⟩ := strs_one hl6.strs
  have hbn : ad.block ≠ w6.heap.size := by omega
  have QF := Lib.hid (QE.out.trans q6)
  clear hd6 hf6 hl6 q6
  have hcell' : w6.cell? ad = some (.string ⟨#[97]⟩) := hcell
  clear hcell
  go_wp2
  all_goals go_ret
  all_goals exact ⟨rfl, by first | exact QF.out.alloc _ | exact (QF.out.alloc _).drew⟩
end Go.Proofs.YtggbdhnjogalgaaGreatDoor

/- The contract of the document's Same over lists of texts. -/
namespace Go.Proofs.YtggbdhnjogalgaaGreatDoor
set_option maxRecDepth 100000
open Go.RowKit
set_option linter.unusedVariables false

theorem Strs.len {w : World} {A : Option Addr} {n : Nat} {l : List (List UInt8)} (h : Strs w A n l) : l.length = n := by have := h.1; simpa using this
theorem Strs.load {w : World} {A : Option Addr} {n : Nat} {l : List (List UInt8)} (h : Strs w A n l) {k : Nat} (hl : k < l.length) :
    ∃ ad, A = some ad ∧ ad.block < w.heap.size ∧ w.cell? (ad.add k) = some (.string (bs l[k])) := by
  obtain ⟨ad, e, hb, hc⟩ := h.2 k (.string (bs l[k])) (by simp [hl])
  exact ⟨ad, e, hb, hc⟩
end Go.Proofs.YtggbdhnjogalgaaGreatDoor

/- What comes in: lists of texts. -/
namespace Go.Proofs.YtggbdhnjogalgaaGreatDoor
set_option maxRecDepth 100000
open Go.ChangeShapes Go.WideShapes Go.RowKit Dkm
set_option linter.unusedVariables false

end Go.Proofs.YtggbdhnjogalgaaGreatDoor
