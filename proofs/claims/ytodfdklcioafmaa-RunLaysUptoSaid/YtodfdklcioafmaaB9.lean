/- DiskRef10, RunLay, TableMath, RunMath, RunMay, RunTake, DecRef, DecRefText, SumRefOpen: merged. -/
import Derived.Test.YtodfdklcioafmaaB8
import Derived.Test.YtodfdklcioafmaaB7
import Derived.Test.YtodfdklcioafmaaB3
import Derived.Test.YtodfdklcioafmaaB2
import Derived.Test.YtodfdklcioafmaaB4
import Derived.Test.YtodfdklcioafmaaB5
import Derived.Deep.DeepCutAuto
import Derived.Test.YtodfdklcioafmaaB6
import Derived.Deep.LoopGhost
/- Contracts: the document's Append, Sync, all cases together. -/
namespace Go.Proofs.Ytodfdklcioafmaa
set_option maxRecDepth 100000
open Go.RowKit Dkm
set_option linter.unusedVariables false

theorem ref_sync_any (nm : ByteArray) (A : Option Addr) (n c : Nat) (d : Dk) (w : World) (hd : Dsk w A n c d.fs) (hs : ∀ f ∈ d.fs, f.sf.size + f.wt.size ≤ maxLen) :
    Calls Try.prog 35 #[dkv A n c d.room d.fuse d.off, .string nm] w fun e w' => RetDK w A n (syn d nm).1 (syn d nm).2 e w' := by
  obtain ⟨l, room, fuse, off⟩ := d
  simp only at hd hs ⊢
  cases off with
  | true =>
    rw [show syn ⟨l, room, fuse, true⟩ nm = (⟨l, room, fuse, true⟩, 6) from rfl]
    exact ref_sync_off nm A n c room fuse l w hd
  | false =>
    rcases plc_cases nm l with ⟨hp, hall⟩ | ⟨k, hk, hp, hkn, hfirst⟩
    · rw [syn_none hall]
      exact ref_sync_none nm A n c room fuse l w hd _ hp (by omega)
    · rw [syn_at hk hkn hfirst]
      exact ref_sync_yes nm A n c room fuse l w hd k hk hp (hs _ (List.getElem_mem hk))

theorem set_last {l : List Fil} {f g : Fil} {n : Nat} (h : l.length = n) : (l ++ [f]).set n g = l ++ [g] := by
  subst h
  rw [List.set_append_right _ _ (Nat.le_refl _)]
  simp

theorem ref_append_any (nm s : ByteArray) (A : Option Addr) (n c : Nat) (d : Dk) (w : World) (hd : Dsk w A n c d.fs) (hf : ∀ f ∈ d.fs, f.sf.size + f.wt.size ≤ 2305843009213693952) (hs : s.size ≤ 2305843009213693952)
    (hr2 : d.room ≤ 9223372036854775807) (hfu : d.fuse ≤ 9223372036854775807) :
    Calls Try.prog 34 #[dkv A n c d.room d.fuse d.off, .string nm, .string s] w fun e w' => RetDK w A n (appd d nm s).1 (appd d nm s).2 e w' := by
  obtain ⟨l, room, fuse, off⟩ := d
  simp only at hd hf hr2 hfu ⊢
  have hlen := hd.len
  cases off with
  | true =>
    rw [show appd ⟨l, room, fuse, true⟩ nm s = (⟨l, room, fuse, true⟩, 6) from rfl]
    exact ref_app_off nm s A n c room fuse l w hd
  | false =>
    by_cases hn : nmOk nm = true
    · have key : ∀ (f : Fil) (k : Nat), opn nm l = (f, k) → ¬ ((k = l.length ∧ 64 ≤ l.length) ∨ room < s.size) → ¬ 65536 < f.sf.size + f.wt.size + s.size →
          appd ⟨l, room, fuse, false⟩ nm s = (⟨put l k ⟨f.nm, f.sf, f.wt ++ cut fuse s⟩, room - (cut fuse s).size, if 0 ≤ fuse then fuse - (cut fuse s).size else fuse, short fuse s⟩, if short fuse s then 6 else 0) := by
        intro f k hop h1 h2
        unfold appd; simp only [hn, hop]; rw [if_neg (by simp), if_neg (by simp), if_neg h1, if_neg h2]
      have kneg : fuse < 0 → cut fuse s = s ∧ short fuse s = false := fun h => by
        have e1 : short fuse s = false := by unfold short; simp; omega
        exact ⟨by unfold cut; rw [e1]; rfl, e1⟩
      have kfit : (s.size : Int) ≤ fuse → cut fuse s = s ∧ short fuse s = false := fun h => by
        have e1 : short fuse s = false := by unfold short; simp; omega
        exact ⟨by unfold cut; rw [e1]; rfl, e1⟩
      have ksh : ∀ q : Nat, fuse = q → q < s.size → cut fuse s = s.extract 0 q ∧ short fuse s = true ∧ (s.extract 0 q).size = q := fun q e h => by
        subst e
        have e1 : short (q : Int) s = true := by unfold short; simp; omega
        exact ⟨by unfold cut; rw [e1]; simp, e1, by simp; omega⟩
      rcases plc_cases nm l with ⟨hp, hall⟩ | ⟨k, hk, hp, hkn, hfirst⟩
      · have hop := opn_none hall
        by_cases hful : 64 ≤ l.length ∨ room < s.size
        · rw [show appd ⟨l, room, fuse, false⟩ nm s = (⟨l, room, fuse, false⟩, 5) by unfold appd; simp only [hn, hop]; rw [if_neg (by simp), if_neg (by simp), if_pos (by rcases hful with h | h; exact .inl ⟨by simp, h⟩; exact .inr h)]]
          exact ref_app_full nm s A n c room fuse l w hd hn _ hp (by omega)
        · by_cases hb : 65536 < s.size
          · rw [show appd ⟨l, room, fuse, false⟩ nm s = (⟨l, room, fuse, false⟩, 4) by unfold appd; simp only [hn, hop]; rw [if_neg (by simp), if_neg (by simp), if_neg (by omega), if_pos (by rw [show (⟨#[]⟩ : ByteArray).size = 0 from rfl]; omega)]]
            exact ref_app_big_none nm s A n c room fuse l w hd hn _ hp (by omega) (by omega) (by omega) hs hb
          · rw [key _ _ hop (by omega) (by rw [show (⟨#[]⟩ : ByteArray).size = 0 from rfl]; omega)]
            have hput : ∀ g, put l l.length g = (l ++ [(⟨nm, ⟨#[]⟩, ⟨#[]⟩⟩ : Fil)]).set n g := fun g => by rw [set_last hlen]; unfold put; rw [if_pos rfl]
            rw [hput]
            by_cases h0 : fuse < 0
            · obtain ⟨e1, e2⟩ := kneg h0
              rw [e1, e2, if_neg (by omega), if_neg (by simp)]
              exact ref_app_none_neg nm s A n c room fuse l w hd hn _ hp (by omega) (by omega) (by omega) hs h0 hr2 (by omega)
            · by_cases h1 : (s.size : Int) ≤ fuse
              · obtain ⟨e1, e2⟩ := kfit h1
                rw [e1, e2, if_pos (by omega), if_neg (by simp)]
                exact ref_app_none_fits nm s A n c room fuse l w hd hn _ hp (by omega) (by omega) (by omega) hs h1 hfu hr2 (by omega)
              · obtain ⟨q, rfl⟩ : ∃ q : Nat, fuse = q := ⟨fuse.toNat, by omega⟩
                obtain ⟨e1, e2, e3⟩ := ksh q rfl (by omega)
                rw [e1, e2, e3, if_pos (by omega), if_pos rfl, Int.sub_self]
                exact ref_app_none_short nm s A n c room q l w hd hn _ hp (by omega) (by omega) (by omega) hs (by omega) hr2 (by omega)
      · have hop := opn_at hk hkn hfirst
        have hz := hf _ (List.getElem_mem hk)
        by_cases hful : room < s.size
        · rw [show appd ⟨l, room, fuse, false⟩ nm s = (⟨l, room, fuse, false⟩, 5) by unfold appd; simp only [hn, hop]; rw [if_neg (by simp), if_neg (by simp), if_pos (.inr hful)]]
          exact ref_app_full nm s A n c room fuse l w hd hn _ hp (.inr hful)
        · by_cases hb : 65536 < l[k].sf.size + l[k].wt.size + s.size
          · rw [show appd ⟨l, room, fuse, false⟩ nm s = (⟨l, room, fuse, false⟩, 4) by unfold appd; simp only [hn, hop]; rw [if_neg (by simp), if_neg (by simp), if_neg (by omega), if_pos hb]]
            exact ref_app_big_at nm s A n c room fuse l w hd hn k hk (by omega) hp (by omega) hs hz hb
          · rw [key _ _ hop (by omega) hb]
            have hput : ∀ g, put l k g = l.set k g := fun g => by unfold put; rw [if_neg (by omega)]
            rw [hput]
            by_cases h0 : fuse < 0
            · obtain ⟨e1, e2⟩ := kneg h0
              rw [e1, e2, if_neg (by omega), if_neg (by simp)]
              exact ref_app_at_neg nm s A n c room fuse l w hd hn k hk (by omega) hp (by omega) hs hz h0 hr2 (by omega)
            · by_cases h1 : (s.size : Int) ≤ fuse
              · obtain ⟨e1, e2⟩ := kfit h1
                rw [e1, e2, if_pos (by omega), if_neg (by simp)]
                exact ref_app_at_fits nm s A n c room fuse l w hd hn k hk (by omega) hp (by omega) hs hz h1 hfu hr2 (by omega)
              · obtain ⟨q, rfl⟩ : ∃ q : Nat, fuse = q := ⟨fuse.toNat, by omega⟩
                obtain ⟨e1, e2, e3⟩ := ksh q rfl (by omega)
                rw [e1, e2, e3, if_pos (by omega), if_pos rfl, Int.sub_self]
                exact ref_app_at_short nm s A n c room q l w hd hn k hk (by omega) hp (by omega) hs hz (by omega) hr2 (by omega)
    · rw [show appd ⟨l, room, fuse, false⟩ nm s = (⟨l, room, fuse, false⟩, 1) by unfold appd; rw [if_neg (by simp), if_pos (by simpa using hn)]]
      exact ref_app_arg nm s A n c room fuse l w hd (by simpa using hn)
end Go.Proofs.Ytodfdklcioafmaa

/- Contracts: run.Lay, run.Load, and the document's. -/
namespace Go.Proofs.Ytodfdklcioafmaa
set_option maxRecDepth 100000
open Go.RowKit Dkm Wm
set_option linter.unusedVariables false
set_option linter.unusedSimpArgs false

namespace Rn
def freshB (nm : ByteArray) : ByteArray := ⟨#[110, 46]⟩ ++ nm
/-- the steps of a laying. -/
def lay1 (d : Dk) (nm : ByteArray) : Dk × Int := if (hit (freshB nm) d.fs).2 then del d (freshB nm) else (d, 0)
def lay2 (d : Dk) (nm s : ByteArray) : Dk × Int := if (lay1 d nm).2 = 0 then appd (lay1 d nm).1 (freshB nm) s else lay1 d nm
def lay3 (d : Dk) (nm s : ByteArray) : Dk × Int := if (lay2 d nm s).2 = 0 then syn (lay2 d nm s).1 (freshB nm) else lay2 d nm s
def lay (d : Dk) (nm s : ByteArray) : Dk × Int := if (lay3 d nm s).2 = 0 then ren (lay3 d nm s).1 (freshB nm) nm else lay3 d nm s
end Rn
theorem Wm.Bnd.lay1 {B : Nat} {d : Dk} (h : Bnd B d) (nm : ByteArray) : Bnd B (Rn.lay1 d nm).1 := by unfold Rn.lay1; split; exact h.del _; exact h
theorem Wm.Bnd.lay2 {B : Nat} {d : Dk} (h : Bnd B d) (hB : 65536 ≤ B) (nm s : ByteArray) : Bnd B (Rn.lay2 d nm s).1 := by unfold Rn.lay2; split; exact (h.lay1 nm).appd hB _ _; exact h.lay1 nm
theorem Wm.Bnd.lay3 {B : Nat} {d : Dk} (h : Bnd B d) (hB : 65536 ≤ B) (nm s : ByteArray) : Bnd B (Rn.lay3 d nm s).1 := by unfold Rn.lay3; split; exact (h.lay2 hB nm s).syn _; exact h.lay2 hB nm s
theorem Wm.Bnd.lay {B : Nat} {d : Dk} (h : Bnd B d) (hB : 65536 ≤ B) (nm s : ByteArray) : Bnd B (Rn.lay d nm s).1 := by unfold Rn.lay; split; exact (h.lay3 hB nm s).ren _ _; exact h.lay3 hB nm s

theorem RetDE.k {w w' : World} {d : Dk} {er : Int} {e : Ending} {A0 : Option Addr} {n0 B : Nat} (h : RetDE w d er e w') (hB : Bnd B d) : RetDK w A0 n0 d er e w' := by
  obtain ⟨A, n, c, rfl, ho, q⟩ := h
  exact ⟨A, n, c, rfl, ho.dsk (few_own ho hB), .inr ho.far_, q⟩

/-- behind a step of the laying. -/
def Ls (w : World) (A0 : Option Addr) (n0 : Nat) (x : Dk × Int) (s9 : Value) (wx : World) : Prop := ∃ A n c, s9 = .int .i64 x.2 ∧ Sv w A n c x.1 wx ∧ (A = A0 ∧ n = n0 ∨ Far w A)

set_option maxHeartbeats 8000000 in
set_option maxRecDepth 100000 in
theorem lay_any (nm s : ByteArray) (A : Option Addr) (n c : Nat) (d : Dk) (w : World) (hd : Dsk w A n c d.fs) (hB : Bnd 2305843009213693952 d) (hs : s.size ≤ 2305843009213693952) (hn : nm.size ≤ 140737488351232) :
    Calls Try.prog 11 #[dkv A n c d.room d.fuse d.off, .string nm, .string s] w fun e w' => RetDK w A n (Rn.lay d nm s).1 (Rn.lay d nm s).2 e w' := by
  have HN := Lib.hid hd.max
  have B1 := hB.lay1 nm
  have B2 := hB.lay2 (by omega) nm s
  have B3 := hB.lay3 (by omega) nm s
  have BD := hB.del (Rn.freshB nm)
  have mx : ∀ {d : Dk}, Bnd 2305843009213693952 d → ∀ f ∈ d.fs, f.sf.size + f.wt.size ≤ maxLen := fun h f hf => Nat.le_trans (h.sum f hf) (by unfold maxLen; omega)
  have C1 := Lib.hid (show Rn.lay1 d nm = if (hit (Rn.freshB nm) d.fs).2 then del d (Rn.freshB nm) else (d, 0) from rfl)
  have C2 := Lib.hid (show Rn.lay2 d nm s = if (Rn.lay1 d nm).2 = 0 then appd (Rn.lay1 d nm).1 (Rn.freshB nm) s else Rn.lay1 d nm from rfl)
  have C3 := Lib.hid (show Rn.lay3 d nm s = if (Rn.lay2 d nm s).2 = 0 then syn (Rn.lay2 d nm s).1 (Rn.freshB nm) else Rn.lay2 d nm s from rfl)
  have C4 := Lib.hid (show Rn.lay d nm s = if (Rn.lay3 d nm s).2 = 0 then ren (Rn.lay3 d nm s).1 (Rn.freshB nm) nm else Rn.lay3 d nm s from rfl)
  generalize Rn.lay d nm s = x4 at C4 ⊢
  generalize Rn.lay3 d nm s = x3 at C3 C4 B3
  generalize Rn.lay2 d nm s = x2 at C2 C3 B2
  generalize Rn.lay1 d nm = x1 at C1 C2 B1
  have HFr := Lib.hid (show (⟨#[110, 46]⟩ : ByteArray) ++ nm = Rn.freshB nm from rfl)
  have BA := B1.appd (by omega) (Rn.freshB nm) s
  have BY := B2.syn (Rn.freshB nm)
  have BR := B3.ren (Rn.freshB nm) nm
  generalize Rn.freshB nm = fr at *
  have KD := Lib.hid (fun A n c w hd => (del_any fr A n c d w hd (mx hB) hB.fuse.2).mono fun _ _ h => RetDE.k (A0 := A) (n0 := n) h BD)
  have KF := Lib.hid (fun w hf => find_any fr A n c d.room d.fuse d.off d.fs w hf HN.out)
  have KA := Lib.hid (fun A n c w hd => (append_any fr s A n c x1.1 w hd B1.sum hs B1.room.2 B1.fuse.2).mono fun _ _ h => RetDE.k (A0 := A) (n0 := n) h BA)
  have KY := Lib.hid (fun A n c w hd => (sync_any fr A n c x2.1 w hd (mx B2)).mono fun _ _ h => RetDE.k (A0 := A) (n0 := n) h BY)
  have KRN := Lib.hid (fun A n c w hd => (ren_any fr nm A n c x3.1 w hd (mx B3) B3.fuse.2).mono fun _ _ h => RetDE.k (A0 := A) (n0 := n) h BR)
  have HD := Lib.hid hd
  have hz : (⟨#[110, 46]⟩ : ByteArray).size = 2 := rfl
  have HZ := Lib.hid hz
  clear hd hB hs B1 B2 B3 BD BA BY BR hz
  generalize hit fr d.fs = bb at KF C1
  obtain ⟨bf, b⟩ := bb
  generalize del d fr = xd at KD C1
  have hn2 : (⟨#[110, 46]⟩ : ByteArray).size + nm.size ≤ 140737488351234 := by rw [HZ.out]; omega
  go_enter Try.func11, Try.ntmps11
  go_wp2_with fail
  rw [HFr.out]
  refine (KF.out _ (HD.out.files.q (((Q.refl _).alloc _).alloc _))).mono ?_
  rintro e w1 ⟨rfl, q1⟩
  have V := Lib.hid (((Sv.new w HD.out).step q1).step ((Q.refl w1).alloc (.cells #[.string bf.nm, .string bf.sf, .string bf.wt] 52)))
  clear q1
  go_upto_if 20 with (fail)
  go_cut [9] (fun s9 wx => Ls w A n x1 s9 wx)
  case first =>
    cases b
    · go_wp2_with fail
      go_meet
      exact ⟨A, n, c, by rw [C1.out]; rfl, by rw [C1.out]; exact V.out, .inl ⟨rfl, rfl⟩⟩
    · obtain ⟨⟨e0, e1, e2, e3⟩, f0, f1, f2', f3⟩ := V.out.sb.get
      go_wp2_with fail
      refine (KD.out A n c _ V.out.dsk).mono ?_
      rintro e w2 ⟨A2, n2, c2, rfl, ho, hf, q2⟩
      have P := Lib.hid (V.out.putK q2 ho hf)
      have PF := Lib.hid (V.out.farK (.inl ⟨rfl, rfl⟩) hf)
      clear e0 e1 e2 e3 f0 f1 f2' f3
      obtain ⟨⟨e0, e1, e2, e3⟩, f0, f1, f2', f3⟩ := (V.out.sb.step q2).get
      clear ho q2 hf
      go_wp2_with fail
      go_meet
      exact ⟨A2, n2, c2, by rw [C1.out]; rfl, by rw [C1.out]; exact P.out, PF.out⟩
  case rest =>
    clear V
    obtain ⟨A1, n1, c1, rfl, v1, r1⟩ := hcut
    have V := Lib.hid v1
    have R := Lib.hid r1
    clear v1 r1
    go_upto_if 28 with (fail)
    go_cut [9] (fun s9 wx => Ls w A n x2 s9 wx)
    case first =>
      by_cases g : x1.2 = 0
      · have CC := C2.out
        rw [if_pos g] at CC
        have HC := Lib.hid CC
        clear CC
        obtain ⟨⟨e0, e1, e2, e3⟩, f0, f1, f2', f3⟩ := V.out.sb.get
        have g' : (x1.2 == 0) = true := by simpa using g
        clear g
        go_wp2_with fail
        refine (KA.out _ _ _ _ V.out.dsk).mono ?_
        rintro e w2 ⟨A2, n2, c2, rfl, ho, hf, q2⟩
        rw [← HC.out] at ho
        have P := Lib.hid (V.out.putK q2 ho hf)
        have PF := Lib.hid (V.out.farK R.out hf)
        clear e0 e1 e2 e3 f0 f1 f2' f3
        obtain ⟨⟨e0, e1, e2, e3⟩, f0, f1, f2', f3⟩ := (V.out.sb.step q2).get
        clear ho q2 hf
        go_wp2_with fail
        go_meet
        rw [← HC.out]
        exact ⟨A2, n2, c2, rfl, P.out, PF.out⟩
      · have CC := C2.out
        rw [if_neg g] at CC
        have HC := Lib.hid CC
        clear CC
        have g' : (x1.2 == 0) = false := by simpa using g
        clear g
        go_wp2_with fail
        go_meet
        rw [HC.out]
        exact ⟨_, _, _, rfl, V.out, R.out⟩
    case rest =>
      clear V R
      obtain ⟨A1, n1, c1, rfl, v1, r1⟩ := hcut
      have V := Lib.hid v1
      have R := Lib.hid r1
      clear v1 r1
      go_upto_if 37 with (fail)
      go_cut [9] (fun s9 wx => Ls w A n x3 s9 wx)
      case first =>
        by_cases g : x2.2 = 0
        · have CC := C3.out
          rw [if_pos g] at CC
          have HC := Lib.hid CC
          clear CC
          obtain ⟨⟨e0, e1, e2, e3⟩, f0, f1, f2', f3⟩ := V.out.sb.get
          have g' : (x2.2 == 0) = true := by simpa using g
          clear g
          go_wp2_with fail
          refine (KY.out _ _ _ _ V.out.dsk).mono ?_
          rintro e w2 ⟨A2, n2, c2, rfl, ho, hf, q2⟩
          rw [← HC.out] at ho
          have P := Lib.hid (V.out.putK q2 ho hf)
          have PF := Lib.hid (V.out.farK R.out hf)
          clear e0 e1 e2 e3 f0 f1 f2' f3
          obtain ⟨⟨e0, e1, e2, e3⟩, f0, f1, f2', f3⟩ := (V.out.sb.step q2).get
          clear ho q2 hf
          go_wp2_with fail
          go_meet
          rw [← HC.out]
          exact ⟨A2, n2, c2, rfl, P.out, PF.out⟩
        · have CC := C3.out
          rw [if_neg g] at CC
          have HC := Lib.hid CC
          clear CC
          have g' : (x2.2 == 0) = false := by simpa using g
          clear g
          go_wp2_with fail
          go_meet
          rw [HC.out]
          exact ⟨_, _, _, rfl, V.out, R.out⟩
      case rest =>
        clear V R
        obtain ⟨A1, n1, c1, rfl, v1, r1⟩ := hcut
        have V := Lib.hid v1
        have R := Lib.hid r1
        clear v1 r1
        go_upto_if 45 with (fail)
        go_cut [9] (fun s9 wx => Ls w A n x4 s9 wx)
        case first =>
          by_cases g : x3.2 = 0
          · have CC := C4.out
            rw [if_pos g] at CC
            have HC := Lib.hid CC
            clear CC
            obtain ⟨⟨e0, e1, e2, e3⟩, f0, f1, f2', f3⟩ := V.out.sb.get
            have g' : (x3.2 == 0) = true := by simpa using g
            clear g
            go_wp2_with fail
            refine (KRN.out _ _ _ _ V.out.dsk).mono ?_
            rintro e w2 ⟨A2, n2, c2, rfl, ho, hf, q2⟩
            rw [← HC.out] at ho
            have P := Lib.hid (V.out.putK q2 ho hf)
            have PF := Lib.hid (V.out.farK R.out hf)
            clear e0 e1 e2 e3 f0 f1 f2' f3
            obtain ⟨⟨e0, e1, e2, e3⟩, f0, f1, f2', f3⟩ := (V.out.sb.step q2).get
            clear ho q2 hf
            go_wp2_with fail
            go_meet
            rw [← HC.out]
            exact ⟨A2, n2, c2, rfl, P.out, PF.out⟩
          · have CC := C4.out
            rw [if_neg g] at CC
            have HC := Lib.hid CC
            clear CC
            have g' : (x3.2 == 0) = false := by simpa using g
            clear g
            go_wp2_with fail
            go_meet
            rw [HC.out]
            exact ⟨_, _, _, rfl, V.out, R.out⟩
        case rest =>
          clear V R
          obtain ⟨A1, n1, c1, rfl, v1, r1⟩ := hcut
          have V := Lib.hid v1
          have R := Lib.hid r1
          clear v1 r1 KD KF KA KY KRN C1 C2 C3 C4
          obtain ⟨⟨e0, e1, e2, e3⟩, f0, f1, f2', f3⟩ := V.out.sb.get
          obtain ⟨⟨s0, s1, s2, s3⟩, h0, h1, h2, h3⟩ := V.out.sb.getR
          go_wp2
          refine bodyPost_ret (v := .tuple #[dkv A1 n1 c1 x4.1.room x4.1.fuse x4.1.off, .int .i64 x4.2]) (by simp [results, Try.results11, go_sem, s0, s1, s2, s3]) rfl ?_
          exact V.out.endK R.out _ _ _ _ _

set_option maxHeartbeats 8000000 in
set_option maxRecDepth 100000 in
theorem refLay_any (nm s : ByteArray) (A : Option Addr) (n c : Nat) (d : Dk) (w : World) (hd : Dsk w A n c d.fs) (hB : Bnd 2305843009213693952 d) (hs : s.size ≤ 2305843009213693952) (hn : nm.size ≤ 140737488351232) :
    Calls Try.prog 12 #[dkv A n c d.room d.fuse d.off, .string nm, .string s] w fun e w' => RetDK w A n (Rn.lay d nm s).1 (Rn.lay d nm s).2 e w' := by
  have HN := Lib.hid hd.max
  have B1 := hB.lay1 nm
  have B2 := hB.lay2 (by omega) nm s
  have B3 := hB.lay3 (by omega) nm s
  have BD := hB.del (Rn.freshB nm)
  have mx : ∀ {d : Dk}, Bnd 2305843009213693952 d → ∀ f ∈ d.fs, f.sf.size + f.wt.size ≤ maxLen := fun h f hf => Nat.le_trans (h.sum f hf) (by unfold maxLen; omega)
  have C1 := Lib.hid (show Rn.lay1 d nm = if (hit (Rn.freshB nm) d.fs).2 then del d (Rn.freshB nm) else (d, 0) from rfl)
  have C2 := Lib.hid (show Rn.lay2 d nm s = if (Rn.lay1 d nm).2 = 0 then appd (Rn.lay1 d nm).1 (Rn.freshB nm) s else Rn.lay1 d nm from rfl)
  have C3 := Lib.hid (show Rn.lay3 d nm s = if (Rn.lay2 d nm s).2 = 0 then syn (Rn.lay2 d nm s).1 (Rn.freshB nm) else Rn.lay2 d nm s from rfl)
  have C4 := Lib.hid (show Rn.lay d nm s = if (Rn.lay3 d nm s).2 = 0 then ren (Rn.lay3 d nm s).1 (Rn.freshB nm) nm else Rn.lay3 d nm s from rfl)
  generalize Rn.lay d nm s = x4 at C4 ⊢
  generalize Rn.lay3 d nm s = x3 at C3 C4 B3
  generalize Rn.lay2 d nm s = x2 at C2 C3 B2
  generalize Rn.lay1 d nm = x1 at C1 C2 B1
  have HFr := Lib.hid (show (⟨#[110, 46]⟩ : ByteArray) ++ nm = Rn.freshB nm from rfl)
  have BA := B1.appd (by omega) (Rn.freshB nm) s
  have BY := B2.syn (Rn.freshB nm)
  have BR := B3.ren (Rn.freshB nm) nm
  generalize Rn.freshB nm = fr at *
  have KD := Lib.hid (fun A n c w hd => ref_del_any fr A n c d w hd (mx hB) hB.fuse.2)
  have KF := Lib.hid (fun w hf => ref_find fr A n c d.room d.fuse d.off d.fs w hf HN.out)
  have KA := Lib.hid (fun A n c w hd => ref_append_any fr s A n c x1.1 w hd B1.sum hs B1.room.2 B1.fuse.2)
  have KY := Lib.hid (fun A n c w hd => ref_sync_any fr A n c x2.1 w hd (mx B2))
  have KRN := Lib.hid (fun A n c w hd => ref_ren_any fr nm A n c x3.1 w hd (mx B3) B3.fuse.2)
  have HD := Lib.hid hd
  have hz : (⟨#[110, 46]⟩ : ByteArray).size = 2 := rfl
  have HZ := Lib.hid hz
  clear hd hB hs B1 B2 B3 BD BA BY BR hz
  generalize hit fr d.fs = bb at KF C1
  obtain ⟨bf, b⟩ := bb
  generalize del d fr = xd at KD C1
  have hn2 : (⟨#[110, 46]⟩ : ByteArray).size + nm.size ≤ 140737488351234 := by rw [HZ.out]; omega
  go_enter Try.func12, Try.ntmps12
  go_wp2_with fail
  rw [HFr.out]
  refine (KF.out _ (HD.out.files.q (((Q.refl _).alloc _).alloc _))).mono ?_
  rintro e w1 ⟨rfl, q1⟩
  have V := Lib.hid (((Sv.new w HD.out).step q1).step ((Q.refl w1).alloc (.cells #[.string bf.nm, .string bf.sf, .string bf.wt] 52)))
  clear q1
  go_upto_if 20 with (fail)
  go_cut [9] (fun s9 wx => Ls w A n x1 s9 wx)
  case first =>
    cases b
    · go_wp2_with fail
      go_meet
      exact ⟨A, n, c, by rw [C1.out]; rfl, by rw [C1.out]; exact V.out, .inl ⟨rfl, rfl⟩⟩
    · obtain ⟨⟨e0, e1, e2, e3⟩, f0, f1, f2', f3⟩ := V.out.sb.get
      go_wp2_with fail
      refine (KD.out A n c _ V.out.dsk).mono ?_
      rintro e w2 ⟨A2, n2, c2, rfl, ho, hf, q2⟩
      have P := Lib.hid (V.out.putK q2 ho hf)
      have PF := Lib.hid (V.out.farK (.inl ⟨rfl, rfl⟩) hf)
      clear e0 e1 e2 e3 f0 f1 f2' f3
      obtain ⟨⟨e0, e1, e2, e3⟩, f0, f1, f2', f3⟩ := (V.out.sb.step q2).get
      clear ho q2 hf
      go_wp2_with fail
      go_meet
      exact ⟨A2, n2, c2, by rw [C1.out]; rfl, by rw [C1.out]; exact P.out, PF.out⟩
  case rest =>
    clear V
    obtain ⟨A1, n1, c1, rfl, v1, r1⟩ := hcut
    have V := Lib.hid v1
    have R := Lib.hid r1
    clear v1 r1
    go_upto_if 28 with (fail)
    go_cut [9] (fun s9 wx => Ls w A n x2 s9 wx)
    case first =>
      by_cases g : x1.2 = 0
      · have CC := C2.out
        rw [if_pos g] at CC
        have HC := Lib.hid CC
        clear CC
        obtain ⟨⟨e0, e1, e2, e3⟩, f0, f1, f2', f3⟩ := V.out.sb.get
        have g' : (x1.2 == 0) = true := by simpa using g
        clear g
        go_wp2_with fail
        refine (KA.out _ _ _ _ V.out.dsk).mono ?_
        rintro e w2 ⟨A2, n2, c2, rfl, ho, hf, q2⟩
        rw [← HC.out] at ho
        have P := Lib.hid (V.out.putK q2 ho hf)
        have PF := Lib.hid (V.out.farK R.out hf)
        clear e0 e1 e2 e3 f0 f1 f2' f3
        obtain ⟨⟨e0, e1, e2, e3⟩, f0, f1, f2', f3⟩ := (V.out.sb.step q2).get
        clear ho q2 hf
        go_wp2_with fail
        go_meet
        rw [← HC.out]
        exact ⟨A2, n2, c2, rfl, P.out, PF.out⟩
      · have CC := C2.out
        rw [if_neg g] at CC
        have HC := Lib.hid CC
        clear CC
        have g' : (x1.2 == 0) = false := by simpa using g
        clear g
        go_wp2_with fail
        go_meet
        rw [HC.out]
        exact ⟨_, _, _, rfl, V.out, R.out⟩
    case rest =>
      clear V R
      obtain ⟨A1, n1, c1, rfl, v1, r1⟩ := hcut
      have V := Lib.hid v1
      have R := Lib.hid r1
      clear v1 r1
      go_upto_if 37 with (fail)
      go_cut [9] (fun s9 wx => Ls w A n x3 s9 wx)
      case first =>
        by_cases g : x2.2 = 0
        · have CC := C3.out
          rw [if_pos g] at CC
          have HC := Lib.hid CC
          clear CC
          obtain ⟨⟨e0, e1, e2, e3⟩, f0, f1, f2', f3⟩ := V.out.sb.get
          have g' : (x2.2 == 0) = true := by simpa using g
          clear g
          go_wp2_with fail
          refine (KY.out _ _ _ _ V.out.dsk).mono ?_
          rintro e w2 ⟨A2, n2, c2, rfl, ho, hf, q2⟩
          rw [← HC.out] at ho
          have P := Lib.hid (V.out.putK q2 ho hf)
          have PF := Lib.hid (V.out.farK R.out hf)
          clear e0 e1 e2 e3 f0 f1 f2' f3
          obtain ⟨⟨e0, e1, e2, e3⟩, f0, f1, f2', f3⟩ := (V.out.sb.step q2).get
          clear ho q2 hf
          go_wp2_with fail
          go_meet
          rw [← HC.out]
          exact ⟨A2, n2, c2, rfl, P.out, PF.out⟩
        · have CC := C3.out
          rw [if_neg g] at CC
          have HC := Lib.hid CC
          clear CC
          have g' : (x2.2 == 0) = false := by simpa using g
          clear g
          go_wp2_with fail
          go_meet
          rw [HC.out]
          exact ⟨_, _, _, rfl, V.out, R.out⟩
      case rest =>
        clear V R
        obtain ⟨A1, n1, c1, rfl, v1, r1⟩ := hcut
        have V := Lib.hid v1
        have R := Lib.hid r1
        clear v1 r1
        go_upto_if 45 with (fail)
        go_cut [9] (fun s9 wx => Ls w A n x4 s9 wx)
        case first =>
          by_cases g : x3.2 = 0
          · have CC := C4.out
            rw [if_pos g] at CC
            have HC := Lib.hid CC
            clear CC
            obtain ⟨⟨e0, e1, e2, e3⟩, f0, f1, f2', f3⟩ := V.out.sb.get
            have g' : (x3.2 == 0) = true := by simpa using g
            clear g
            go_wp2_with fail
            refine (KRN.out _ _ _ _ V.out.dsk).mono ?_
            rintro e w2 ⟨A2, n2, c2, rfl, ho, hf, q2⟩
            rw [← HC.out] at ho
            have P := Lib.hid (V.out.putK q2 ho hf)
            have PF := Lib.hid (V.out.farK R.out hf)
            clear e0 e1 e2 e3 f0 f1 f2' f3
            obtain ⟨⟨e0, e1, e2, e3⟩, f0, f1, f2', f3⟩ := (V.out.sb.step q2).get
            clear ho q2 hf
            go_wp2_with fail
            go_meet
            rw [← HC.out]
            exact ⟨A2, n2, c2, rfl, P.out, PF.out⟩
          · have CC := C4.out
            rw [if_neg g] at CC
            have HC := Lib.hid CC
            clear CC
            have g' : (x3.2 == 0) = false := by simpa using g
            clear g
            go_wp2_with fail
            go_meet
            rw [HC.out]
            exact ⟨_, _, _, rfl, V.out, R.out⟩
        case rest =>
          clear V R
          obtain ⟨A1, n1, c1, rfl, v1, r1⟩ := hcut
          have V := Lib.hid v1
          have R := Lib.hid r1
          clear v1 r1 KD KF KA KY KRN C1 C2 C3 C4
          obtain ⟨⟨e0, e1, e2, e3⟩, f0, f1, f2', f3⟩ := V.out.sb.get
          obtain ⟨⟨s0, s1, s2, s3⟩, h0, h1, h2, h3⟩ := V.out.sb.getR
          go_wp2
          refine bodyPost_ret (v := .tuple #[dkv A1 n1 c1 x4.1.room x4.1.fuse x4.1.off, .int .i64 x4.2]) (by simp [results, Try.results12, go_sem, s0, s1, s2, s3]) rfl ?_
          exact V.out.endK R.out _ _ _ _ _
end Go.Proofs.Ytodfdklcioafmaa

/- Pairs: what the laws say of them, plain mathematics. -/
namespace Go.Proofs.Ytodfdklcioafmaa.Prm
set_option maxRecDepth 100000
set_option linter.unusedVariables false

theorem hasK_same (p : Pr) : hasK p.key p = true := by simp [hasK]
theorem hasK_other {p : Pr} {o : ByteArray} (h : p.key ≠ o) : hasK o p = false := by simp [hasK, h]
theorem find_cons (o : ByteArray) (p : Pr) (l : List Pr) : find o (p :: l) = if hasK o p then (p.val, true) else find o l := rfl

theorem find_ins_other {o : ByteArray} {p : Pr} (h : p.key ≠ o) : ∀ (l : List Pr), find o (ins p l) = find o l
  | [] => by simp [ins, find_cons, hasK_other h]
  | q :: l => by
    simp only [ins]
    split
    · rw [find_cons, hasK_other h]; rfl
    · rw [find_cons, find_cons, find_ins_other h l]
theorem find_setF_other {o : ByteArray} {p : Pr} (h : p.key ≠ o) : ∀ (l : List Pr), find o (setF p l) = find o l
  | [] => rfl
  | q :: l => by
    simp only [setF]
    by_cases hq : hasK p.key q = true
    · rw [if_pos hq, find_cons, find_cons, hasK_other h, hasK_other (p := q) (by simp [hasK] at hq; rw [hq]; exact h)]
      simp
    · rw [if_neg hq, find_cons, find_cons, find_setF_other h l]
theorem find_put_other {o : ByteArray} {p : Pr} (h : p.key ≠ o) (l : List Pr) : find o (put l p) = find o l := by
  unfold put; split
  · exact find_setF_other h l
  · exact find_ins_other h l
theorem find_drop_other {o k : ByteArray} (h : k ≠ o) : ∀ (l : List Pr), find o (drop l k) = find o l
  | [] => rfl
  | q :: l => by
    have ih := find_drop_other h l
    unfold drop at ih ⊢
    rw [List.filter_cons]
    by_cases hq : hasK k q = true
    · rw [hq, find_cons, hasK_other (p := q) (by simp [hasK] at hq; rw [hq]; exact h)]
      simpa using ih
    · have hq' : hasK k q = false := by simpa using hq
      rw [hq']
      simp only [Bool.not_false, if_true]
      rw [find_cons, find_cons, ih]
theorem find_ins_same {p : Pr} : ∀ (l : List Pr), (∀ a ∈ l, hasK p.key a = false) → find p.key (ins p l) = (p.val, true)
  | [], _ => by simp [ins, find_cons, hasK_same]
  | q :: l, h => by
    simp only [ins]
    split
    · rw [find_cons, hasK_same]; rfl
    · rw [find_cons, h q (by simp), find_ins_same l fun a ha => h a (by simp [ha])]; rfl
theorem find_some_or {k : ByteArray} : ∀ (l : List Pr), (find k l).2 = false → ∀ a ∈ l, hasK k a = false
  | [], _, a, ha => by simp at ha
  | q :: l, h, a, ha => by
    rw [find_cons] at h
    by_cases hq : hasK k q = true
    · rw [if_pos hq] at h; cases h
    · rw [if_neg hq] at h
      rcases List.mem_cons.1 ha with rfl | ha
      · simpa using hq
      · exact find_some_or l h a ha
theorem find_setF_same {p : Pr} : ∀ (l : List Pr), (find p.key l).2 = true → find p.key (setF p l) = (p.val, true)
  | [], h => by cases h
  | q :: l, h => by
    simp only [setF]
    by_cases hq : hasK p.key q = true
    · rw [if_pos hq, find_cons, hasK_same]; rfl
    · rw [if_neg hq, find_cons, if_neg hq]
      rw [find_cons, if_neg hq] at h
      exact find_setF_same l h
theorem find_put_same (l : List Pr) (p : Pr) : find p.key (put l p) = (p.val, true) := by
  unfold put
  cases h : (find p.key l).2 with
  | true => exact find_setF_same l h
  | false => exact find_ins_same l (find_some_or l h)
theorem find_drop_same (l : List Pr) (k : ByteArray) : find k (drop l k) = (⟨#[]⟩, false) := find_none fun a ha => by
  have := (List.mem_filter.1 ha).2
  simpa using this

/-- what the last write of a key says. -/
def lastW (key : ByteArray) (r : ByteArray × Bool) (w : Wr) : ByteArray × Bool := if w.key = key then (if w.del then ⟨#[]⟩ else w.val, !w.del) else r
theorem find_act (key : ByteArray) (l : List Pr) (w : Wr) : find key (act l w) = lastW key (find key l) w := by
  unfold act lastW
  by_cases h : w.key = key
  · subst h
    cases hd : w.del with
    | true => simp only [if_true]; rw [find_drop_same]; rfl
    | false =>
      have := find_put_same l ⟨w.key, w.val⟩
      simpa using this
  · rw [if_neg h]
    split
    · exact find_drop_other h l
    · exact find_put_other (p := ⟨w.key, w.val⟩) h l
theorem find_apply (key : ByteArray) (ws : List Wr) : ∀ (l : List Pr), find key (apply l ws) = ws.foldl (lastW key) (find key l) := by
  induction ws with
  | nil => intro l; rfl
  | cons w ws ih => intro l; show find key (apply (act l w) ws) = _; rw [ih, find_act]; rfl

/-- two puts of one key. -/
theorem hasK_key {k : ByteArray} {q : Pr} (h : hasK k q = true) : q.key = k := by simpa [hasK] using h
theorem setF_setF {p p' : Pr} (hk : p.key = p'.key) : ∀ (l : List Pr), setF p' (setF p l) = setF p' l
  | [] => rfl
  | q :: l => by
    simp only [setF]
    by_cases hq : hasK p.key q = true
    · rw [if_pos hq, if_pos (by rw [← hk]; exact hq)]
      simp only [setF]
      rw [if_pos (by rw [← hk]; exact hasK_same p)]
    · rw [if_neg hq, if_neg (by rw [← hk]; exact hq)]
      simp only [setF]
      rw [if_neg (by rw [← hk]; exact hq), setF_setF hk l]
theorem setF_ins {p p' : Pr} (hk : p.key = p'.key) : ∀ (l : List Pr), (∀ a ∈ l, hasK p.key a = false) → setF p' (ins p l) = ins p' l
  | [], _ => by simp only [ins, setF]; rw [if_pos (by rw [← hk]; exact hasK_same p)]
  | q :: l, h => by
    simp only [ins, ← hk]
    by_cases hq : lt p.key q.key = true
    · rw [if_pos hq, if_pos hq]; simp only [setF]; rw [if_pos (by rw [← hk]; exact hasK_same p)]
    · rw [if_neg hq, if_neg hq]
      simp only [setF]
      rw [if_neg (by rw [← hk, h q (by simp)]; simp), setF_ins hk l fun a ha => h a (by simp [ha])]
theorem put_put (l : List Pr) {p p' : Pr} (hk : p.key = p'.key) : put (put l p) p' = put l p' := by
  have h2 : (find p'.key (put l p)).2 = true := by rw [← hk, find_put_same]
  rw [put, if_pos h2]
  unfold put
  cases h : (find p.key l).2 with
  | true => rw [if_pos rfl, if_pos (by rw [← hk]; exact h), setF_setF hk]
  | false => rw [if_neg (by simp), if_neg (by rw [← hk, h]; simp), setF_ins hk l (find_some_or l h)]
theorem put_there {l : List Pr} {k v : ByteArray} (h : find k l = (v, true)) : put l ⟨k, v⟩ = l := by
  have hs : ∀ (l : List Pr), find k l = (v, true) → setF ⟨k, v⟩ l = l := by
    intro l
    induction l with
    | nil => intro h; cases h
    | cons q l ih =>
      intro h
      simp only [setF]
      rw [find_cons] at h
      by_cases hq : hasK k q = true
      · rw [if_pos hq] at h ⊢
        injection h with h _
        subst h
        rw [show (⟨k, q.val⟩ : Pr) = q by rw [← hasK_key hq]]
      · rw [if_neg hq] at h ⊢
        rw [ih h]
  rw [put, if_pos (by rw [h])]
  exact hs l h

/-- right rows. -/
def Sorted (l : List Pr) : Prop := l.Pairwise fun a b => lt a.key b.key = true
theorem right_iff : ∀ (l : List Pr), right l = true ↔ Sorted l
  | [] => by simp [right, Sorted]
  | [p] => by simp [right, Sorted]
  | p :: q :: l => by
    have ih := right_iff (q :: l)
    rw [show right (p :: q :: l) = (lt p.key q.key && right (q :: l)) from rfl, Bool.and_eq_true, ih]
    unfold Sorted
    rw [List.pairwise_cons (a := p)]
    constructor
    · rintro ⟨h1, h2⟩
      refine ⟨fun b hb => ?_, h2⟩
      rcases List.mem_cons.1 hb with rfl | hb
      · exact h1
      · exact lt_trans h1 ((List.pairwise_cons.1 h2).1 b hb)
    · rintro ⟨h1, h2⟩
      exact ⟨h1 q (by simp), h2⟩
theorem sorted_filter {l : List Pr} (f : Pr → Bool) (h : Sorted l) : Sorted (l.filter f) := h.filter f
theorem right_filter {l : List Pr} (f : Pr → Bool) (h : right l = true) : right (l.filter f) = true := (right_iff _).2 (sorted_filter f ((right_iff _).1 h))
theorem right_drop {l : List Pr} (k : ByteArray) (h : right l = true) : right (drop l k) = true := right_filter _ h
theorem right_range {l : List Pr} (lo hi : ByteArray) (most : Int) (h : right l = true) : right (range l lo hi most) = true :=
  (right_iff _).2 (List.Pairwise.sublist (List.take_sublist _ _) (sorted_filter _ ((right_iff _).1 h)))
theorem mem_ins {p a : Pr} : ∀ {l : List Pr}, a ∈ ins p l → a = p ∨ a ∈ l
  | [], h => by simp [ins] at h; exact .inl h
  | q :: l, h => by
    simp only [ins] at h
    split at h
    · rcases List.mem_cons.1 h with rfl | h
      · exact .inl rfl
      · exact .inr h
    · rcases List.mem_cons.1 h with rfl | h
      · exact .inr (by simp)
      · rcases mem_ins h with rfl | h
        · exact .inl rfl
        · exact .inr (by simp [h])
theorem sorted_ins {p : Pr} : ∀ {l : List Pr}, Sorted l → (∀ a ∈ l, hasK p.key a = false) → Sorted (ins p l)
  | [], _, _ => by simp [ins, Sorted]
  | q :: l, h, hn => by
    obtain ⟨h1, h2⟩ := List.pairwise_cons.1 h
    simp only [ins]
    by_cases hq : lt p.key q.key = true
    · rw [if_pos hq]
      refine List.pairwise_cons.2 ⟨fun b hb => ?_, h⟩
      rcases List.mem_cons.1 hb with rfl | hb
      · exact hq
      · exact lt_trans hq (h1 b hb)
    · rw [if_neg hq]
      have hqp : lt q.key p.key = true := lt_tri (fun e => by have := hn q (by simp); simp [hasK, ← e] at this) (by simpa using hq)
      refine List.pairwise_cons.2 ⟨fun b hb => ?_, sorted_ins h2 fun a ha => hn a (by simp [ha])⟩
      rcases mem_ins hb with rfl | hb
      · exact hqp
      · exact h1 b hb
theorem keys_setF (p : Pr) : ∀ (l : List Pr), (setF p l).map (·.key) = l.map (·.key)
  | [] => rfl
  | q :: l => by
    simp only [setF]
    by_cases hq : hasK p.key q = true
    · rw [if_pos hq]; simp [hasK_key hq]
    · rw [if_neg hq]; simp [keys_setF p l]
theorem sorted_keys (l : List Pr) : Sorted l ↔ (l.map (·.key)).Pairwise fun a b => lt a b = true := by unfold Sorted; rw [List.pairwise_map]
theorem right_put {l : List Pr} (p : Pr) (h : right l = true) : right (put l p) = true := by
  have hs := (right_iff l).1 h
  refine (right_iff _).2 ?_
  unfold put
  cases hf : (find p.key l).2 with
  | true => rw [if_pos rfl, sorted_keys, keys_setF, ← sorted_keys]; exact hs
  | false => rw [if_neg (by simp)]; exact sorted_ins hs (find_some_or l hf)
theorem right_act {l : List Pr} (w : Wr) (h : right l = true) : right (act l w) = true := by
  unfold act; split
  · exact right_drop _ h
  · exact right_put _ h
theorem right_apply (ws : List Wr) : ∀ {l : List Pr}, right l = true → right (apply l ws) = true := by
  induction ws with
  | nil => intro l h; exact h
  | cons w ws ih => intro l h; exact ih (l := act l w) (right_act w h)

/-- ranges. -/
theorem range_len (l : List Pr) (lo hi : ByteArray) : range l lo hi (l.length : Int) = l.filter fun p => btw lo hi p.key := by
  unfold range
  exact List.take_of_length_le (by have := List.length_filter_le (fun p => btw lo hi p.key) l; omega)
theorem parts_filter {lo mid hi : ByteArray} (h0 : mid ≠ ⟨#[]⟩) (h1 : lt mid lo = false) (h2 : hi = ⟨#[]⟩ ∨ lt hi mid = false) : ∀ {l : List Pr}, Sorted l →
    (l.filter fun p => btw lo mid p.key) ++ (l.filter fun p => btw mid hi p.key) = l.filter fun p => btw lo hi p.key
  | [], _ => rfl
  | q :: l, h => by
    obtain ⟨ha, hb⟩ := List.pairwise_cons.1 h
    have ih := parts_filter h0 h1 h2 hb
    have b0 : btw lo mid q.key = (!lt q.key lo && lt q.key mid) := by simp [btw, h0]
    by_cases hm : lt q.key mid = true
    · have e1 : btw mid hi q.key = false := by simp [btw, hm]
      have e2 : btw lo mid q.key = btw lo hi q.key := by
        rw [b0, hm, Bool.and_true]
        rcases h2 with rfl | h2
        · simp [btw]
        · have : lt q.key hi = true := by
            cases k : lt q.key hi with
            | true => rfl
            | false =>
              have := ge_trans (a := q.key) (b := hi) (c := mid) k h2
              rw [hm] at this; cases this
          simp [btw, this]
      rw [List.filter_cons, List.filter_cons, List.filter_cons, e1, e2]
      by_cases hb2 : btw lo hi q.key = true
      · rw [hb2]; simp only [if_true, List.cons_append]; simp [ih]
      · rw [show btw lo hi q.key = false by simpa using hb2]; simpa using ih
    · have hm' : lt q.key mid = false := by simpa using hm
      have hnone : ∀ a ∈ q :: l, btw lo mid a.key = false := by
        intro a ha'
        have : lt a.key mid = false := by
          rcases List.mem_cons.1 ha' with rfl | hal
          · exact hm'
          · cases k : lt a.key mid with
            | false => rfl
            | true => have := lt_trans (ha a hal) k; rw [hm'] at this; cases this
        simp [btw, h0, this]
      rw [List.filter_eq_nil_iff.2 (fun a ha' => by rw [hnone a ha']; simp), List.nil_append]
      refine List.filter_congr fun a ha' => ?_
      have hge : lt a.key mid = false := by
        rcases List.mem_cons.1 ha' with rfl | hal
        · exact hm'
        · cases k : lt a.key mid with
          | false => rfl
          | true => have := lt_trans (ha a hal) k; rw [hm'] at this; cases this
      have hgl : lt a.key lo = false := ge_trans hge h1
      simp [btw, hge, hgl]
theorem range_parts {l : List Pr} {lo mid hi : ByteArray} (h : right l = true) (h0 : mid ≠ ⟨#[]⟩) (h1 : lt mid lo = false) (h2 : hi = ⟨#[]⟩ ∨ lt hi mid = false) :
    range l lo mid l.length ++ range l mid hi l.length = range l lo hi l.length := by
  rw [range_len, range_len, range_len]
  exact parts_filter h0 h1 h2 ((right_iff l).1 h)
end Go.Proofs.Ytodfdklcioafmaa.Prm

/- The mathematics of package run: a row's bytes, and the row of bytes. -/
namespace Go.Proofs.Ytodfdklcioafmaa
set_option maxRecDepth 100000
open Prm
set_option linter.unusedVariables false
set_option linter.unusedSimpArgs false
namespace Rn

def big (p : Pr) : Bool := decide (65536 < p.key.size) || decide (65536 < p.val.size)
def may (l : List Pr) : Bool := right l && !l.any big
def ptx (s : ByteArray) : List UInt8 := Dm.num s.data.toList.length ++ s.data.toList
def one (p : Pr) : List UInt8 := ptx p.key ++ ptx p.val
def flat : List Pr → List UInt8
  | [] => []
  | p :: l => one p ++ flat l
def body (l : List Pr) : List UInt8 := Dm.num l.length ++ flat l
def bytes (l : List Pr) : List UInt8 := sld (body l)
/-- n pairs, taken off r, behind those of acc. -/
def tkp : Nat → List UInt8 → List Pr → List Pr × List UInt8 × Nat
  | 0, r, acc => (acc, r, 0)
  | n + 1, r, acc =>
    if (Dm.ttext r 65536).2.2 ≠ 0 then (acc, [], (Dm.ttext r 65536).2.2)
    else if (Dm.ttext (Dm.ttext r 65536).2.1 65536).2.2 ≠ 0 then (acc, [], (Dm.ttext (Dm.ttext r 65536).2.1 65536).2.2)
    else tkp n (Dm.ttext (Dm.ttext r 65536).2.1 65536).2.1 (acc ++ [⟨⟨(Dm.ttext r 65536).1.toArray⟩, ⟨(Dm.ttext (Dm.ttext r 65536).2.1 65536).1.toArray⟩⟩])
def tkps (s : List UInt8) : List Pr × List UInt8 × Nat :=
  if (Dm.tnum s).2.2 ≠ 0 then ([], [], (Dm.tnum s).2.2) else tkp (Dm.tnum s).1 (Dm.tnum s).2.1 []
def tk2 (x : List Pr × List UInt8 × Nat) : List Pr × Nat := if x.2.2 ≠ 0 ∨ x.2.1 ≠ [] ∨ may x.1 = false then ([], 3) else (x.1, 0)
def tk1 (x : List UInt8 × List UInt8 × Nat) : List Pr × Nat := if x.2.2 ≠ 0 ∨ x.2.1 ≠ [] then ([], 3) else tk2 (tkps x.1)
/-- the row of bytes, and the errno. -/
def take (s : List UInt8) (most : Int) : List Pr × Nat := tk1 (topen s most)

theorem may_big {l : List Pr} (h : may l = true) : ∀ p ∈ l, p.key.size ≤ 65536 ∧ p.val.size ≤ 65536 := by
  intro p hp
  unfold may at h
  simp only [Bool.and_eq_true, Bool.not_eq_true', List.any_eq_false] at h
  have := h.2 p hp
  simp only [big, Bool.or_eq_true, decide_eq_true_eq, not_or] at this
  omega
theorem may_right {l : List Pr} (h : may l = true) : right l = true := by
  unfold may at h
  simp only [Bool.and_eq_true] at h
  exact h.1

theorem flat_app (l m : List Pr) : flat (l ++ m) = flat l ++ flat m := by
  induction l with
  | nil => rfl
  | cons p l ih => simp [flat, ih]
theorem flat_snoc (l : List Pr) {k : Nat} (hk : k < l.length) : flat (l.take (k + 1)) = flat (l.take k) ++ one l[k] := by
  rw [List.take_succ_eq_append_getElem hk, flat_app]; simp [flat]

theorem size_data (s : ByteArray) : s.data.toList.length = s.size := by simp
theorem mk_data (s : ByteArray) : (⟨s.data.toList.toArray⟩ : ByteArray) = s := by simp

theorem ttext_ptx (s : ByteArray) (r : List UInt8) (h : s.size ≤ 65536) : Dm.ttext (ptx s ++ r) 65536 = (s.data.toList, r, 0) := by
  unfold ptx
  rw [List.append_assoc]
  exact Dm.ttext_text _ r 65536 (by rw [size_data]; unfold Dm.maxU; omega) (by rw [size_data]; omega)

/-- What was told is taken. -/
theorem tkp_flat : ∀ (l : List Pr) (r : List UInt8) (acc : List Pr), (∀ p ∈ l, p.key.size ≤ 65536 ∧ p.val.size ≤ 65536) → tkp l.length (flat l ++ r) acc = (acc ++ l, r, 0)
  | [], r, acc, _ => by simp [tkp, flat]
  | p :: l, r, acc, h => by
    have hp := h p (by simp)
    have e1 : flat (p :: l) ++ r = ptx p.key ++ (ptx p.val ++ (flat l ++ r)) := by simp [flat, one]
    rw [List.length_cons, tkp, e1, ttext_ptx _ _ hp.1]
    simp only [ne_eq, not_true_eq_false, if_false]
    rw [ttext_ptx _ _ hp.2]
    simp only [ne_eq, not_true_eq_false, if_false]
    rw [mk_data, mk_data, tkp_flat l r _ (fun q hq => h q (by simp [hq]))]
    simp
theorem tkps_body (l : List Pr) (h : ∀ p ∈ l, p.key.size ≤ 65536 ∧ p.val.size ≤ 65536) (hl : l.length ≤ Dm.maxU) : tkps (body l) = (l, [], 0) := by
  unfold tkps body
  rw [Dm.tnum_num _ _ hl]
  simp only [ne_eq, not_true_eq_false, if_false]
  have := tkp_flat l [] [] h
  simpa using this
theorem take_bytes (l : List Pr) (most : Int) (h : may l = true) (hl : (body l).length ≤ Dm.maxU) (hm : ((body l).length : Int) ≤ most) : take (bytes l) most = (l, 0) := by
  have hn : l.length ≤ Dm.maxU := by
    have h1 : l.length ≤ (flat l).length := by
      clear h hl hm
      induction l with
      | nil => simp
      | cons p l ih =>
        simp only [flat, one, ptx, List.length_append, List.length_cons]
        have := Dm.dg_pos p.key.data.toList.length
        simp only [Dm.num, List.length_append, List.length_singleton]
        omega
    unfold body at hl; rw [List.length_append] at hl; omega
  unfold take bytes
  have e := topen_sld (body l) [] most hl hm
  rw [List.append_nil] at e
  rw [e, tk1]
  simp only [ne_eq, not_true_eq_false, or_self, if_false]
  rw [tkps_body l (may_big h) hn, tk2]
  simp [h]

/-- Of a beginning of what was sealed nothing is opened. -/
theorem ttext_cut_any (s : List UInt8) (most : Int) (h : s.length ≤ Dm.maxU) (k : Nat) (hk : k < (Dm.num s.length ++ s).length) : (Dm.ttext ((Dm.num s.length ++ s).take k) most).2.2 ≠ 0 := by
  by_cases hm : (s.length : Int) ≤ most
  · rw [Dm.ttext_cut s most h hm k hk]; simp
  · rcases Nat.lt_or_ge k (Dm.num s.length).length with a | a
    · have e : (Dm.num s.length ++ s).take k = (Dm.num s.length).take k := by rw [List.take_append_of_le_length (by omega)]
      unfold Dm.ttext
      rw [e, Dm.tnum_cut _ h k a, if_pos (by simp)]
      simp
    · have e : (Dm.num s.length ++ s).take k = Dm.num s.length ++ s.take (k - (Dm.num s.length).length) := by
        rw [List.take_append, List.take_of_length_le a]
      unfold Dm.ttext
      rw [e, Dm.tnum_num _ _ h, if_neg (by simp), if_pos (by simp only; omega)]
      simp
theorem topen_cut_any (s : List UInt8) (most : Int) (h : s.length ≤ Dm.maxU) (k : Nat) (hk : k < (sld s).length) : (topen ((sld s).take k) most).2.2 ≠ 0 := by
  by_cases hm : (s.length : Int) ≤ most
  · rw [topen_cut s most h hm k hk]; simp
  · unfold topen
    rcases Nat.lt_or_ge k (Dm.num s.length ++ s).length with a | a
    · have e : (sld s).take k = (Dm.num s.length ++ s).take k := by
        unfold sld; rw [List.take_append_of_le_length (by omega)]
      rw [e]
      have := ttext_cut_any s most h k a
      unfold topen1
      rw [if_pos this]
      exact this
    · have e : (sld s).take k = Dm.num s.length ++ (s ++ (Dm.num (Sm.adler s).toNat).take (k - (Dm.num s.length ++ s).length)) := by
        unfold sld; rw [List.take_append, List.take_of_length_le a]; simp
      rw [e, Dm.ttext_big s _ most h (by omega)]
      unfold topen1
      rw [if_pos (by simp)]
      simp
theorem take_cut (l : List Pr) (most : Int) (hl : (body l).length ≤ Dm.maxU) (k : Nat) (hk : k < (bytes l).length) : take ((bytes l).take k) most = ([], 3) := by
  unfold take tk1
  rw [if_pos (.inl (topen_cut_any _ most hl k hk))]

/-- Which bound is told makes no odds, if it is as great as the text. -/
theorem ttext_most (l : List UInt8) (m1 m2 : Int) (h1 : (l.length : Int) ≤ m1) (h2 : (l.length : Int) ≤ m2) :
    Dm.ttext l m1 = Dm.ttext l m2 ∨ ((Dm.ttext l m1).2.2 ≠ 0 ∧ (Dm.ttext l m2).2.2 ≠ 0) := by
  have hlen := Dm.tnum_len l
  by_cases hs : (Dm.tnum l).2.1.length < (Dm.tnum l).1
  · right
    unfold Dm.ttext
    constructor <;> · split
                      · assumption
                      · split
                        · simp
                        · simp
  · left
    unfold Dm.ttext
    by_cases h0 : (Dm.tnum l).2.2 ≠ 0
    · rw [if_pos h0, if_pos h0]
    · have a1 : ¬ (m1 < 0 ∨ m1 < ((Dm.tnum l).1 : Int)) := by omega
      have a2 : ¬ (m2 < 0 ∨ m2 < ((Dm.tnum l).1 : Int)) := by omega
      rw [if_neg h0, if_neg h0, if_neg a1, if_neg a2]
theorem take_most (s : List UInt8) (m1 m2 : Int) (h1 : (s.length : Int) ≤ m1) (h2 : (s.length : Int) ≤ m2) : take s m1 = take s m2 := by
  unfold take topen
  rcases ttext_most s m1 m2 h1 h2 with e | ⟨a, b⟩
  · rw [e]
  · unfold topen1 tk1
    rw [if_pos a, if_pos b, if_pos (.inl a), if_pos (.inl b)]

/-- How much a text takes at least. -/
theorem tnum_takes (l : List UInt8) (h : (Dm.tnum l).2.2 = 0) : (Dm.tnum l).2.1.length + 2 ≤ l.length := by
  have hl := congrArg List.length (Dm.figs_rest l)
  rw [List.length_append] at hl
  unfold Dm.tnum at h ⊢
  split at h
  · simp at h
  · rename_i hb
    split at h
    · simp at h
    · rename_i hr
      split at h
      · simp at h
      · rename_i hf
        rw [if_neg hb, if_neg hr, if_neg hf]
        simp only [not_or] at hf
        have h1 : 1 ≤ (Dm.figs l).length := by
          cases hh : Dm.figs l with
          | nil => exact absurd hh hf.2
          | cons a b => simp
        have h2 : 1 ≤ (Dm.rest l).length := by
          cases hh : Dm.rest l with
          | nil => exact absurd hh hr
          | cons a b => simp
        simp only [List.length_tail]
        omega
theorem ttext_takes (l : List UInt8) (most : Int) (h : (Dm.ttext l most).2.2 = 0) : (Dm.ttext l most).2.1.length + 2 ≤ l.length := by
  unfold Dm.ttext at h ⊢
  split at h
  · rename_i h0; simp only at h; exact absurd h h0
  · rename_i h0
    split at h
    · simp at h
    · rename_i h1
      split at h
      · simp at h
      · rename_i h2
        rw [if_neg h0, if_neg h1, if_neg h2]
        have := tnum_takes l (by simpa using h0)
        simp only [List.length_drop]
        omega
theorem body_length (l : List Pr) (h : ∀ p ∈ l, p.key.size ≤ 65536 ∧ p.val.size ≤ 65536) (hl : l.length ≤ Dm.maxU) : (body l).length ≤ 21 + l.length * 131114 := by
  have hf : ∀ m : List Pr, (∀ p ∈ m, p.key.size ≤ 65536 ∧ p.val.size ≤ 65536) → (flat m).length ≤ m.length * 131114 := by
    intro m
    induction m with
    | nil => intro _; simp [flat]
    | cons p m ih =>
      intro hm
      have h1 := hm p (by simp)
      have h2 := ih fun q hq => hm q (by simp [hq])
      have h3 := Dm.num_length p.key.size (by omega)
      have h4 := Dm.num_length p.val.size (by omega)
      simp only [flat, one, ptx, List.length_append, List.length_cons, size_data, Nat.add_mul]
      omega
  have := hf l h
  have h2 := Dm.num_length l.length (by unfold Dm.maxU at hl; omega)
  unfold body
  rw [List.length_append]
  omega
end Rn
end Go.Proofs.Ytodfdklcioafmaa

/- Contracts: run.long, slices.ContainsFunc of it, run.mayBe; the document's may. -/
namespace Go.Proofs.Ytodfdklcioafmaa
set_option maxRecDepth 100000
open Go.RowKit Prm
set_option linter.unusedVariables false
set_option linter.unusedSimpArgs false

theorem long_any (p : Pr) (w : World) : Calls Try.prog 80 #[p.v] w fun e w' => e = .returned (.bool (Rn.big p)) ∧ Q w w' := by
  obtain ⟨a, b⟩ := p
  by_cases h1 : (65536 : Int) < (a.size : Int)
  · have hr : Rn.big ⟨a, b⟩ = true := by unfold Rn.big; simp; omega
    have HR := Lib.hid hr
    clear hr
    go_enter Try.func80, Try.ntmps80
    go_wp2
    go_ret
    exact ⟨ret_bool HR.out.symm, (Q.refl _).alloc _⟩
  · by_cases h2 : (65536 : Int) < (b.size : Int)
    · have hr : Rn.big ⟨a, b⟩ = true := by unfold Rn.big; simp; omega
      have HR := Lib.hid hr
      clear hr
      go_enter Try.func80, Try.ntmps80
      go_wp2
      go_ret
      exact ⟨ret_bool HR.out.symm, (Q.refl _).alloc _⟩
    · have hr : Rn.big ⟨a, b⟩ = false := by unfold Rn.big; simp; omega
      have HR := Lib.hid hr
      clear hr
      go_enter Try.func80, Try.ntmps80
      go_wp2
      go_ret
      exact ⟨ret_bool HR.out.symm, (Q.refl _).alloc _⟩

set_option maxHeartbeats 1000000 in
theorem indexLong (A : Option Addr) (n c : Nat) (l : List Pr) (w : World) (hf : Lst pairK w A n l) (hn : n ≤ maxLen) :
    Calls Try.prog 104 #[.slice A n c, .func (.func 80) #[] #[]] w fun e w' => e = .returned (.int .i64 (idx Rn.big l 0)) ∧ Q w w' := by
  unfold maxLen at hn
  have HF := Lib.hid hf
  clear hf
  go_enter Try.func104, Try.ntmps104
  go_wp2
  go_loopw [8] (fun i wr => ∃ k : Nat, k ≤ n ∧ i = .int .i64 k ∧ Q w wr ∧ idx Rn.big l 0 = idx Rn.big (l.drop k) k) (fun i _ => n - (intOf i).toNat)
  case atStart => exact ⟨0, Nat.zero_le _, rfl, Q.refl _, rfl⟩
  case round =>
    obtain ⟨k, hk, rfl, hq, hp⟩ := hrel
    have HP := Lib.hid hp
    clear hp
    by_cases hlt : k < n
    · have hlen := HF.out.len
      have hkl : k < l.length := by omega
      obtain ⟨ad, rfl, hb, c0, c1⟩ := load_pair (HF.out.q hq) hlt hkl
      clear hlen
      go_wp2_with fail
      refine (long_any l[k] _).mono ?_
      rintro e w1 ⟨rfl, q1⟩
      by_cases hh : Rn.big l[k] = true
      · go_wp2
        go_ret
        exact ⟨ret_int (by rw [HP.out, idx_drop _ _ hkl, if_pos hh]), hq.trans q1⟩
      · have hd : Rn.big l[k] = false := by simpa using hh
        go_wp2
        go_roundw
        case rel => exact ⟨k + 1, by omega, by go_num, hq.trans q1, by rw [HP.out, idx_drop _ _ hkl, if_neg hh]⟩
        case measure => simp [intOf]; omega
    · have hlen := HF.out.len
      have HL := Lib.hid hlen
      clear hlen
      go_wp2
      go_ret
      exact ⟨ret_int (by rw [HP.out, idx_end _ _ (by have := HL.out; omega)]), hq⟩

theorem containsLong (A : Option Addr) (n c : Nat) (l : List Pr) (w : World) (hf : Lst pairK w A n l) (hn : n ≤ maxLen) :
    Calls Try.prog 79 #[.slice A n c, .func (.func 80) #[] #[]] w fun e w' => e = .returned (.bool (l.any Rn.big)) ∧ Q w w' := by
  have K := Lib.hid (indexLong A n c l w hf hn)
  rcases idx_cases Rn.big l 0 with ⟨hp, hall⟩ | ⟨k, hk, hp, hkn, hfirst⟩
  · have hr : l.any Rn.big = false := by rw [List.any_eq_false]; intro x hx; simp [hall x hx]
    have HR := Lib.hid hr
    have HP := Lib.hid hp
    clear hr hp hall hf
    go_enter Try.func79, Try.ntmps79
    go_wp2_with fail
    refine K.out.mono ?_
    rintro e w1 ⟨rfl, q1⟩
    rw [HP.out]
    go_wp2
    go_ret
    exact ⟨ret_bool HR.out.symm, q1⟩
  · have hr : l.any Rn.big = true := List.any_eq_true.2 ⟨_, List.getElem_mem hk, hkn⟩
    have HR := Lib.hid hr
    have HP := Lib.hid (hp.trans (by simp : ((0 + k : Nat) : Int) = (k : Int)))
    clear hr hp hfirst hf hkn
    have h0 : (0 : Int) ≤ (k : Int) := by omega
    go_enter Try.func79, Try.ntmps79
    go_wp2_with fail
    refine K.out.mono ?_
    rintro e w1 ⟨rfl, q1⟩
    rw [HP.out]
    go_wp2
    go_ret
    exact ⟨ret_bool HR.out.symm, q1⟩

theorem mayBe_any (A : Option Addr) (n c : Nat) (l : List Pr) (w : World) (hf : Lst pairK w A n l) (hn : n ≤ maxLen) :
    Calls Try.prog 46 #[.slice A n c] w fun e w' => e = .returned (.bool (Rn.may l)) ∧ Q w w' := by
  have K := Lib.hid (right_any A n c l w hf hn)
  have HF := Lib.hid hf
  have HN := Lib.hid hn
  have hm : Rn.may l = (right l && !l.any Rn.big) := rfl
  have HM := Lib.hid hm
  clear hf hn hm
  generalize hr : right l = r at K HM
  have HR := Lib.hid hr
  clear hr
  cases r with
  | false =>
    go_enter Try.func46, Try.ntmps46
    go_wp2_with fail
    refine K.out.mono ?_
    rintro e w1 ⟨rfl, q1⟩
    go_wp2_with fail
    go_ret
    exact ⟨ret_bool (by rw [HM.out]; rfl), q1⟩
  | true =>
    go_enter Try.func46, Try.ntmps46
    go_wp2_with fail
    refine K.out.mono ?_
    rintro e w1 ⟨rfl, q1⟩
    go_wp2_with fail
    refine (containsLong A n c l _ (HF.out.q q1) HN.out).mono ?_
    rintro e w2 ⟨rfl, q2⟩
    generalize l.any Rn.big = b at HM
    cases b
    all_goals
      go_wp2_with fail
      go_ret
      exact ⟨ret_bool (by rw [HM.out]; rfl), q1.trans q2⟩
end Go.Proofs.Ytodfdklcioafmaa

/- The contract of run.takePairs. -/
namespace Go.Proofs.Ytodfdklcioafmaa
set_option maxRecDepth 100000
open Go.RowKit Prm
set_option linter.unusedVariables false
set_option linter.unusedSimpArgs false

/-- pairs, what stands behind them, and the errno. -/
def RetP (w : World) (x : List Pr × List UInt8 × Nat) (e : Ending) (w' : World) : Prop :=
  ∃ A c, e = .returned (.tuple #[.slice A x.1.length c, .string ⟨x.2.1.toArray⟩, .int .i64 (x.2.2 : Int)]) ∧ OwnK pairK w' w.heap.size A x.1.length c x.1 ∧ Q w w'

theorem tnum_nil (l : List UInt8) (h : (Dm.tnum l).2.2 ≠ 0) : Dm.tnum l = (0, [], (Dm.tnum l).2.2) := by
  unfold Dm.tnum at h ⊢
  split at h
  · rename_i a; rw [if_pos a]
  · rename_i a
    split at h
    · rename_i b; rw [if_neg a, if_pos b]
    · rename_i b
      split at h
      · rename_i c; rw [if_neg a, if_neg b, if_pos c]
      · simp at h
theorem ttext_nil (l : List UInt8) (m : Int) (h : (Dm.ttext l m).2.2 ≠ 0) : Dm.ttext l m = ([], [], (Dm.ttext l m).2.2) := by
  unfold Dm.ttext at h ⊢
  split at h
  · rename_i a; rw [if_pos a]
  · rename_i a
    split at h
    · rename_i b; rw [if_neg a, if_pos b]
    · rename_i b
      split at h
      · rename_i c; rw [if_neg a, if_neg b, if_pos c]
      · simp at h

/-- where takePairs stands behind k pairs. -/
def TpS (w : World) (sz : Nat) (T : List Pr × List UInt8 × Nat) (v er : Nat) (k : Nat) (s6 s7 s8 : Value) (wr : World) : Prop :=
  ∃ (r : ByteArray) (acc : List Pr) (A : Option Addr) (c : Nat), s6 = .string r ∧ s7 = .int .i64 (er : Int) ∧ s8 = .slice A acc.length c ∧ OwnK pairK wr w.heap.size A acc.length c acc ∧ Q w wr ∧ 4 * acc.length + r.size ≤ sz ∧
    (k < v → er = 0) ∧ T = (if er ≠ 0 then (acc, r.data.toList, er) else Rn.tkp (v - k) r.data.toList acc)

theorem TpS.step {w wr w2 : World} {sz : Nat} {T : List Pr × List UInt8 × Nat} {v er k : Nat} {s6 s7 s8 : Value} (h : TpS w sz T v er k s6 s7 s8 wr) (q : Q wr w2) : TpS w sz T v er k s6 s7 s8 w2 := by
  obtain ⟨r, acc, A, c, h1, h2, h3, h4, h5, h6⟩ := h
  exact ⟨r, acc, A, c, h1, h2, h3, h4.q q, h5.trans q, h6⟩
theorem tkp_key {n : Nat} {r : List UInt8} {acc : List Pr} (h : (Dm.ttext r 65536).2.2 ≠ 0) : Rn.tkp (n + 1) r acc = (acc, [], (Dm.ttext r 65536).2.2) := by rw [Rn.tkp, if_pos h]
theorem tkp_val {n : Nat} {r : List UInt8} {acc : List Pr} (h1 : (Dm.ttext r 65536).2.2 = 0) (h : (Dm.ttext (Dm.ttext r 65536).2.1 65536).2.2 ≠ 0) : Rn.tkp (n + 1) r acc = (acc, [], (Dm.ttext (Dm.ttext r 65536).2.1 65536).2.2) := by
  rw [Rn.tkp, if_neg (by simpa using h1), if_pos h]
theorem tkp_both {n : Nat} {r : List UInt8} {acc : List Pr} (h1 : (Dm.ttext r 65536).2.2 = 0) (h : (Dm.ttext (Dm.ttext r 65536).2.1 65536).2.2 = 0) :
    Rn.tkp (n + 1) r acc = Rn.tkp n (Dm.ttext (Dm.ttext r 65536).2.1 65536).2.1 (acc ++ [⟨⟨(Dm.ttext r 65536).1.toArray⟩, ⟨(Dm.ttext (Dm.ttext r 65536).2.1 65536).1.toArray⟩⟩]) := by
  rw [Rn.tkp, if_neg (by simpa using h1), if_neg (by simpa using h)]

set_option maxHeartbeats 4000000 in
set_option maxRecDepth 100000 in
theorem takePairs_any (s : ByteArray) (w : World) (hs : s.size ≤ 8796093022208) :
    Calls Try.prog 53 #[.string s] w (RetP w (Rn.tkps s.data.toList)) := by
  have hcall := takeNum_any s w (by unfold maxLen; omega)
  have hlen := Dm.tnum_len s.data.toList
  have hle := Dm.tnum_le s.data.toList
  have herr := Dm.tnum_err s.data.toList
  have hnl := tnum_nil s.data.toList
  have hT : Rn.tkps s.data.toList = if (Dm.tnum s.data.toList).2.2 ≠ 0 then ([], [], (Dm.tnum s.data.toList).2.2) else Rn.tkp (Dm.tnum s.data.toList).1 (Dm.tnum s.data.toList).2.1 [] := rfl
  generalize Rn.tkps s.data.toList = T at hT ⊢
  generalize Dm.tnum s.data.toList = x at *
  obtain ⟨v, r0, er⟩ := x
  simp only at hlen hle herr hnl hT
  rw [Rn.size_data] at hlen
  obtain ⟨R, hR, hRs, hRl⟩ := bytes_of r0
  unfold tnR at hcall
  simp only at hcall
  rw [← hR] at hcall
  have HC := Lib.hid hcall
  have S0 := Lib.hid (show TpS w s.size T v er 0 (.string R) (.int .i64 (er : Int)) (.slice none 0 0) w from
    ⟨R, [], none, 0, rfl, rfl, rfl, OwnK.nil_ _ _ _, Q.refl _, by simp; omega, fun h => Classical.byContradiction fun hh => by
      have := hnl hh; simp only [Prod.mk.injEq] at this; omega, by
      rw [hT]
      by_cases hh : er = 0
      · rw [if_neg (by simpa using hh), if_neg (by simpa using hh), Nat.sub_zero, hRl]
      · rw [if_pos hh, if_pos hh]
        have := hnl hh; simp only [Prod.mk.injEq] at this
        rw [hRl, this.2.1]⟩)
  have hv1 : (v : Int) ≤ 18446744073709551615 := by unfold Dm.maxU at hle; omega
  clear hcall hT hnl hRl hR hRs hlen hle herr
  go_enter Try.func53, Try.ntmps53
  go_wp2_with fail
  go_step3
  go_wp2_with fail
  refine HC.out.mono ?_
  rintro e w1 ⟨rfl, q1⟩
  go_wp2_with fail
  go_step3
  go_wp2
  have S1 := Lib.hid (S0.out.step q1)
  clear S0 q1
  go_loopg [6, 7, 8, 18] v (fun g s6 s7 s8 s18 wr => ∃ k : Nat, k + g = v ∧ s18 = .int .u64 k ∧ TpS w s.size T v er k s6 s7 s8 wr)
  case atStart => exact ⟨0, by omega, rfl, S1.out⟩
  case round =>
    obtain ⟨k, hkg, rfl, r, acc, A, c, rfl, rfl, rfl, o1, q1, hsz, her, hT⟩ := hrel
    obtain ⟨wo, rfl⟩ : ∃ x, x = wr := ⟨_, rfl⟩
    have HO := Lib.hid o1
    have HQ := Lib.hid q1
    have HT := Lib.hid hT
    clear o1 q1 hT S1 HC
    by_cases hlt : k < v
    · obtain ⟨g, rfl⟩ : ∃ g, gk = g + 1 := ⟨gk - 1, by omega⟩
      have h0 := her hlt
      subst h0
      have hkv : (k : Int) < (v : Int) := by omega
      obtain ⟨m, hm⟩ : ∃ m, v - k = m + 1 := ⟨v - k - 1, by omega⟩
      have hT := HT.out
      rw [if_neg (by simp), hm] at hT
      have hm2 : m = v - (k + 1) := by omega
      have K1 := fun W => takeText_any r 65536 W (by unfold maxLen; omega) (by omega) (by omega)
      have l1 := ttext_len r.data.toList 65536
      have t1 := Rn.ttext_takes r.data.toList 65536
      rw [Rn.size_data] at l1 t1
      have n1 := ttext_nil r.data.toList 65536
      have a1 := fun h => tkp_key (n := m) (r := r.data.toList) (acc := acc) h
      have a2 := fun h h2 => tkp_val (n := m) (r := r.data.toList) (acc := acc) h h2
      have a3 := fun h h2 => tkp_both (n := m) (r := r.data.toList) (acc := acc) h h2
      generalize Dm.ttext r.data.toList 65536 = x1 at K1 l1 t1 n1 a1 a2 a3
      obtain ⟨k1, r1, e1⟩ := x1
      simp only at l1 t1 n1 a1 a2 a3
      obtain ⟨KB, hKB, hKBs, hKBl⟩ := bytes_of k1
      obtain ⟨RB, hRB, hRBs, hRBl⟩ := bytes_of r1
      unfold ttR at K1
      simp only at K1
      rw [← hKB, ← hRB] at K1
      by_cases c1 : e1 = 0
      · subst c1
        have K2 := fun W => takeText_any RB 65536 W (by unfold maxLen; omega) (by omega) (by omega)
        have l2 := ttext_len r1 65536
        have t2 := Rn.ttext_takes r1 65536
        have n2 := ttext_nil r1 65536
        have t1' := t1 rfl
        have a2' := a2 rfl
        have a3' := a3 rfl
        rw [hRBl] at K2
        generalize Dm.ttext r1 65536 = x2 at K2 l2 t2 n2 a2' a3'
        obtain ⟨k2, r2, e2⟩ := x2
        simp only at l2 t2 n2 a2' a3'
        obtain ⟨VB, hVB, hVBs, hVBl⟩ := bytes_of k2
        obtain ⟨SB, hSB, hSBs, hSBl⟩ := bytes_of r2
        unfold ttR at K2
        simp only at K2
        rw [← hVB, ← hSB] at K2
        rw [← hKB, ← hVB] at a3'
        have HKK := Lib.hid K1
        have HK2 := Lib.hid K2
        have hz0 : ((0 : Int) != 0) = false := by decide
        clear K1 K2 n1 a1 a2 a3 t1 l1 hKB hKBs hKBl hRB hVB hVBs hVBl
        have X0 := Lib.hid (Bx.new wo [.string ⟨#[]⟩, .string ⟨#[]⟩] 126)
        by_cases c2 : e2 = 0
        · subst c2
          have HA := Lib.hid (hT.trans (a3' rfl))
          have t2' := t2 rfl
          have HM := Lib.hid hm2
          have HSl := Lib.hid hSBl
          have hss : 4 * (acc.length + 1) + SB.size ≤ s.size := by rw [hSBs]; omega
          have HSS := Lib.hid hss
          have hap : (acc.length + 1) * 32 ≤ 140737488355328 := by omega
          have HAp := Lib.hid hap
          clear hT n2 t2 a2' a3' hSB hSBs hSBl hRBs hRBl t1' l2 hm hm2 t2' hsz hss hap
          go_wp2_with fail
          go_loopw [6, 7, 20] (fun s6 s7 s20 wx => s7 = .int .i64 0 ∧ Q wo wx ∧ ((s6 = .string r ∧ s20 = .int .i64 0 ∧ Bx wx wo.heap.size [.string ⟨#[]⟩, .string ⟨#[]⟩]) ∨ (s6 = .string RB ∧ s20 = .int .i64 1 ∧ Bx wx wo.heap.size [.string KB, .string ⟨#[]⟩]) ∨ (s6 = .string SB ∧ s20 = .int .i64 2 ∧ Bx wx wo.heap.size [.string KB, .string VB]))) (fun _ _ s20 _ => (2 - intOf s20).toNat)
          case atStart => exact ⟨rfl, (Q.refl _).alloc _, .inl ⟨rfl, rfl, X0.out⟩⟩
          case round =>
            obtain ⟨rfl, q2, ⟨rfl, rfl, x2⟩ | ⟨rfl, rfl, x2⟩ | ⟨rfl, rfl, x2⟩⟩ := hrel
            · have Q2 := Lib.hid q2
              have X2 := Lib.hid x2
              clear q2 x2
              go_wp2_with fail
              refine (HKK.out _).mono ?_
              rintro e w3 ⟨rfl, q3⟩
              obtain ⟨b0, g0⟩ := (X2.out.q q3) 0 _ rfl
              have X3 := Lib.hid ((X2.out.q q3).set (k := 0) (by simp) (.string KB))
              have Q3 := Lib.hid ((Q2.out.trans q3).setCell (p := ⟨wo.heap.size, 0, none⟩) (Nat.le_refl _) (.string KB))
              clear q3 X2 Q2
              go_wp2_with fail
              go_roundw
              case rel => exact ⟨rfl, Q3.out, .inr (.inl ⟨rfl, rfl, X3.out⟩)⟩
              case measure => simp [intOf]
            · have Q2 := Lib.hid q2
              have X2 := Lib.hid x2
              clear q2 x2
              go_wp2_with fail
              refine (HK2.out _).mono ?_
              rintro e w3 ⟨rfl, q3⟩
              obtain ⟨b0, g0⟩ := (X2.out.q q3) 1 _ rfl
              have X3 := Lib.hid ((X2.out.q q3).set (k := 1) (by simp) (.string VB))
              have Q3 := Lib.hid ((Q2.out.trans q3).setCell (p := ⟨wo.heap.size, 1, none⟩) (Nat.le_refl _) (.string VB))
              clear q3 X2 Q2
              go_wp2_with fail
              go_roundw
              case rel => exact ⟨rfl, Q3.out, .inr (.inr ⟨rfl, rfl, X3.out⟩)⟩
              case measure => simp [intOf]
            · have Q2 := Lib.hid q2
              obtain ⟨b0, _⟩ := x2 0 _ rfl
              obtain ⟨b1, _⟩ := x2 1 _ rfl
              clear q2 x2
              go_wp2_with (at_builtin
                           refine wpl_appK pairK rfl (.tmp 34) (.tmp 40) 31 rfl rfl w.heap.size A acc.length c acc rfl ((HO.out.q Q2.out).alloc _) (some ⟨wr.heap.size, 0, none⟩) 1 1 [⟨KB, VB⟩] rfl (by have := lit_pair wr ⟨KB, VB⟩; simpa using this) (fun e => by cases e) HAp.out (by have := HQ.out.size; have := Q2.out.size; simp; omega) ?_
                           intro A5 c5 w5 o5 b5
                           have S5 := Lib.hid (show TpS w s.size T v 0 (k + 1) (.string SB) (.int .i64 0) (.slice A5 (acc.length + 1) c5) w5 from ⟨SB, acc ++ [⟨KB, VB⟩], A5, c5, rfl, rfl, by rw [List.length_append]; rfl, by rw [List.length_append]; exact o5, ((HQ.out.trans Q2.out).alloc _).below.trans b5, by rw [List.length_append]; exact HSS.out, fun _ => rfl, by rw [if_neg (by simp), HSl.out, ← HM.out]; exact HA.out⟩)
                           clear o5 b5)
              go_roundg g
              case measure => omega
              case rel => exact ⟨k + 1, by omega, by go_num, S5.out⟩
        · have HA := Lib.hid (hT.trans (a2' c2))
          have hr2 := n2 c2
          simp only [Prod.mk.injEq, and_true] at hr2
          have hne : ((e2 : Int) != 0) = true := by simp; omega
          have HRe := Lib.hid (show SB = ⟨#[]⟩ by rw [hSB, hr2.2])
          clear hT n2 t2 a2' a3' hSB hSBs hSBl hRBs hRBl hr2 t1' l2 c2 hm hm2
          go_wp2_with fail
          go_loopw [6, 7, 20] (fun s6 s7 s20 wx => s7 = .int .i64 0 ∧ Q wo wx ∧ ((s6 = .string r ∧ s20 = .int .i64 0 ∧ Bx wx wo.heap.size [.string ⟨#[]⟩, .string ⟨#[]⟩]) ∨ (s6 = .string RB ∧ s20 = .int .i64 1 ∧ Bx wx wo.heap.size [.string KB, .string ⟨#[]⟩]))) (fun _ _ s20 _ => (2 - intOf s20).toNat)
          case atStart => exact ⟨rfl, (Q.refl _).alloc _, .inl ⟨rfl, rfl, X0.out⟩⟩
          case round =>
            obtain ⟨rfl, q2, ⟨rfl, rfl, x2⟩ | ⟨rfl, rfl, x2⟩⟩ := hrel
            · have Q2 := Lib.hid q2
              have X2 := Lib.hid x2
              clear q2 x2
              go_wp2_with fail
              refine (HKK.out _).mono ?_
              rintro e w3 ⟨rfl, q3⟩
              obtain ⟨b0, g0⟩ := (X2.out.q q3) 0 _ rfl
              have X3 := Lib.hid ((X2.out.q q3).set (k := 0) (by simp) (.string KB))
              have Q3 := Lib.hid ((Q2.out.trans q3).setCell (p := ⟨wo.heap.size, 0, none⟩) (Nat.le_refl _) (.string KB))
              clear q3 X2 Q2
              go_wp2_with fail
              go_roundw
              case rel => exact ⟨rfl, Q3.out, .inr ⟨rfl, rfl, X3.out⟩⟩
              case measure => simp [intOf]
            · have Q2 := Lib.hid q2
              have X2 := Lib.hid x2
              clear q2 x2
              go_wp2_with fail
              refine (HK2.out _).mono ?_
              rintro e w3 ⟨rfl, q3⟩
              obtain ⟨b0, g0⟩ := (X2.out.q q3) 1 _ rfl
              have Q3 := Lib.hid (Q2.out.trans q3)
              clear q3
              go_wp2_with fail
              (try rw [Exit.noGoto_ret])
              go_ret3
              rw [HA.out]
              exact ⟨A, c, by rw [HRe.out]; rfl, HO.out.q (Q3.out.setCell (p := ⟨wo.heap.size, 1, none⟩) (Nat.le_refl _) _), HQ.out.trans (Q3.out.setCell (p := ⟨wo.heap.size, 1, none⟩) (Nat.le_refl _) _)⟩
      · have HA := Lib.hid (hT.trans (a1 c1))
        have hr1 := n1 c1
        simp only [Prod.mk.injEq, and_true] at hr1
        have HKK := Lib.hid K1
        have hne : ((e1 : Int) != 0) = true := by simp; omega
        have hRe : RB = ⟨#[]⟩ := by rw [hRB, hr1.2]
        have HRe := Lib.hid hRe
        clear hT K1 n1 a1 a2 a3 hKB hKBs hKBl hRB hRBs hRBl hr1 t1 l1 hRe c1 hm hm2
        have X0 := Lib.hid (Bx.new wo [.string ⟨#[]⟩, .string ⟨#[]⟩] 126)
        go_wp2_with fail
        go_loopw [6, 7, 20] (fun s6 s7 s20 wx => s6 = .string r ∧ s7 = .int .i64 0 ∧ s20 = .int .i64 0 ∧ Q wo wx ∧ Bx wx wo.heap.size [.string ⟨#[]⟩, .string ⟨#[]⟩]) (fun _ _ _ _ => 0)
        case atStart => exact ⟨rfl, rfl, rfl, (Q.refl _).alloc _, X0.out⟩
        case round =>
          obtain ⟨rfl, rfl, rfl, q2, x2⟩ := hrel
          have Q2 := Lib.hid q2
          have X2 := Lib.hid x2
          clear q2 x2
          go_wp2_with fail
          refine (HKK.out _).mono ?_
          rintro e w3 ⟨rfl, q3⟩
          obtain ⟨b0, g0⟩ := (X2.out.q q3) 0 _ rfl
          have Q3 := Lib.hid (Q2.out.trans q3)
          clear q3
          go_wp2_with fail
          (try rw [Exit.noGoto_ret])
          go_ret3
          rw [HA.out]
          exact ⟨A, c, by rw [HRe.out]; rfl, HO.out.q (Q3.out.setCell (p := ⟨wo.heap.size, 0, none⟩) (Nat.le_refl _) _), HQ.out.trans (Q3.out.setCell (p := ⟨wo.heap.size, 0, none⟩) (Nat.le_refl _) _)⟩
    · have hkm : k = v := by omega
      have HE := Lib.hid (show T = (acc, r.data.toList, er) by
        rw [HT.out]
        by_cases hh : er = 0
        · rw [if_neg (by simpa using hh), show v - k = 0 by omega, hh]; rfl
        · rw [if_pos hh])
      clear hkm
      go_wp2
      try rw [Exit.noGoto_ret]
      go_ret3
      rw [HE.out]
      exact ⟨A, c, by simp, HO.out, HQ.out⟩
end Go.Proofs.Ytodfdklcioafmaa

/- Contracts of the document's own TakeNum, TakeText. -/
namespace Go.Proofs.Ytodfdklcioafmaa
set_option maxRecDepth 100000
open Go.RowKit
set_option linter.unusedVariables false

/-- how the figures end. -/
theorem figs_end (l : List UInt8) : (Dm.figs l).length = l.length ∨ ∃ h : (Dm.figs l).length < l.length, Dm.isD (l[(Dm.figs l).length]) = false := by
  rcases Nat.lt_or_ge (Dm.figs l).length l.length with h | h
  · right
    refine ⟨h, ?_⟩
    have hr : Dm.rest l = l[(Dm.figs l).length] :: l.drop ((Dm.figs l).length + 1) := by rw [Dm.rest_eq, List.drop_eq_getElem_cons h]
    have hne : Dm.rest l ≠ [] := by rw [hr]; exact List.cons_ne_nil _ _
    have := List.head_dropWhile_not Dm.isD hne
    have e : (List.dropWhile Dm.isD l).head hne = l[(Dm.figs l).length] := by
      show (Dm.rest l).head hne = _
      simp only [hr, List.head_cons]
    rw [e] at this
    simpa using this
  · left; have := Dm.figs_len l; omega
theorem figs_get (l : List UInt8) (i : Nat) (h : i < (Dm.figs l).length) (h' : i < l.length) : Dm.isD l[i] = true := by
  have := Dm.figs_all l _ (List.getElem_mem h)
  have e := Dm.figs_eq l
  have e2 : (Dm.figs l)[i] = l[i] := by
    have : (Dm.figs l)[i]? = (l.take (Dm.figs l).length)[i]? := by rw [← e]
    rw [List.getElem?_take, if_pos h, List.getElem?_eq_getElem h, List.getElem?_eq_getElem h'] at this
    injection this
  rw [← e2]; exact this
theorem bad_long (l : List UInt8) (h : 20 < (Dm.figs l).length) : Dm.bad l = true := by
  cases hl : l with
  | nil => rw [hl] at h; simp [Dm.figs] at h
  | cons c r =>
    rw [← hl]
    have hh : l.head? = some c := by rw [hl]; rfl
    by_cases h0 : c.toNat = 48
    · have hc : c = 48 := UInt8.toNat_inj.1 (by rw [h0]; rfl)
      unfold Dm.bad; rw [decide_eq_true (show 1 < (Dm.figs l).length by omega), hh, hc]; rfl
    · have hl0 : 0 < l.length := by rw [hl]; simp
      have hd := figs_get l 0 (by omega) hl0
      have e : l[0] = c := by simp [hl]
      rw [e] at hd
      cases hf : Dm.figs l with
      | nil => rw [hf] at h; simp at h
      | cons c2 r2 =>
        have hc2 : c2 = c := by
          have := Dm.figs_rest l
          rw [hf, hl] at this
          simp at this; exact this.1
        have := Dm.val_big (Dm.figs l) c2 r2 hf (by rw [hc2]; exact hd) (by rw [hc2]; exact h0) h
        unfold Dm.bad; rw [decide_eq_true this, Bool.or_true]
theorem bad_lead (l : List UInt8) (h : 1 < (Dm.figs l).length) (h0 : l.head? = some 48) : Dm.bad l = true := by
  unfold Dm.bad; rw [decide_eq_true h, h0]; rfl
theorem tnum_bad (l : List UInt8) (h : Dm.bad l = true) : Dm.tnum l = (0, [], 3) := by unfold Dm.tnum; rw [if_pos h]

theorem tnum_more (l : List UInt8) (hb : Dm.bad l = false) (h : (Dm.figs l).length = l.length) : Dm.tnum l = (0, [], 2) := by
  unfold Dm.tnum
  rw [hb, if_neg (by simp), if_pos (by rw [Dm.rest_eq, h, List.drop_length])]
theorem rest_cons (l : List UInt8) (h : (Dm.figs l).length < l.length) : Dm.rest l = l[(Dm.figs l).length] :: l.drop ((Dm.figs l).length + 1) := by
  rw [Dm.rest_eq, List.drop_eq_getElem_cons h]
theorem tnum_other (l : List UInt8) (hb : Dm.bad l = false) (h : (Dm.figs l).length < l.length) (hc : l[(Dm.figs l).length] ≠ 59 ∨ (Dm.figs l).length = 0) : Dm.tnum l = (0, [], 3) := by
  unfold Dm.tnum
  rw [hb, if_neg (by simp), rest_cons l h, if_neg (List.cons_ne_nil _ _), if_pos]
  rcases hc with hc | hc
  · left; rw [List.head?_cons]; intro e; injection e with e; exact hc e
  · right; exact List.length_eq_zero_iff.1 hc
theorem tnum_ok (l : List UInt8) (hb : Dm.bad l = false) (h : (Dm.figs l).length < l.length) (hc : l[(Dm.figs l).length] = 59) (h0 : (Dm.figs l).length ≠ 0) :
    Dm.tnum l = (Dm.val (Dm.figs l), l.drop ((Dm.figs l).length + 1), 0) := by
  unfold Dm.tnum
  rw [hb, if_neg (by simp), rest_cons l h, if_neg (List.cons_ne_nil _ _), if_neg]
  · rfl
  · rintro (e | e)
    · simp [hc] at e
    · exact h0 (List.length_eq_zero_iff.2 e)

set_option maxHeartbeats 1000000 in
theorem refTakeNum_any (s : ByteArray) (w : World) (hs : s.size ≤ maxLen) :
    Calls Try.prog 69 #[.string s] w fun e w' => e = .returned (tnR (Dm.tnum s.data.toList)) ∧ Q w w' := by
  unfold maxLen at hs
  have hend0 := figs_end s.data.toList
  have hle : (Dm.figs s.data.toList).length ≤ s.size := by have := Dm.figs_len s.data.toList; rw [size_list] at this; exact this
  have hget := figs_get s.data.toList
  have hfe := Dm.figs_eq s.data.toList
  have hbl := bad_long s.data.toList
  have hbz := bad_lead s.data.toList
  have hbb := tnum_bad s.data.toList
  have hrest := Dm.rest_eq s.data.toList
  have hnil : Dm.figs s.data.toList = [] ↔ (Dm.figs s.data.toList).length = 0 := List.length_eq_zero_iff.symm
  obtain ⟨N, hN⟩ : ∃ N, N = (Dm.figs s.data.toList).length := ⟨_, rfl⟩
  rw [← hN] at hle hget hbl hbz hrest hnil
  have hdig : ∀ i (h : i < N) (h' : i < s.size), 48 ≤ s[i].toNat ∧ s[i].toNat ≤ 57 := by
    intro i h h'
    have := hget i h (by rw [size_list]; exact h')
    rw [get_list, Dm.isD_iff] at this; exact this
  have hend : s.size ≤ N ∨ (∃ h : N < s.size, s[N].toNat < 48) ∨ (∃ h : N < s.size, 57 < s[N].toNat) := by
    rcases hend0 with h | ⟨h, h2⟩
    · left; rw [hN, h, size_list]; exact Nat.le_refl _
    · right
      have h3 : N < s.size := by rw [hN]; rw [size_list] at h; exact h
      have h4 : Dm.isD s[N] = false := by
        have : s[N] = s.data.toList[(Dm.figs s.data.toList).length] := by simp only [hN]; rfl
        rw [this]; exact h2
      unfold Dm.isD at h4
      simp only [Bool.and_eq_false_iff, decide_eq_false_iff_not] at h4
      rcases h4 with h4 | h4
      · left; exact ⟨h3, by omega⟩
      · right; exact ⟨h3, by omega⟩
  have HDIG := Lib.hid hdig
  have HFE := Lib.hid hfe
  have HNIL := Lib.hid hnil
  have HREST := Lib.hid hrest
  have HBB := Lib.hid hbb
  have HN := Lib.hid hN
  clear hend0 hget hfe hdig hnil hrest hbb
  by_cases cL : 20 < N ∨ (1 < N ∧ ∃ h : 0 < s.size, s[0].toNat = 48)
  · have hbad : Dm.bad s.data.toList = true := by
      rcases cL with h | ⟨h, h1, h2⟩
      · exact hbl h
      · exact hbz h (by rw [head_list s h1]; congr 1; exact UInt8.toNat_inj.1 (by rw [h2]; rfl))
    have ht := HBB.out hbad
    have HT := Lib.hid ht
    have CL := Lib.hid cL
    clear ht hbl hbz cL hbad hN
    rcases hend with hend | ⟨hlt, hend⟩ | ⟨hlt, hend⟩
    all_goals
      go_enter Try.func69, Try.ntmps69
      go_wp2
      go_loop [5] (fun n => ∃ k : Nat, k ≤ N ∧ n = .int .i64 k) (fun n => N - (intOf n).toNat)
      case atStart => exact ⟨0, Nat.zero_le _, rfl⟩
      case round =>
        obtain ⟨k, hk, rfl⟩ := hrel
        by_cases c : k < N
        · have hks : k < s.size := by omega
          obtain ⟨d1, d2⟩ := HDIG.out k c hks
          go_wp2
          go_round
          case rel => exact ⟨k + 1, by omega, by go_num⟩
          case measure => simp [intOf]; omega
        · obtain rfl : k = N := by omega
          by_cases cN : 20 < k
          · have dN : decide (20 < (k : Int)) = true := by simp; omega
            go_wp2
            go_ret3
            exact ⟨by rw [HT.out]; rfl, Q.refl _⟩
          · have h1 : 1 < k := by have := CL.out; omega
            have h0s : 0 < s.size := by omega
            have hb : ((s[0].toNat : Int) == 48) = true := by
              rcases CL.out with h | ⟨_, _, h⟩
              · omega
              · simp; omega
            go_wp2
            go_ret3
            exact ⟨by rw [HT.out]; rfl, Q.refl _⟩
  have cN : N ≤ 20 := by
    rcases Nat.lt_or_ge 20 N with h | h
    · exact absurd (.inl h) cL
    · exact h
  have hz : 1 < N → ∀ h : 0 < s.size, ((s[0].toNat : Int) == 48) = false := by
    intro h1 h2
    have : ¬ s[0].toNat = 48 := fun e => cL (.inr ⟨h1, h2, e⟩)
    simp; omega
  have HZ := Lib.hid hz
  have dN : decide (20 < (N : Int)) = false := by simp; omega
  have hvl : Dm.val (s.data.toList.take N) = Dm.val (Dm.figs s.data.toList) := by rw [HN.out]; rw [← HFE.out]
  have HVL := Lib.hid hvl
  have hmono : ∀ k, k < N → Dm.maxU < Dm.val (s.data.toList.take (k + 1)) → Dm.tnum s.data.toList = (0, [], 3) := by
    intro k hk h
    apply HBB.out
    refine Dm.bad_big s.data.toList k (by rw [size_list]; omega) ?_ h
    intro i hi
    rw [get_list, Dm.isD_iff]; exact HDIG.out i (by omega) (by omega)
  have HM := Lib.hid hmono
  have hgood : Dm.val (Dm.figs s.data.toList) ≤ Dm.maxU → Dm.bad s.data.toList = false := by
    intro h
    refine Dm.bad_not s.data.toList N (by rw [HN.out]; exact HFE.out) (by rw [size_list]; exact hle) ?_ (by rw [hvl]; exact h)
    intro h1 e
    have h2 : 0 < s.size := by omega
    rw [head_list s h2] at e
    injection e with e
    have := hz h1 h2
    rw [e] at this
    exact absurd this (by decide)
  have HG := Lib.hid hgood
  clear hbl hbz cL hz hN hvl hmono hgood
  rcases hend with hend | ⟨hlt, hend⟩ | ⟨hlt, hend⟩
  all_goals
    go_enter Try.func69, Try.ntmps69
    go_wp2
    go_loop [5] (fun n => ∃ k : Nat, k ≤ N ∧ n = .int .i64 k) (fun n => N - (intOf n).toNat)
    case atStart => exact ⟨0, Nat.zero_le _, rfl⟩
    case round =>
      obtain ⟨k, hk, rfl⟩ := hrel
      by_cases c : k < N
      · have hks : k < s.size := by omega
        obtain ⟨d1, d2⟩ := HDIG.out k c hks
        go_wp2
        go_round
        case rel => exact ⟨k + 1, by omega, by go_num⟩
        case measure => simp [intOf]; omega
      · obtain rfl : k = N := by omega
        have hcase : k ≤ 1 ∨ (1 < k ∧ ∃ h : 0 < s.size, ((s[0].toNat : Int) == 48) = false) := by
          rcases Nat.lt_or_ge 1 k with h | h
          · exact .inr ⟨h, by omega, HZ.out h (by omega)⟩
          · exact .inl h
        rcases hcase with h1 | ⟨h1, h0s, hb0⟩
        all_goals
          go_wp2
          go_loop [6, 7] (fun v i => ∃ j : Nat, j ≤ k ∧ i = .int .i64 j ∧ v = .int .u64 (Dm.val (s.data.toList.take j)) ∧ Dm.val (s.data.toList.take j) ≤ Dm.maxU) (fun _ i => k - (intOf i).toNat)
          case atStart => exact ⟨0, Nat.zero_le _, rfl, rfl, Nat.zero_le _⟩
          case round =>
            obtain ⟨j, hj, rfl, rfl, hv⟩ := hrel
            by_cases c2 : j < k
            · have hjs : j < s.size := by omega
              obtain ⟨d1, d2⟩ := HDIG.out j c2 hjs
              have e1 := Dm.val_snoc (s.data.toList.take j) s[j]
              rw [← take_snoc' s j hjs] at e1
              have hov := HM.out j c2
              generalize hA : Dm.val (s.data.toList.take j) = A at *
              rw [e1] at hov
              have hdv : Dm.dv s[j] = s[j].toNat - 48 := rfl
              rw [hdv] at e1 hov
              have H1 := Lib.hid e1
              have HO := Lib.hid hov
              unfold Dm.maxU at hv
              clear e1 hov hdv hA
              by_cases c3 : 1844674407370955161 < A
              · have HT := Lib.hid (HO.out (by unfold Dm.maxU; omega))
                have c3' : decide ((1844674407370955161 : Int) < (A : Int)) = true := by simp; omega
                go_wp2
                go_ret3
                exact ⟨by rw [HT.out]; rfl, Q.refl _⟩
              have c3' : decide ((1844674407370955161 : Int) < (A : Int)) = false := by simp; omega
              by_cases c4 : A = 1844674407370955161
              · have c4' : ((A : Int) == 1844674407370955161) = true := by simp; omega
                by_cases c5 : 53 < s[j].toNat
                · have HT := Lib.hid (HO.out (by unfold Dm.maxU; omega))
                  clear c4
                  go_wp2
                  go_ret3
                  exact ⟨by rw [HT.out]; rfl, Q.refl _⟩
                · have c5' : s[j].toNat ≤ 53 := by omega
                  have hle2 : 10 * A + (s[j].toNat - 48) ≤ 18446744073709551615 := by omega
                  have hle3 : 10 * (A : Int) + ((s[j].toNat : Int) - 48) ≤ 18446744073709551615 := by omega
                  have HN2 := Lib.hid (show ((10 * A + (s[j].toNat - 48) : Nat) : Int) = 10 * (A : Int) + ((s[j].toNat : Int) - 48) by omega)
                  have HL2 := Lib.hid hle2
                  clear c4 hle2
                  go_wp2
                  go_round
                  case rel => exact ⟨j + 1, by omega, by go_num, by rw [H1.out, HN2.out], by rw [H1.out]; exact HL2.out⟩
                  case measure => simp [intOf]; omega
              · have c4' : ((A : Int) == 1844674407370955161) = false := by simp; omega
                have hle2 : 10 * A + (s[j].toNat - 48) ≤ 18446744073709551615 := by omega
                have hle3 : 10 * (A : Int) + ((s[j].toNat : Int) - 48) ≤ 18446744073709551615 := by omega
                have HN2 := Lib.hid (show ((10 * A + (s[j].toNat - 48) : Nat) : Int) = 10 * (A : Int) + ((s[j].toNat : Int) - 48) by omega)
                have HL2 := Lib.hid hle2
                clear c4 hle2
                go_wp2
                go_round
                case rel => exact ⟨j + 1, by omega, by go_num, by rw [H1.out, HN2.out], by rw [H1.out]; exact HL2.out⟩
                case measure => simp [intOf]; omega
            · obtain rfl : j = k := by omega
              have hg := HG.out (by rw [← HVL.out]; exact hv)
              by_cases c6 : j = s.size
              · have HT := Lib.hid (tnum_more s.data.toList hg (by rw [size_list, ← HN.out]; exact c6))
                have hbe : ((j : Int) == (s.size : Int)) = true := by simp; omega
                clear hg
                first
                  | (exfalso; omega)
                  | (clear c6
                     go_wp2
                     go_ret3
                     exact ⟨by rw [HT.out]; rfl, Q.refl _⟩)
              · have hbe : ((j : Int) == (s.size : Int)) = false := by simp; omega
                have hjs : j < s.size := by omega
                have hgt : s.data.toList[(Dm.figs s.data.toList).length]'(by rw [size_list, ← HN.out]; exact hjs) = s[j] := by
                  simp only [← HN.out]; rfl
                all_goals (try (exfalso; omega))
                all_goals
                  by_cases c7 : s[j].toNat = 59 ∧ j ≠ 0
                  · obtain ⟨c7, c8⟩ := c7
                    have ht := tnum_ok s.data.toList hg (by rw [size_list, ← HN.out]; exact hjs) (by rw [hgt]; exact UInt8.toNat_inj.1 (by rw [c7]; rfl)) (by rw [← HN.out]; exact c8)
                    rw [← HN.out, ← HVL.out] at ht
                    have he := extract_list s (j + 1) s.size
                    rw [List.take_of_length_le (by rw [size_list]; omega)] at he
                    have HT := Lib.hid ht
                    have HE := Lib.hid he
                    have hne : ((s[j].toNat : Int) != 59) = false := by simp; omega
                    have h0 : ((j : Int) == 0) = false := by simp; omega
                    have e1 : IntKind.i64.wrap ((j : Int) + 1) = (j : Int) + 1 := IntWalk.i64_in _ (by omega)
                    have e2 : 0 ≤ (j : Int) + 1 := by omega
                    have e3 : ((j : Int) + 1).toNat = j + 1 := by omega
                    have e4 : (j : Int) + 1 ≤ (s.size : Int) := by omega
                    clear ht he hg hgt c7 c8 c6 hend
                    generalize Dm.val (s.data.toList.take j) = A at *
                    go_wp2
                    go_quiet (fail)
                    go_wp2
                    go_ret3
                    refine ⟨?_, (Q.refl _).drewN _⟩
                    rw [HT.out]; unfold tnR
                    simp only [← HE.out]; rfl
                  · have HT := Lib.hid (tnum_other s.data.toList hg (by rw [size_list, ← HN.out]; exact hjs) (by
                      rw [hgt, ← HN.out]
                      rcases Nat.eq_zero_or_pos j with e | e
                      · exact .inr e
                      · left; intro e2; exact c7 ⟨by rw [e2]; rfl, by omega⟩))
                    have C7 := Lib.hid c7
                    clear hg hgt c7 c6
                    by_cases c8 : s[j].toNat = 59
                    · have hne : ((s[j].toNat : Int) != 59) = false := by simp; omega
                      have h0 : ((j : Int) == 0) = true := by have := C7.out; simp; omega
                      clear c8
                      go_wp2
                      go_ret3
                      exact ⟨by rw [HT.out]; rfl, Q.refl _⟩
                    · have hne : ((s[j].toNat : Int) != 59) = true := by simp; omega
                      clear c8
                      go_wp2
                      go_ret3
                      exact ⟨by rw [HT.out]; rfl, Q.refl _⟩
end Go.Proofs.Ytodfdklcioafmaa

/- The contract of the document's own TakeText. -/
namespace Go.Proofs.Ytodfdklcioafmaa
set_option maxRecDepth 100000
open Go.RowKit
set_option linter.unusedVariables false

set_option maxHeartbeats 400000 in
theorem refTakeText_any (s : ByteArray) (most : Int) (w : World) (hs : s.size ≤ maxLen) (hm0 : -9223372036854775808 ≤ most) (hm1 : most ≤ 9223372036854775807) :
    Calls Try.prog 70 #[.string s, .int .i64 most] w fun e w' => e = .returned (ttR (Dm.ttext s.data.toList most)) ∧ Q w w' := by
  have hlen := Dm.tnum_len s.data.toList
  have hle := Dm.tnum_le s.data.toList
  have hcall := refTakeNum_any s w hs
  have htx : Dm.ttext s.data.toList most = if (Dm.tnum s.data.toList).2.2 ≠ 0 then ([], [], (Dm.tnum s.data.toList).2.2) else if most < 0 ∨ most < ((Dm.tnum s.data.toList).1 : Int) then ([], [], 4) else if (Dm.tnum s.data.toList).2.1.length < (Dm.tnum s.data.toList).1 then ([], [], 2)
    else ((Dm.tnum s.data.toList).2.1.take (Dm.tnum s.data.toList).1, (Dm.tnum s.data.toList).2.1.drop (Dm.tnum s.data.toList).1, 0) := rfl
  have herr := Dm.tnum_err s.data.toList
  generalize Dm.tnum s.data.toList = x at *
  obtain ⟨n, r, er⟩ := x
  obtain ⟨R, hR⟩ : ∃ R : ByteArray, R = ⟨r.toArray⟩ := ⟨_, rfl⟩
  have hsz : R.size = r.length := by rw [hR]; show r.toArray.size = _; simp
  have hl : R.data.toList = r := by rw [hR]
  unfold tnR at hcall
  simp only at hlen hle hcall htx herr
  rw [← hR] at hcall
  have hRle : R.size ≤ s.size := by rw [hsz]; rw [size_list] at hlen; exact hlen
  unfold maxLen at hs
  unfold Dm.maxU at hle
  have HC := Lib.hid hcall
  have HT := Lib.hid htx
  have HSZ := Lib.hid hsz
  have HL := Lib.hid hl
  clear hcall htx hsz hl hR hlen
  by_cases c0 : er = 0
  · subst c0
    clear herr
    by_cases c1 : most < 0 ∨ most < (n : Int)
    · have ht : Dm.ttext s.data.toList most = ([], [], 4) := by rw [HT.out, if_neg (by simp), if_pos c1]
      have HT2 := Lib.hid ht
      have C1 := Lib.hid c1
      clear ht c1
      by_cases c3 : most < 0
      · have d3 : decide (most < 0) = true := by simpa using c3
        go_enter Try.func70, Try.ntmps70
        go_wp2_with fail
        refine HC.out.mono ?_
        rintro e w1 ⟨rfl, q1⟩
        go_wp2_with fail
        go_ret3
        exact ⟨by rw [HT2.out]; rfl, q1⟩
      · have c3' : 0 ≤ most := by omega
        have d3 : decide (most < 0) = false := by simpa using c3'
        have c4 : most < (n : Int) := by have := C1.out; omega
        clear c3
        go_enter Try.func70, Try.ntmps70
        go_wp2_with fail
        refine HC.out.mono ?_
        rintro e w1 ⟨rfl, q1⟩
        go_wp2_with fail
        go_ret3
        exact ⟨by rw [HT2.out]; rfl, q1⟩
    have c1' : 0 ≤ most := by omega
    have c1'' : (n : Int) ≤ most := by omega
    have d3 : decide (most < 0) = false := by simpa using c1'
    by_cases c2 : R.size < n
    · have ht : Dm.ttext s.data.toList most = ([], [], 2) := by rw [HT.out, if_neg (by simp), if_neg c1, if_pos (by rw [← HSZ.out]; exact c2)]
      have HT2 := Lib.hid ht
      clear ht c1
      go_enter Try.func70, Try.ntmps70
      go_wp2_with fail
      refine HC.out.mono ?_
      rintro e w1 ⟨rfl, q1⟩
      go_wp2_with fail
      go_ret3
      exact ⟨by rw [HT2.out]; rfl, q1⟩
    have c2' : n ≤ R.size := by omega
    have ht : Dm.ttext s.data.toList most = (r.take n, r.drop n, 0) := by rw [HT.out, if_neg (by simp), if_neg c1, if_neg (by rw [← HSZ.out]; exact c2)]
    have he1 := extract_list R 0 n
    have he2 := extract_list R n R.size
    rw [List.take_of_length_le (by rw [size_list]; omega), HL.out] at he2
    rw [HL.out, List.drop_zero] at he1
    have HT2 := Lib.hid ht
    have HE1 := Lib.hid he1
    have HE2 := Lib.hid he2
    have e4 : (n : Int) ≤ (R.size : Int) := by omega
    clear ht c1 c2 he1 he2
    go_enter Try.func70, Try.ntmps70
    go_wp2_with fail
    refine HC.out.mono ?_
    rintro e w1 ⟨rfl, q1⟩
    go_wp2_with fail
    go_quiet (fail)
    go_wp2_with fail
    go_ret3
    refine ⟨?_, q1.drewN _⟩
    rw [HT2.out]; unfold ttR
    simp only [← HE1.out, ← HE2.out]; rfl
  · have ht : Dm.ttext s.data.toList most = ([], [], er) := by rw [HT.out, if_pos c0]
    have HT2 := Lib.hid ht
    have hne : ((er : Int) != 0) = true := by simp; omega
    clear ht c0 herr
    go_enter Try.func70, Try.ntmps70
    go_wp2_with fail
    refine HC.out.mono ?_
    rintro e w1 ⟨rfl, q1⟩
    go_wp2_with fail
    go_ret3
    exact ⟨by rw [HT2.out]; rfl, q1⟩
end Go.Proofs.Ytodfdklcioafmaa

/- The contract of the document's own Open. -/
namespace Go.Proofs.Ytodfdklcioafmaa
set_option maxRecDepth 100000
open Go.RowKit
set_option linter.unusedVariables false

set_option maxHeartbeats 400000 in
theorem refOpen_any (f : ByteArray) (most : Int) (w : World) (hs : f.size ≤ maxLen) (hm0 : -9223372036854775808 ≤ most) (hm1 : most ≤ 9223372036854775807) :
    Calls Try.prog 68 #[.string f, .int .i64 most] w fun e w' => e = .returned (ttR (topen f.data.toList most)) ∧ Q w w' := by
  have hcall := refTakeText_any f most w hs hm0 hm1
  have hlen := ttext_len f.data.toList most
  have herr := ttext_err f.data.toList most
  rw [size_list] at hlen
  have htx : topen f.data.toList most = topen1 (Dm.ttext f.data.toList most) := rfl
  generalize topen f.data.toList most = out at *
  subst htx
  generalize Dm.ttext f.data.toList most = x at *
  obtain ⟨t, r, er⟩ := x
  obtain ⟨S, hS, hSs, hSl⟩ := bytes_of t
  obtain ⟨R, hR, hRs, hRl⟩ := bytes_of r
  unfold ttR at hcall
  simp only at hlen hcall herr
  rw [← hS, ← hR] at hcall
  rw [← hSs, ← hRs] at hlen
  obtain ⟨hl1, hl2⟩ := hlen
  have HC := Lib.hid hcall
  have HSL := Lib.hid hSl
  have HRL := Lib.hid hRl
  have HS := Lib.hid hS
  clear hcall hSl hRl hS hR hSs hRs
  by_cases c0 : er = 0
  · subst c0
    clear herr
    have ho : topen1 (t, r, 0) = topen2 t (Dm.tnum r) := by unfold topen1; rw [if_neg (by simp)]
    rw [ho]
    have hcall2 := fun W => refTakeNum_any R W (Nat.le_trans hl2 hs)
    have hle := Dm.tnum_le r
    have hlen := Dm.tnum_len r
    have herr := Dm.tnum_err r
    rw [HRL.out] at hcall2
    generalize Dm.tnum r = y at *
    obtain ⟨v, r2, er2⟩ := y
    obtain ⟨R2, hR2, hR2s, hR2l⟩ := bytes_of r2
    unfold tnR at hcall2
    simp only at hle hlen herr hcall2
    rw [← hR2] at hcall2
    have HR2 := Lib.hid hR2
    have HC2 := Lib.hid hcall2
    clear ho hcall2 hR2 hR2s hR2l hlen
    unfold Dm.maxU at hle
    by_cases c1 : er2 = 0
    · subst c1
      clear herr
      have hof := fun W => refOf_any S W (Nat.le_trans hl1 hs)
      rw [HSL.out] at hof
      have hr := Sm.adler_range t
      have HOF := Lib.hid hof
      clear hof
      unfold maxLen at hs
      by_cases c2 : (v : Int) = Sm.adler t
      · have hfin : topen2 t (v, r2, 0) = (t, r2, 0) := by unfold topen2; rw [if_neg (by simp), if_neg (by simpa using c2)]
        have hbn : ((v : Int) != Sm.adler t) = false := by simpa using c2
        have HF := Lib.hid hfin
        clear hfin c2
        generalize Sm.adler t = ad at *
        go_enter Try.func68, Try.ntmps68
        go_wp2_with fail
        refine HC.out.mono ?_
        rintro e w1 ⟨rfl, q1⟩
        go_wp2_with fail
        refine (HC2.out _).mono ?_
        rintro e w2 ⟨rfl, q2⟩
        go_wp2_with fail
        refine (HOF.out _).mono ?_
        rintro e w3 ⟨rfl, q3⟩
        go_wp2_with fail
        go_ret3
        refine ⟨?_, q1.trans (q2.trans q3)⟩
        rw [HF.out]; unfold ttR
        simp only [← HR2.out, ← HS.out]; rfl
      · have hfin : topen2 t (v, r2, 0) = ([], [], 10) := by unfold topen2; rw [if_neg (by simp), if_pos (by simpa using c2)]
        have hbn : ((v : Int) != Sm.adler t) = true := by simpa using c2
        have HF := Lib.hid hfin
        clear hfin c2
        generalize Sm.adler t = ad at *
        go_enter Try.func68, Try.ntmps68
        go_wp2_with fail
        refine HC.out.mono ?_
        rintro e w1 ⟨rfl, q1⟩
        go_wp2_with fail
        refine (HC2.out _).mono ?_
        rintro e w2 ⟨rfl, q2⟩
        go_wp2_with fail
        refine (HOF.out _).mono ?_
        rintro e w3 ⟨rfl, q3⟩
        go_wp2_with fail
        go_ret3
        exact ⟨by rw [HF.out]; rfl, q1.trans (q2.trans q3)⟩
    · have hfin : topen2 t (v, r2, er2) = ([], [], er2) := by unfold topen2; rw [if_pos c1]
      have hne : ((er2 : Int) != 0) = true := by simp; omega
      have HF := Lib.hid hfin
      clear hfin c1 herr
      go_enter Try.func68, Try.ntmps68
      go_wp2_with fail
      refine HC.out.mono ?_
      rintro e w1 ⟨rfl, q1⟩
      go_wp2_with fail
      refine (HC2.out _).mono ?_
      rintro e w2 ⟨rfl, q2⟩
      go_wp2_with fail
      go_ret3
      exact ⟨by rw [HF.out]; rfl, q1.trans q2⟩
  · have ho : topen1 (t, r, er) = ([], [], er) := by unfold topen1; rw [if_pos c0]
    have hne : ((er : Int) != 0) = true := by simp; omega
    have HF := Lib.hid ho
    clear ho c0 herr
    go_enter Try.func68, Try.ntmps68
    go_wp2_with fail
    refine HC.out.mono ?_
    rintro e w1 ⟨rfl, q1⟩
    go_wp2_with fail
    go_ret3
    exact ⟨by rw [HF.out]; rfl, q1⟩

end Go.Proofs.Ytodfdklcioafmaa
