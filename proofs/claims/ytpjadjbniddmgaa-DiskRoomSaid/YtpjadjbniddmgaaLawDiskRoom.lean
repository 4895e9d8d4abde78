/- For every room and every acts: room, and the bytes of all files, are together always the same. No condition. -/
import Derived.Test.YtpjadjbniddmgaaDiskVar
namespace Go.Proofs.Ytpjadjbniddmgaa.diskRoom
open Go.ChangeShapes Go.WideShapes Go.ChangeAt Go.RowKit Dkm
set_option linter.unusedVariables false

set_option maxHeartbeats 1000000 in
theorem walk_up (room : Int) (L : Option Addr) (n c : Nat) (w : World) (h : room < 0 ∨ 1048576 < room) :
    Calls Try.prog 5 #[.int .i64 room, .slice L n c] w fun e w' => e = .returned (.bool true) ∧ Q w w' := by
  rcases h with h | h
  case' inr => have h' : ¬ room < 0 := by omega
  all_goals
    go_enter Try.func5, Try.ntmps5
    go_wp2_with fail
    refine (shown_any _).mono ?_
    rintro e w1 ⟨rfl, q1⟩
    go_wp2
    go_ret
    exact ⟨rfl, q1⟩

/-- what holds of the disk at a round's head. -/
def Rl (w : World) (B : Nat) (room : Int) (wr : World) : Prop :=
  ∃ A n c d, DVA wr B A n c d ∧ Inv d ∧ 0 ≤ d.room ∧ tot d = room ∧ Q w wr

set_option maxHeartbeats 2000000 in
set_option maxRecDepth 100000 in
theorem walk_main (room : Int) (L : Option Addr) (n c : Nat) (l : List Ac) (w : World) (h0 : 0 ≤ room) (h1 : room ≤ 1048576) (hl : Acts w L n l) (hn : n ≤ 140737488351232) (hin : ∀ a ∈ l, AcIn a) :
    Calls Try.prog 5 #[.int .i64 room, .slice L n c] w fun e w' => e = .returned (.bool true) ∧ Q w w' := by
  have HL := Lib.hid hl
  have HN := Lib.hid hl.len
  have HI := Lib.hid hin
  clear hl hin
  have t0 : ¬ room < 0 := by omega
  have t1 : ¬ 1048576 < room := by omega
  go_enter Try.func5, Try.ntmps5
  go_wp2_with fail
  refine (shown_any _).mono ?_
  rintro e w1 ⟨rfl, q1⟩
  go_wp2_with fail
  refine (new_any room _ h0).mono ?_
  rintro e w2 ⟨rfl, q2⟩
  have V := Lib.hid (And.intro (DVA.mk (DV.new (W := w2) (d := ⟨[], room, -1, false⟩) (dsk_nil w2)) (fun ad e => by cases e)) ((q1.trans q2).alloc (.cells #[.slice none 0 0, .int .i64 room, .int .i64 (-1), .bool false] 24)))
  have zB : w.heap.size ≤ w2.heap.size := (q1.trans q2).size
  clear q1 q2
  go_wp2
  generalize (w2.alloc (.cells #[.slice none 0 0, .int .i64 room, .int .i64 (-1), .bool false] 24)) = W at V ⊢
  generalize w2.heap.size = B at V zB ⊢
  go_loopw [8] (fun i wr => ∃ k : Nat, k ≤ n ∧ k ≤ 300 ∧ i = .int .i64 k ∧ Rl w B room wr) (fun i _ => n - (intOf i).toNat)
  case atStart => exact ⟨0, Nat.zero_le _, by omega, rfl, none, 0, 0, ⟨[], room, -1, false⟩, V.out.1, Inv.new ⟨by omega, by omega⟩, h0, by simp [tot, sumF], V.out.2⟩
  case round =>
    obtain ⟨k, hk, hk3, rfl, A, m, cc, d, hv, hi, hr, ht, hq⟩ := hrel
    have HV := Lib.hid hv
    have HJ := Lib.hid (And.intro hi (And.intro hr (And.intro ht hq)))
    clear hv hi hr ht hq V
    by_cases hlt : k < n ∧ k < 300
    · obtain ⟨hlt, hlt3⟩ := hlt
      have hkl : k < l.length := by have := HN.out; omega
      obtain ⟨⟨e0, e1, e2, e3⟩, f0, f1, f2, f3⟩ := HV.out.dv.get
      obtain ⟨la, rfl, lb, l0, l1, l2, l3⟩ := (HL.out.q HJ.out.2.2.2).load hkl
      have q4 : (k : Int) < (n : Int) := by omega
      have q5 : 0 ≤ (k : Int) := by omega
      obtain ⟨a1, a2, a3⟩ := HI.out l[k] (List.getElem_mem hkl)
      have KK := Lib.hid (fun (W : World) (hW : Dsk W A m cc d.fs) => does_any l[k].kind l[k].num l[k].nm l[k].s A m cc d W hW (fun f hf => by have := HJ.out.1.sum f hf; omega) (by omega) HJ.out.1.room.2 HJ.out.1.fuse.2)
      have HT := Lib.hid (And.intro (does_tot d l[k].kind l[k].num l[k].nm l[k].s HJ.out.2.1 (by rw [HJ.out.2.2.1]; exact h1)) (HJ.out.1.does l[k].kind l[k].num l[k].nm l[k].s a1))
      generalize doesM d l[k].kind l[k].num l[k].nm l[k].s = r at KK HT
      obtain ⟨r, er⟩ := r
      clear a1 a2 a3
      go_upto_region 10 with (fail)
      go_cut [8] (fun s8 wx => s8 = .int .i64 k ∧ Cu w B r wx)
      case first =>
        go_region_with ((go_at_call 32
                         refine (KK.out _ (HV.out.dv.dsk.q (Q.refl _).drew)).mono ?_
                         rintro e w3 ⟨A3, n3, c3, rfl, d3, q3, a3⟩
                         obtain ⟨⟨x0, x1, x2, x3⟩, y0, y1, y2, y3⟩ := (HV.out.dv.q ((Q.refl _).drew.trans q3)).get))
        all_goals
          go_wp2_with fail
          go_meet
          exact ⟨rfl, A3, n3, c3, HV.out.put ((Q.refl wr).drew.trans q3) d3 a3, (HJ.out.2.2.2.trans ((Q.refl wr).drew.trans q3)).set4 zB _ _ _ _⟩
      case rest =>
        obtain ⟨rfl, A3, n3, c3, hv3, hq3⟩ := hcut
        have HV3 := Lib.hid hv3
        have HQ3 := Lib.hid hq3
        clear hv3 hq3 e0 e1 e2 e3 f0 f1 f2 f3 l0 l1 l2 l3 KK HV
        obtain ⟨⟨e0, e1, e2, e3⟩, _⟩ := HV3.out.dv.get
        have hn3 := HV3.out.dv.dsk.few
        have HL3 := Lib.hid HV3.out.dv.dsk.len
        have hrr := HT.out.1.2
        have htt : r.room + sumF r.fs = room := HT.out.1.1.trans HJ.out.2.2.1
        have HTT := Lib.hid htt
        have hle : r.room ≤ 1048576 := by omega
        clear htt
        obtain ⟨wo, rfl⟩ : ∃ wo : World, wo = wr := ⟨_, rfl⟩
        go_wp2
        go_loopw [9, 10] (fun s i wy => ∃ j : Nat, j ≤ n3 ∧ i = .int .i64 j ∧ s = .int .i64 (r.room + sumF (r.fs.take j)) ∧ Q wc wy) (fun _ i _ => n3 - (intOf i).toNat)
        case atStart => exact ⟨0, Nat.zero_le _, rfl, by simp [sumF], Q.refl _⟩
        case round =>
          obtain ⟨j, hj, rfl, rfl, hqy⟩ := hrel
          have HQY := Lib.hid hqy
          clear hqy
          have V := HV3.out.q HQY.out
          clear e0 e1 e2 e3
          obtain ⟨⟨e0, e1, e2, e3⟩, _⟩ := V.dv.get
          have hsl := sum_take_le r.fs j
          by_cases hjl : j < n3
          · have hjr : j < r.fs.length := by have := HL3.out; omega
            obtain ⟨ad, rfl, hb, c0, c1, c2⟩ := V.dv.dsk.files.load hjl hjr
            have hst := sum_take hjr
            have hsl2 := sum_take_le r.fs (j + 1)
            have hsz : siz r.fs[j] = r.fs[j].sf.size + r.fs[j].wt.size := rfl
            have HST := Lib.hid (And.intro hst hsz)
            have g1 : 0 ≤ r.room + (sumF (r.fs.take j) : Int) := by omega
            have g2 : r.room + (sumF (r.fs.take j) : Int) + (r.fs[j].sf.size : Int) ≤ 1048576 := by have := HTT.out; omega
            have g3 : r.room + (sumF (r.fs.take j) : Int) + (r.fs[j].sf.size : Int) + (r.fs[j].wt.size : Int) ≤ 1048576 := by have := HTT.out; omega
            clear hst hsz V
            have q6 : (j : Int) < (n3 : Int) := by omega
            have q7 : 0 ≤ (j : Int) := by omega
            go_wp2
            go_quiet (fail)
            go_wp2
            exact ⟨⟨j + 1, by omega, by go_num, congrArg (Value.int .i64) (by rw [HST.out.1, HST.out.2]; omega), HQY.out.drewN _⟩, by simp [intOf]; omega⟩
          · have hjn : j = n3 := by omega
            have htk : r.fs.take j = r.fs := List.take_of_length_le (by have := HL3.out; omega)
            have b1 : ((r.room + (sumF (r.fs.take j) : Int)) == room) = true := by rw [htk]; simpa using HTT.out
            have b2 : ((r.room + (sumF (r.fs.take j) : Int)) != room) = false := by rw [htk]; simpa using HTT.out
            clear hjn htk
            have HVY := Lib.hid V
            clear V
            go_wp2
            go_roundw
            case rel => exact ⟨k + 1, by omega, by omega, by go_num, A3, n3, c3, r, HVY.out, HT.out.2, hrr, HTT.out, HQ3.out.trans HQY.out⟩
            case measure => simp [intOf]; omega
    · by_cases hkn : k < n
      · have hk300 : ¬ k < 300 := fun h => hlt ⟨hkn, h⟩
        clear hlt
        go_wp2
        go_ret
        exact ⟨rfl, HJ.out.2.2.2⟩
      · clear hlt
        go_wp2
        go_ret
        exact ⟨rfl, HJ.out.2.2.2⟩

theorem opened (W : World) (args : Array Value) (hn : args.size = 2) (h : ∀ (j : Nat) t v, Try.f5.params[j]? = some t → args[j]? = some v → RdV W t v) :
    Calls Try.prog 5 args W fun e W' => e = .returned (.bool true) ∧ Q W W' := by
  obtain ⟨v, a, rfl⟩ := args2 hn
  rw [Try.params5] at h
  obtain ⟨room, rfl, hroom⟩ := (h 0 3 v rfl rfl).int Try.underlying3
  obtain ⟨L, n, c, rfl, hr⟩ := (h 1 53 a rfl rfl).slice Try.underlying53
  obtain ⟨L', n', c', l, e, hl, hn, hin⟩ := open_acts hr
  simp at e
  obtain ⟨rfl, rfl, rfl⟩ := e
  by_cases hh : room < 0 ∨ 1048576 < room
  · exact walk_up room L n c W hh
  · exact walk_main room L n c l W (by omega) (by omega) hl hn hin

set_option maxRecDepth 100000 in
theorem lifted (os : Os) (started : os.Started) (H : Type) (enc : TypeId × Value → H) :
    ReturnsInHanded {} Try.checked os 5 .any (Rows.diskRoomSpec.pre6 enc Try.prog Try.f5 Rows.diskRoomRow.domain false) (Rows.diskRoomSpec.post enc Try.prog Try.f5 false true false false) :=
  framed 2 Try.func5 (by rw [Try.params5]; rfl) rfl (by kernel_rfl) (by kernel_rfl) (by kernel_rfl)
    (fun H ds h => by match ds, h with | [d0, d1], _ => exact ⟨rfl, rfl, rfl⟩)
    opened os started H enc
    (ChangeSpec.witness6 (enc := enc) (C := Try.checked) false ⟨#[], #[.int .i64 0, .slice none 0 0], []⟩ 8 (by kernel_rfl) (by kernel_rfl) (by kernel_rfl) (by kernel_rfl))

theorem over : Rows.diskRoomRow.holds Try.pinned (OpenSpec.ofChange Rows.diskRoomSpec) :=
  OpenClaim.holds_of_wide 5 Try.f5 rfl rfl rfl rfl rfl rfl rfl ⟨rfl, rfl, rfl, rfl, rfl⟩ rfl rfl rfl rfl rfl (by kernel_rfl) Try.func5 (by kernel_rfl)
    (of_decide_eq_true (by kernel_rfl)) (by unfold Func.isWrapper; first | (rw [if_pos (by decide +kernel)]; kernel_rfl) | (rw [if_neg (by decide +kernel)]; exact ⟨rfl, rfl⟩))
    (fun os started H enc _ => lifted os started H enc)

theorem proved : Rows.DiskRoomSaid := over
end Go.Proofs.Ytpjadjbniddmgaa.diskRoom
