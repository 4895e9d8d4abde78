/- For every row of texts: what was wrapped, one behind the other, is told as it was, and nothing is left. No condition. -/
import Derived.Test.YthcdcjidoacalaaFrmIn
import Derived.Test.YthcdcjidoacalaaFrame
namespace Go.Proofs.Ythcdcjidoacalaa.frameBack
set_option maxRecDepth 100000
open Go.ChangeShapes Go.WideShapes Go.ChangeAt Go.RowKit Fm
set_option linter.unusedVariables false
set_option linter.unusedSimpArgs false

theorem wraps_len : ∀ l : List (List UInt8), (∀ r ∈ l, r.length ≤ 2048) → (wraps l).length ≤ l.length * 2100
  | [], _ => by simp [wraps]
  | r :: l, h => by
    have h1 := wraps_len l fun q hq => h q (by simp [hq])
    have h2 := h r (by simp)
    have h3 := Dm.num_length r.length (by omega)
    simp only [wraps, wrap, List.length_append, List.length_cons]
    omega
theorem feed_back {l : List (List UInt8)} (h : ∀ r ∈ l, r.length ≤ 2048) : feed ⟨[], false⟩ (wraps l) = (⟨[], false⟩, l, 0) := by
  have e := wh_wraps l [] h
  rw [List.append_nil] at e
  have e2 : wh (wraps l) = (l, []) := by rw [e, wh_nil]; simp
  have ho : on (wraps l) = true := by
    unfold on
    rw [e2]
    show decide ((tt []).2.2 = 2) = true
    decide
  unfold feed
  simp only [List.nil_append]
  rw [if_neg (by simp), if_pos ho, e2]
set_option maxHeartbeats 4000000 in
theorem walk (A : Option Addr) (n c : Nat) (l : List (List UInt8)) (w : World) (hd : In_ textK w A n c l) (hb : n * 16 ≤ 140737488351232) (hp : ∀ a ∈ l, a.length ≤ 140737488351232) :
    Calls Try.prog 5 #[.slice A n c] w fun e w' => e = .returned (.bool true) ∧ Q w w' := by
  have K0 := Lib.hid (fun W => fshown_any W)
  have HD := Lib.hid hd
  have HL := Lib.hid hd.len
  have HP := Lib.hid hp
  clear hd hp
  go_enter Try.func5, Try.ntmps5
  go_wp2_with fail
  refine (K0.out _).mono ?_
  rintro e w1 ⟨rfl, q1⟩
  have Q1 := Lib.hid q1
  clear q1
  go_wp2
  go_loopw [4, 5] (fun s i wr => ∃ k : Nat, k ≤ n ∧ s = .string (tx (wraps (l.take k))) ∧ i = .int .i64 (k : Nat) ∧ (∀ r ∈ l.take k, r.length ≤ 2048) ∧ Q w wr) (fun _ i _ => n - (intOf i).toNat)
  case atStart => exact ⟨0, Nat.zero_le _, rfl, rfl, by simp, Q1.out⟩
  case round =>
    obtain ⟨k, hk, rfl, rfl, hs, hq⟩ := hrel
    have HS := Lib.hid hs
    have HQ := Lib.hid hq
    have hwl := wraps_len _ hs
    rw [List.length_take] at hwl
    have hts := tx_size (wraps (l.take k))
    have hT : (tx (wraps (l.take k))).size ≤ k * 2100 := by
      rw [hts]
      exact Nat.le_trans hwl (Nat.mul_le_mul_right _ (Nat.min_le_left _ _))
    clear hs hq hwl hts
    by_cases hlt : k < n
    case neg =>
      have e : k = n := by omega
      have htk : l.take k = l := List.take_of_length_le (by rw [HL.out]; omega)
      rw [htk] at HS
      have K1 := Lib.hid (fun W => ffeed_any ⟨[], false⟩ (tx (wraps l)) W (by rw [htk] at hT; simp only [List.length_nil]; omega) (by
        have h1 := feed_back HS.out
        have e := wh_wraps l [] HS.out
        rw [List.append_nil] at e
        rw [list_tx, List.nil_append, e, wh_nil]
        simp only [List.append_nil]
        rw [HL.out]; omega))
      rw [list_tx, feed_back HS.out] at K1
      unfold RetF bfV at K1
      simp only at K1
      have K2 := Lib.hid (fun A B n c m d W (h1 : Lst textK W A n l) (h2 : Lst textK W B m l) (h : n ≤ maxLen) => same_self A B n c m d l W h1 h2 h)
      rw [htk]
      generalize tx (wraps l) = T at *
      rw [show tx [] = (⟨#[]⟩ : ByteArray) from rfl] at K1
      subst e
      have hn : ¬ ((k : Int) < (k : Int)) := by omega
      clear htk hT hk
      go_wp2_with fail
      refine (K1.out _).mono ?_
      rintro e w2 ⟨B, d, rfl, o2, q2⟩
      have r2 : Q w2 (w2.alloc (.cells #[.string ⟨#[]⟩, .bool false] 23)) := (Q.refl w2).alloc _
      have D := Lib.hid (And.intro ((HQ.out.trans q2).trans r2) (And.intro (o2.lst.q r2) (Bx.new w2 [.string ⟨#[]⟩, .bool false] 23)))
      clear o2 q2 r2
      go_wp2_with fail
      change Hid (_ ∧ _ ∧ Bx (w2.alloc (.cells #[.string ⟨#[]⟩, .bool false] 23)) _ _) at D
      generalize hz : w2.heap.size = n2 at D ⊢
      generalize (w2.alloc (.cells #[.string ⟨#[]⟩, .bool false] 23)) = w3 at D ⊢
      clear hz
      refine (K2.out _ _ _ _ _ _ _ (HD.out.lst.q D.out.1) D.out.2.1 (by unfold maxLen; omega)).mono ?_
      rintro e w4 ⟨rfl, q4⟩
      have D2 := Lib.hid (And.intro (D.out.1.trans q4) (D.out.2.2.q q4))
      clear D q4
      obtain ⟨⟨y0, y1⟩, _⟩ := D2.out.2.get2
      go_wp2
      go_ret
      exact ⟨rfl, D2.out.1⟩
    have hkl : k < l.length := by rw [HL.out]; omega
    obtain ⟨ad, rfl, hab, x0⟩ := load_text (HD.out.lst.q HQ.out) hlt hkl
    have hrl := HP.out l[k] (List.getElem_mem hkl)
    have hk2 : (k : Int) < (n : Int) := by omega
    have htk1 : l.take (k + 1) = l.take k ++ [l[k]] := by rw [List.take_add_one, List.getElem?_eq_getElem hkl]; rfl
    have K1 := Lib.hid (fun W => fwrap_any (tx l[k]) W (by rw [tx_size]; omega))
    rw [list_tx] at K1
    have hrs := tx_size l[k]
    by_cases hbig : 2048 < l[k].length
    · have e1 : wrapR l[k] = .tuple #[.string ⟨#[]⟩, .int .i64 4] := by unfold wrapR; rw [if_pos hbig]
      rw [e1] at K1
      generalize tx l[k] = R at *
      generalize tx (wraps (l.take k)) = T at *
      have hRs : 2048 < R.size := by omega
      have hRi : decide ((2048 : Int) < (R.size : Int)) = true := decide_eq_true (by omega)
      clear htk1 e1 hrl hbig hkl hrs
      go_wp2_with fail
      refine (K1.out _).mono ?_
      rintro e w2 ⟨rfl, q2⟩
      have x1 := box_ q2 x0
      have Q2 := Lib.hid (HQ.out.trans q2)
      clear q2
      go_wp2
      go_ret
      exact ⟨rfl, Q2.out⟩
    · have e1 : wrapR l[k] = .tuple #[.string (tx (wrap l[k])), .int .i64 0] := by unfold wrapR; rw [if_neg hbig]
      rw [e1] at K1
      have hnx : tx (wraps (l.take k)) ++ tx (wrap l[k]) = tx (wraps (l.take (k + 1))) := by rw [tx_app, htk1, wraps_snoc]
      have hs2 : ∀ r ∈ l.take (k + 1), r.length ≤ 2048 := by
        rw [htk1]
        intro r hr
        rcases List.mem_append.1 hr with h | h
        · exact HS.out r h
        · simp at h; subst h; omega
      have HS2 := Lib.hid hs2
      have hws : (tx (wrap l[k])).size ≤ 2100 := by
        have := Dm.num_length l[k].length (by omega)
        rw [tx_size]; unfold wrap; rw [List.length_append]; omega
      generalize hTN : tx (wraps (l.take (k + 1))) = TN at *
      have HT := Lib.hid hTN
      generalize tx (wrap l[k]) = F at *
      generalize tx l[k] = R at *
      generalize tx (wraps (l.take k)) = T at *
      clear htk1 e1 hrl hbig hkl hrs hTN hs2
      go_wp2_with fail
      refine (K1.out _).mono ?_
      rintro e w2 ⟨rfl, q2⟩
      have Q2 := Lib.hid (HQ.out.trans q2)
      clear q2
      go_wp2
      go_roundw
      case rel => exact ⟨k + 1, by omega, by rw [HT.out], by go_num, HS2.out, Q2.out⟩
      case measure => simp [intOf]; omega

theorem opened (W : World) (args : Array Value) (hn : args.size = 1) (h : ∀ (j : Nat) t v, Try.f5.params[j]? = some t → args[j]? = some v → RdV W t v) :
    Calls Try.prog 5 args W fun e W' => e = .returned (.bool true) ∧ Q W W' := by
  obtain ⟨v0, rfl⟩ := args1 hn
  rw [Try.params5] at h
  obtain ⟨A0, n0, c0, e0, r0⟩ := (h 0 30 v0 rfl rfl).slice Try.underlying30
  obtain ⟨B0, m0, d0, l, f0, hd0, hb0, hp0⟩ := open_texts r0
  simp only [List.cons.injEq, Value.slice.injEq, and_true] at f0
  obtain ⟨rfl, rfl, rfl⟩ := f0
  subst e0
  exact walk A0 n0 c0 l W hd0 hb0 hp0

set_option maxRecDepth 100000 in
theorem lifted (os : Os) (started : os.Started) (H : Type) (enc : TypeId × Value → H) :
    ReturnsInHanded {} Try.checked os 5 .any (Rows.frameBackSpec.pre6 enc Try.prog Try.f5 Rows.frameBackRow.domain false) (Rows.frameBackSpec.post enc Try.prog Try.f5 false true false false) :=
  framed 1 Try.func5 (by rw [Try.params5]; rfl) rfl (by kernel_rfl) (by kernel_rfl) (by kernel_rfl)
    (fun H ds h => by match ds, h with | [d0], _ => exact ⟨rfl, rfl, rfl⟩)
    opened os started H enc
    (ChangeSpec.witness6 (enc := enc) (C := Try.checked) false ⟨#[], #[.slice none 0 0], []⟩ 8 (by kernel_rfl) (by kernel_rfl) (by kernel_rfl) (by kernel_rfl))

theorem over : Rows.frameBackRow.holds Try.pinned (OpenSpec.ofChange Rows.frameBackSpec) :=
  OpenClaim.holds_of_wide 5 Try.f5 rfl rfl rfl rfl rfl rfl rfl ⟨rfl, rfl, rfl, rfl, rfl⟩ rfl rfl rfl rfl rfl (by kernel_rfl) Try.func5 (by kernel_rfl)
    (of_decide_eq_true (by kernel_rfl)) (by unfold Func.isWrapper; first | (rw [if_pos (by decide +kernel)]; kernel_rfl) | (rw [if_neg (by decide +kernel)]; exact ⟨rfl, rfl⟩))
    (fun os started H enc _ => lifted os started H enc)

theorem proved : Rows.FrameBackSaid := over
end Go.Proofs.Ythcdcjidoacalaa.frameBack
