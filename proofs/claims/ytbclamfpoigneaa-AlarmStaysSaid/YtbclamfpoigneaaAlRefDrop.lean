/- The contract of the document's Drop. -/
import Derived.Test.YtbclamfpoigneaaAlRefPut
namespace Go.Proofs.Ytbclamfpoigneaa
set_option maxRecDepth 100000
open Go.RowKit
set_option linter.unusedVariables false
set_option linter.unusedSimpArgs false
namespace Am

theorem drop_yes {id : Int} {a : Al} {l acc : List Al} (h : a.id ≠ id) : dropF id (a :: l) acc = dropF id l (put acc a) := by
  show (if a.id ≠ id then dropF id l (put acc a) else dropF id l acc) = _
  rw [if_pos h]
theorem drop_no {id : Int} {a : Al} {l acc : List Al} (h : a.id = id) : dropF id (a :: l) acc = dropF id l acc := by
  show (if a.id ≠ id then dropF id l (put acc a) else dropF id l acc) = _
  rw [if_neg (by simpa using h)]
set_option maxHeartbeats 4000000 in
theorem rdrop_any (A : Option Addr) (n c : Nat) (h : List Al) (id : Int) (w : World) (hA : Lst alK w A n h) (hn : n ≤ 800000) :
    Calls Try.prog 18 #[.slice A n c, .int .i64 id] w (RetL alK w (dropF id h []).length (dropF id h [])) := by
  have HA := Lib.hid hA
  have HL := Lib.hid hA.len
  have HN := Lib.hid hn
  clear hA
  go_enter Try.func18, Try.ntmps18
  go_wp2
  go_loopw [5, 6] (fun ov iv wr => ∃ (k : Nat) (A4 : Option Addr) (c4 : Nat) (acc : List Al), k ≤ n ∧ iv = .int .i64 (k : Nat) ∧ ov = .slice A4 acc.length c4 ∧ OwnK alK wr w.heap.size A4 acc.length c4 acc ∧ acc.length ≤ k ∧ dropF id h [] = dropF id (h.drop k) acc ∧ Q w wr) (fun _ i _ => n - (intOf i).toNat)
  case atStart => exact ⟨0, none, 0, [], Nat.zero_le _, rfl, rfl, OwnK.nil_ _ _ _, Nat.zero_le _, by simp, Q.refl _⟩
  case round =>
    obtain ⟨k, A4, c4, acc, hk, rfl, rfl, ho, hac, hd, hq⟩ := hrel
    have HO := Lib.hid ho
    have HQ := Lib.hid hq
    have HD := Lib.hid hd
    clear ho hq hd
    by_cases hlt : k < n
    case neg =>
      have hfin : dropF id h [] = acc := by
        rw [HD.out, List.drop_of_length_le (by rw [HL.out]; omega)]; rfl
      have HF := Lib.hid hfin
      have hkn : ¬ (k : Int) < (n : Int) := by omega
      clear hfin
      go_wp2
      go_ret
      unfold RetL
      rw [HF.out]
      exact ⟨A4, c4, rfl, HO.out, HQ.out⟩
    have hkn : (k : Int) < (n : Int) := by omega
    have hkl : k < h.length := by rw [HL.out]; exact hlt
    have hcs : h.drop k = h[k] :: h.drop (k + 1) := List.drop_eq_getElem_cons hkl
    rw [hcs] at HD
    obtain ⟨ad, rfl, hab, y0, y1⟩ := load_al (HA.out.q HQ.out) hlt hkl
    generalize h[k] = a at y0 y1 HD
    have hal : acc.length ≤ 900000 := by omega
    clear hcs hkl
    by_cases he : a.id = id
    · have HX := Lib.hid (HD.out.trans (drop_no he))
      clear hal
      go_wp2
      go_roundw
      case rel => exact ⟨k + 1, A4, c4, acc, by omega, by go_num, rfl, HO.out, by omega, HX.out, HQ.out⟩
      case measure => simp [intOf]; omega
    · have HX := Lib.hid (HD.out.trans (drop_yes he))
      have hpl := put_len acc a
      have K1 := Lib.hid (fun W hA => rput_any A4 acc.length c4 acc a W hA hal)
      have hin := Lib.hid (HO.out.in_ (by show acc.length * 16 ≤ _; omega))
      generalize put acc a = p at K1 HX hpl
      have HPL := Lib.hid hpl
      generalize acc.length = m at *
      clear hpl
      go_wp2_with fail
      refine (K1.out _ hin.out).mono ?_
      rintro e w2 ⟨A5, c5, rfl, o5, q5⟩
      have X := Lib.hid (And.intro (o5.lower (b2 := w.heap.size) HQ.out.size) (HQ.out.trans q5))
      clear o5 q5
      go_wp2
      go_roundw
      case rel => exact ⟨k + 1, A5, c5, p, by omega, by go_num, by rw [HPL.out], by rw [HPL.out]; exact X.out.1, by rw [HPL.out]; omega, HX.out, X.out.2⟩
      case measure => simp [intOf]; omega
end Am
end Go.Proofs.Ytbclamfpoigneaa
