/- Contracts: package alarm's own pop. -/
import Derived.Test.YtbclamfpoigneaaAlSink
namespace Go.Proofs.Ytbclamfpoigneaa
set_option maxRecDepth 100000
open Go.RowKit
set_option linter.unusedVariables false
set_option linter.unusedSimpArgs false
namespace Am

theorem own_take {w : World} {base g n c m : Nat} {l : List Al} (h : OwnK alK w base (some ⟨g, 0, none⟩) n c l) (hm : m ≤ n) : OwnK alK w base (some ⟨g, 0, none⟩) m c (l.take m) := by
  have := owns_short h hm
  unfold OwnK
  rw [alK.rows_take]
  exact this
theorem popR_eq {l : List Al} {m : Nat} (h : l.length = m + 1) : popR l = sink (m + 1) ((l.set 0 (g l m)).take m) 0 := by
  unfold popR
  split
  · have h0 : m = 0 := by omega
    subst h0
    rw [List.take_zero]
    exact (sink_end (bst_none (by simp))).symm
  · rw [h, List.dropLast_eq_take, h, Nat.add_sub_cancel, ← List.take_set]
set_option maxHeartbeats 4000000 in
theorem apopin_any (base p N m c : Nat) (l : List Al) (w : World) (ho : OwnK alK w base (some ⟨p, 0, none⟩) N c l) (hN : N = m + 1) (hn : m ≤ 900000) :
    Calls Try.prog 25 #[.slice (some ⟨p, 0, none⟩) N c] w fun e w' => e = .returned (.slice (some ⟨p, 0, none⟩) m c) ∧ OwnK alK w' base (some ⟨p, 0, none⟩) m c (popR l) ∧ w.grownBy w' (some p) := by
  subst hN
  have HL := Lib.hid ho.len
  have hml : m < l.length := by rw [HL.out]; omega
  have h0l : 0 < l.length := by omega
  obtain ⟨y0, y1, _, _⟩ := own_cells2 ho hml
  obtain ⟨z0, z1, f0, f1⟩ := own_cells2 ho h0l
  simp only [Nat.zero_mul, Nat.zero_add] at z0 z1 f0 f1
  have hpu := own_put2 ho h0l l[m]
  rw [← g_lt hml] at y0 y1 hpu
  simp only [Nat.zero_mul, Nat.zero_add] at hpu
  have HP := Lib.hid (own_take hpu (m := m) (by omega))
  have HE := Lib.hid (popR_eq HL.out)
  have HG := Lib.hid (only_set (only_set (only_refl w p) 0 (.int .u64 ((g l m).at_ : Int))) 1 (.int .i64 (g l m).id))
  have hwn : IntKind.i64.wrap (((m + 1 : Nat) : Int) - 1) = (m : Int) := by rw [IntKind.wrap_i64]; omega
  have hmI : (m : Int) < ((m + 1 : Nat) : Int) := by omega
  have h0I : (0 : Int) < ((m + 1 : Nat) : Int) := by omega
  have hmc : m + 1 ≤ c := ho.le
  have hmcI : (m : Int) ≤ (c : Int) := by omega
  generalize g l m = x at y0 y1 HP HE HG
  generalize l[0] = x0 at z0 z1
  clear ho hpu hml h0l
  generalize hN : m + 1 = N at y0 y1 hwn hmI h0I hmc
  clear hN
  go_enter Try.func25, Try.ntmps25
  go_upto_region 3 with (fail)
  generalize ((w.setCell ⟨p, 0, none⟩ (.int .u64 (x.at_ : Int))).setCell ⟨p, 1, none⟩ (.int .i64 x.id)) = w2 at HP HG ⊢
  clear y0 y1 z0 z1 f0 f1
  go_wp2_with fail
  refine (asink_any base p m c _ 0 (m + 1) w2 HP.out (by omega) (by omega) (by omega)).mono ?_
  rintro e w3 ⟨rfl, o3, g3⟩
  have R := Lib.hid (And.intro o3 (HG.out.trans g3))
  clear o3 g3
  go_wp2
  go_ret
  exact ⟨rfl, by rw [HE.out]; exact R.out.1, R.out.2⟩
set_option maxHeartbeats 1000000 in
theorem cloneAls (A : Option Addr) (n c : Nat) (l : List Al) (w : World) (hd : In_ alK w A n c l) :
    Calls Try.prog 26 #[.slice A n c] w fun e w' => RetL alK w n l e w' := by
  have HD := Lib.hid hd
  clear hd
  cases A with
  | none =>
    obtain ⟨h1, h2⟩ := HD.out.nil rfl
    subst h1 h2
    have hl : l = [] := List.eq_nil_of_length_eq_zero HD.out.len
    subst hl
    have hnil := fun W : World => eql_nilK 22 25 Try.underlying22 W none 0 0
    go_enter Try.func26, Try.ntmps26
    go_wp2
    go_ret
    exact ⟨none, 0, rfl, OwnK.nil_ _ _ _, Q.refl _⟩
  | some ad =>
    have hnil := fun W : World => eql_nilK 22 25 Try.underlying22 W (some ad) n c
    go_enter Try.func26, Try.ntmps26
    go_wp2_with (at_builtin
                 refine wpl_appK alK rfl (.tmp 5) (.tmp 6) 22 rfl rfl w.heap.size (some ⟨w.heap.size, 0, none⟩) 0 0 [] rfl (OwnK.lit0 alK w _ (Nat.le_refl _)) (some ad) n c l rfl (HD.out.lst.q ((Q.refl _).alloc _)) (fun e => by cases e) (by have := HD.out.few; simpa using this) (by simp) ?_
                 intro A1 c1 w1 ho1 hb1)
    go_ret
    refine ⟨A1, c1, by simp, by simpa using ho1, ((Q.refl _).alloc _).below.trans hb1⟩
end Am
end Go.Proofs.Ytbclamfpoigneaa
