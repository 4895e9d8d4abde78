/- WiLaid, WiSame, WiRep: merged. -/
import Derived.Test.YtdipikdebapmlaaDoorW8
import Derived.LaidMore
import Derived.MakeChecks
import Derived.Deep.DeepWitnessRowRef
import Derived.LaidHandle
import Derived.LaidSub
import Derived.Stop.LaidTwo
import Derived.Stop.LaidErr
import Derived.Test.YtdipikdebapmlaaDoorW10
import Derived.Test.YtdipikdebapmlaaDoorW3
import Derived.Test.YtdipikdebapmlaaDoorW4
/- Out of a row's list: the type of errors, wire's errors. -/
namespace Go.Proofs.YtdipikdebapmlaaDoor
set_option maxRecDepth 100000
open Go.ChangeShapes Go.WideShapes Go.ChangeAt Go.RowKit
set_option linter.unusedVariables false
namespace Wi

theorem wiRt : (Tryd.prog.cutTypes.find? (·.1 == "internal/reflectlite.rtype")).map (·.2) = some 137 := by kernel_rfl
theorem wiEt : Tryd.prog.globalNamed "errors.errorType" = some 2 := by kernel_rfl
theorem wiOneRow : ((List.range Tryd.prog.types.size).filter fun t => Tryd.prog.rowNamed t [101, 114, 114, 111, 114]) = [57] := by kernel_rfl
theorem errT_laid {l : List (String × DataW Unit)} {W : World} (hm : ("errors.errorType", Rows.laid_errors_errorType) ∈ l) (h : laidMetH Tryd.prog l W) : ErrT W := by
  have h2 := (laidMetH_iff.1 h).2 ("errors.errorType", Rows.laid_errors_errorType) (List.mem_filter.2 ⟨hm, by kernel_rfl⟩)
  obtain ⟨name, u, ty, e1, e2, e3, e4, e5⟩ := h2
  have en : name = [101, 114, 114, 111, 114] := (Option.some.inj e1).symm
  subst en
  obtain rfl := Option.some.inj (wiRt.symm.trans e2)
  have hm : ty ∈ (List.range Tryd.prog.types.size).filter fun t => Tryd.prog.rowNamed t [101, 114, 114, 111, 114] := List.mem_filter.2 ⟨List.mem_range.2 e3, e4⟩
  rw [wiOneRow] at hm
  obtain rfl := List.mem_singleton.1 hm
  have hh : typeHandle Tryd.prog 57 = .pointer (some ⟨3, 57, none⟩) := by kernel_rfl
  rw [hh] at e5
  have := World.var?_cell wiEt e5 0
  simpa [ErrT] using this
theorem wiGd : Tryd.prog.globalNamed "stanchion/wire.errOdd" = some 1 := by kernel_rfl
theorem wiGdT : (Tryd.prog.globals[1]?).map (·.type) = some 57 := by kernel_rfl
theorem wiGr : Tryd.prog.globalNamed "stanchion/wire.errLong" = some 0 := by kernel_rfl
theorem wiGrT : (Tryd.prog.globals[0]?).map (·.type) = some 57 := by kernel_rfl
theorem wiStar : "*" ++ "errors.errorString" = "*errors.errorString" := by decide
theorem wiRow (u : TypeId) (h : Tryd.prog.typeName? 3 u = some "*errors.errorString") : u = 157 :=
  typeName_ptr_named (nm := "errors.errorString") (by rw [wiStar]; kernel_rfl) (by kernel_rfl) (by decide) u (by rw [wiStar]; exact h)
theorem wiCells : Tryd.prog.cellsOf 177 = 1 := by kernel_rfl
theorem wiCellsS : Tryd.prog.cellsOf 9 = 1 := by kernel_rfl

abbrev wiList : List (String × DataW Unit) := [("errors.errorType", Rows.laid_errors_errorType), ("stanchion/wire.errOdd", Rows.laid_stanchion_wire_errOdd), ("stanchion/wire.errLong", Rows.laid_stanchion_wire_errLong)]
abbrev wiList1 : List (String × DataW Unit) := [("errors.errorType", Rows.laid_errors_errorType), ("stanchion/wire.errOdd", Rows.laid_stanchion_wire_errOdd)]
theorem wiListF : (wiList.filter fun x => x.2.handleName?.isNone) = [("stanchion/wire.errOdd", Rows.laid_stanchion_wire_errOdd), ("stanchion/wire.errLong", Rows.laid_stanchion_wire_errLong)] := by rfl
theorem wiListF1 : (wiList1.filter fun x => x.2.handleName?.isNone) = [("stanchion/wire.errOdd", Rows.laid_stanchion_wire_errOdd)] := by rfl
theorem wk_laid {W : World} (h : laidMetH Tryd.prog wiList W) : ∃ a c, Wk W a c ∧ c ≠ a := by
  have h1 := (laidMetH_iff.1 h).1
  rw [wiListF] at h1
  obtain ⟨a0, a1, s0, s1, c0, c1, t0, t1, v0, v1, _, _, _, _, _, _, hne, h0, h2⟩ := laid_sentinels2 h1 wiGd wiGdT wiGr wiGrT Tryd.underlying57 wiRow Tryd.underlying157 Tryd.underlying177 rfl rfl Tryd.underlying9 wiCells wiCellsS
  refine ⟨a0, a1, ⟨errT_laid (by simp) h, ⟨?_, fun _ => ⟨?_, ⟨c0, t0, h0⟩, c1, t1, h2⟩⟩⟩, hne.symm⟩
  · simpa using World.var?_cell wiGd v0 0
  · simpa using World.var?_cell wiGr v1 0
theorem wk_laid1 {W : World} (h : laidMetH Tryd.prog wiList1 W) : ∃ a, Wk W a a := by
  have h1 := (laidMetH_iff.1 h).1
  rw [wiListF1] at h1
  obtain ⟨a0, s0, v0, _⟩ := laid_sentinel h1 wiGd wiGdT Tryd.underlying57 wiRow Tryd.underlying157 Tryd.underlying177 rfl rfl Tryd.underlying9 wiCells wiCellsS
  refine ⟨a0, errT_laid (by simp) h, ?_, fun hne => absurd rfl hne⟩
  simpa using World.var?_cell wiGd v0 0
end Wi
end Go.Proofs.YtdipikdebapmlaaDoor

/- The contract of the document's Same (chapter 16). -/
namespace Go.Proofs.YtdipikdebapmlaaDoor
set_option maxRecDepth 100000
open Go.RowKit Prm
set_option linter.unusedVariables false
set_option linter.unusedSimpArgs false
namespace Wi

set_option maxRecDepth 100000 in
set_option maxHeartbeats 4000000 in
theorem wsame_any (p q : Rp) (A B : Option Addr) (N c M d : Nat) (w : World) (hA : Lst pairK w A N p.rows) (hB : Lst pairK w B M q.rows) (hN : N ≤ maxLen) (hM : M ≤ maxLen) :
    Calls Tryd.prog 19 #[rpV p A N c, rpV q B M d] w fun e w' => e = .returned (.bool (decide (p = q))) ∧ Q w w' := by
  obtain ⟨e1, s1, n1, er1, v1, fd1, ov1, l1⟩ := p
  obtain ⟨e2, s2, n2, er2, v2, fd2, ov2, l2⟩ := q
  simp only at hA hB
  have hE : decide ((⟨e1, s1, n1, er1, v1, fd1, ov1, l1⟩ : Rp) = ⟨e2, s2, n2, er2, v2, fd2, ov2, l2⟩) = (decide (l1 = l2) && decide (e1 = e2) && decide (s1 = s2) && decide (n1 = n2) && decide (er1 = er2) && decide (v1 = v2) && decide (fd1 = fd2) && decide (ov1 = ov2)) := by
    rw [Bool.eq_iff_iff]
    simp only [Rp.mk.injEq, Bool.and_eq_true, decide_eq_true_eq]
    constructor
    · rintro ⟨h1, h2, h3, h4, h5, h6, h7, h8⟩; exact ⟨⟨⟨⟨⟨⟨⟨h8, h1⟩, h2⟩, h3⟩, h4⟩, h5⟩, h6⟩, h7⟩
    · rintro ⟨⟨⟨⟨⟨⟨⟨h8, h1⟩, h2⟩, h3⟩, h4⟩, h5⟩, h6⟩, h7⟩; exact ⟨h1, h2, h3, h4, h5, h6, h7, h8⟩
  rw [hE]
  have KS := Lib.hid (fun W (q : Q w W) => refSame_any A B N c M d l1 l2 W (hA.q q) (hB.q q) hN hM)
  have X := Lib.hid (And.intro ((Bx.new w [.int .i64 e1, .int .i64 s1, .int .i64 n1, .int .i64 er1, .string v1, .bool fd1, .slice A N c, .bool ov1] 40).alloc (.cells #[.int .i64 e2, .int .i64 s2, .int .i64 n2, .int .i64 er2, .string v2, .bool fd2, .slice B M d, .bool ov2] 40)) (And.intro (Bx.new (w.alloc (.cells #[.int .i64 e1, .int .i64 s1, .int .i64 n1, .int .i64 er1, .string v1, .bool fd1, .slice A N c, .bool ov1] 40)) [.int .i64 e2, .int .i64 s2, .int .i64 n2, .int .i64 er2, .string v2, .bool fd2, .slice B M d, .bool ov2] 40) (((Q.refl w).alloc (.cells #[.int .i64 e1, .int .i64 s1, .int .i64 n1, .int .i64 er1, .string v1, .bool fd1, .slice A N c, .bool ov1] 40)).alloc (.cells #[.int .i64 e2, .int .i64 s2, .int .i64 n2, .int .i64 er2, .string v2, .bool fd2, .slice B M d, .bool ov2] 40))))
  rw [show (w.alloc (.cells #[.int .i64 e1, .int .i64 s1, .int .i64 n1, .int .i64 er1, .string v1, .bool fd1, .slice A N c, .bool ov1] 40)).heap.size = w.heap.size + 1 by simp] at X
  clear hE hA hB
  show Calls _ _ #[.agg #[.int .i64 e1, .int .i64 s1, .int .i64 n1, .int .i64 er1, .string v1, .bool fd1, .slice A N c, .bool ov1], .agg #[.int .i64 e2, .int .i64 s2, .int .i64 n2, .int .i64 er2, .string v2, .bool fd2, .slice B M d, .bool ov2]] _ _
  generalize hr : (decide (l1 = l2) && decide (e1 = e2) && decide (s1 = s2) && decide (n1 = n2) && decide (er1 = er2) && decide (v1 = v2) && decide (fd1 = fd2) && decide (ov1 = ov2)) = res
  have HR := Lib.hid hr.symm
  clear hr
  go_enter Tryd.func19, Tryd.ntmps19
  go_upto_region 1 with (fail)
  change Hid (Bx ((w.alloc (.cells #[.int .i64 e1, .int .i64 s1, .int .i64 n1, .int .i64 er1, .string v1, .bool fd1, .slice A N c, .bool ov1] 40)).alloc (.cells #[.int .i64 e2, .int .i64 s2, .int .i64 n2, .int .i64 er2, .string v2, .bool fd2, .slice B M d, .bool ov2] 40)) _ _ ∧ Bx ((w.alloc (.cells #[.int .i64 e1, .int .i64 s1, .int .i64 n1, .int .i64 er1, .string v1, .bool fd1, .slice A N c, .bool ov1] 40)).alloc (.cells #[.int .i64 e2, .int .i64 s2, .int .i64 n2, .int .i64 er2, .string v2, .bool fd2, .slice B M d, .bool ov2] 40)) _ _ ∧ Q w ((w.alloc (.cells #[.int .i64 e1, .int .i64 s1, .int .i64 n1, .int .i64 er1, .string v1, .bool fd1, .slice A N c, .bool ov1] 40)).alloc (.cells #[.int .i64 e2, .int .i64 s2, .int .i64 n2, .int .i64 er2, .string v2, .bool fd2, .slice B M d, .bool ov2] 40))) at X
  generalize ((w.alloc (.cells #[.int .i64 e1, .int .i64 s1, .int .i64 n1, .int .i64 er1, .string v1, .bool fd1, .slice A N c, .bool ov1] 40)).alloc (.cells #[.int .i64 e2, .int .i64 s2, .int .i64 n2, .int .i64 er2, .string v2, .bool fd2, .slice B M d, .bool ov2] 40)) = W0 at X ⊢
  have x6 := (X.out.1 6 _ rfl).1
  have y6 := (X.out.2.1 6 _ rfl).1
  go_wp2_with fail
  refine (KS.out _ X.out.2.2).mono ?_
  rintro ek wk ⟨rfl, qk⟩
  have Y := Lib.hid (And.intro (X.out.1.q qk) (And.intro (X.out.2.1.q qk) (X.out.2.2.trans qk)))
  clear qk x6 y6 KS X
  have x0 := (Y.out.1 0 _ rfl).1
  have y0 := (Y.out.2.1 0 _ rfl).1
  have x1 := (Y.out.1 1 _ rfl).1
  have y1 := (Y.out.2.1 1 _ rfl).1
  have x2 := (Y.out.1 2 _ rfl).1
  have y2 := (Y.out.2.1 2 _ rfl).1
  have x3 := (Y.out.1 3 _ rfl).1
  have y3 := (Y.out.2.1 3 _ rfl).1
  have x4 := (Y.out.1 4 _ rfl).1
  have y4 := (Y.out.2.1 4 _ rfl).1
  have x5 := (Y.out.1 5 _ rfl).1
  have y5 := (Y.out.2.1 5 _ rfl).1
  have x7 := (Y.out.1 7 _ rfl).1
  have y7 := (Y.out.2.1 7 _ rfl).1
  by_cases h0 : l1 = l2
  case neg =>
    have HM : Hid (res = false) := Lib.hid (by rw [HR.out, decide_eq_false h0]; simp)
    have hd : decide (l1 = l2) = false := decide_eq_false h0
    rw [hd]
    go_wp2
    go_ret
    exact ⟨by rw [HM.out]; rfl, Y.out.2.2⟩
  have hd : decide (l1 = l2) = true := decide_eq_true h0
  rw [hd]
  subst h0
  by_cases h1 : e1 = e2
  case neg =>
    have HM : Hid (res = false) := Lib.hid (by rw [HR.out, decide_eq_false h1]; simp)
    go_wp2
    go_ret
    exact ⟨by rw [HM.out]; rfl, Y.out.2.2⟩
  subst h1
  by_cases h2 : s1 = s2
  case neg =>
    have HM : Hid (res = false) := Lib.hid (by rw [HR.out, decide_eq_false h2]; simp)
    go_wp2
    go_ret
    exact ⟨by rw [HM.out]; rfl, Y.out.2.2⟩
  subst h2
  by_cases h3 : n1 = n2
  case neg =>
    have HM : Hid (res = false) := Lib.hid (by rw [HR.out, decide_eq_false h3]; simp)
    go_wp2
    go_ret
    exact ⟨by rw [HM.out]; rfl, Y.out.2.2⟩
  subst h3
  by_cases h4 : er1 = er2
  case neg =>
    have HM : Hid (res = false) := Lib.hid (by rw [HR.out, decide_eq_false h4]; simp)
    go_wp2
    go_ret
    exact ⟨by rw [HM.out]; rfl, Y.out.2.2⟩
  subst h4
  by_cases h5 : v1 = v2
  case neg =>
    have HM : Hid (res = false) := Lib.hid (by rw [HR.out, decide_eq_false h5]; simp)
    have hs : (v1.toList == v2.toList) = false := by rw [same_str]; exact decide_eq_false h5
    have hs2 : ¬ v1.toList = v2.toList := by intro h; rw [str_inj] at h; exact h5 h
    go_wp2
    go_ret
    exact ⟨by rw [HM.out]; rfl, Y.out.2.2⟩
  subst h5
  by_cases h6 : fd1 = fd2
  case neg =>
    have HM : Hid (res = false) := Lib.hid (by rw [HR.out, decide_eq_false h6]; simp)
    have hb : (fd1 == fd2) = false := by cases fd1 <;> cases fd2 <;> simp_all
    go_wp2
    go_ret
    exact ⟨by rw [HM.out]; rfl, Y.out.2.2⟩
  subst h6
  by_cases h7 : ov1 = ov2
  case neg =>
    have HM : Hid (res = false) := Lib.hid (by rw [HR.out, decide_eq_false h7]; simp)
    have hb : (ov1 == ov2) = false := by cases ov1 <;> cases ov2 <;> simp_all
    go_wp2
    go_ret
    exact ⟨by rw [HM.out]; rfl, Y.out.2.2⟩
  subst h7
  have HM : Hid (res = true) := Lib.hid (by rw [HR.out]; simp)
  go_wp2
  go_ret
  exact ⟨by rw [HM.out]; rfl, Y.out.2.2⟩

end Wi
end Go.Proofs.YtdipikdebapmlaaDoor

/- The contract of the document's Reply (chapter 16). -/
namespace Go.Proofs.YtdipikdebapmlaaDoor
set_option maxRecDepth 100000
open Go.RowKit Prm
set_option linter.unusedVariables false
set_option linter.unusedSimpArgs false
namespace Wi

set_option maxRecDepth 100000 in
set_option maxHeartbeats 8000000 in
theorem wrep_any (p : Rp) (A : Option Addr) (N c : Nat) (w : World) (hA : Lst pairK w A N p.rows) (hmx : N ≤ maxLen) (hks : KeysIn p.rows) :
    Calls Tryd.prog 16 #[rpV p A N c] w fun e w' => e = .returned (.tuple #[.string (ba (repM p).1), .int .i64 (repM p).2]) ∧ Q w w' := by
  have KM0 := fun W (q : Q w W) => wmayP_any p A N c W (hA.q q) hmx hks
  have HMay := Lib.hid (fun h => mayP_of (p := p) h)
  obtain ⟨e, s, n, er, v, fd, ov, l⟩ := p
  simp only at hA hks
  have HA := Lib.hid hA
  have HL := Lib.hid hA.len
  have KM : Hid (∀ W, Q w W → Calls Tryd.prog 35 #[.agg #[.int .i64 e, .int .i64 s, .int .i64 n, .int .i64 er, .string v, .bool fd, .slice A N c, .bool ov]] W fun e' w' => e' = .returned (.bool (mayP ⟨e, s, n, er, v, fd, ov, l⟩)) ∧ Q W w') := Lib.hid KM0
  have HR : Hid (repM ⟨e, s, n, er, v, fd, ov, l⟩ = if mayP ⟨e, s, n, er, v, fd, ov, l⟩ = true then (rep ⟨e, s, n, er, v, fd, ov, l⟩, 0) else ([], 1)) := Lib.hid rfl
  have X := Lib.hid (And.intro (Bx.new w [.int .i64 e, .int .i64 s, .int .i64 n, .int .i64 er, .string v, .bool fd, .slice A N c, .bool ov] 40) ((Q.refl w).alloc (.cells #[.int .i64 e, .int .i64 s, .int .i64 n, .int .i64 er, .string v, .bool fd, .slice A N c, .bool ov] 40)))
  clear hA hks KM0 hmx
  show Calls _ _ #[.agg #[.int .i64 e, .int .i64 s, .int .i64 n, .int .i64 er, .string v, .bool fd, .slice A N c, .bool ov]] _ _
  generalize repM ⟨e, s, n, er, v, fd, ov, l⟩ = res at HR ⊢
  cases hm : mayP ⟨e, s, n, er, v, fd, ov, l⟩ with
  | false =>
    rw [hm] at KM HR
    clear HMay hm
    go_enter Tryd.func16, Tryd.ntmps16
    go_upto_region 1 with (fail)
    change Hid (Bx (w.alloc (.cells #[.int .i64 e, .int .i64 s, .int .i64 n, .int .i64 er, .string v, .bool fd, .slice A N c, .bool ov] 40)) _ _ ∧ Q w (w.alloc (.cells #[.int .i64 e, .int .i64 s, .int .i64 n, .int .i64 er, .string v, .bool fd, .slice A N c, .bool ov] 40))) at X
    generalize w.alloc (.cells #[.int .i64 e, .int .i64 s, .int .i64 n, .int .i64 er, .string v, .bool fd, .slice A N c, .bool ov] 40) = W0 at X ⊢
    have x0 := (X.out.1 0 _ rfl).1
    have x1 := (X.out.1 1 _ rfl).1
    have x2 := (X.out.1 2 _ rfl).1
    have x3 := (X.out.1 3 _ rfl).1
    have x4 := (X.out.1 4 _ rfl).1
    have x5 := (X.out.1 5 _ rfl).1
    have x6 := (X.out.1 6 _ rfl).1
    have x7 := (X.out.1 7 _ rfl).1
    go_wp2_with fail
    refine (KM.out _ X.out.2).mono ?_
    rintro e1 w1 ⟨rfl, q1⟩
    go_wp2
    go_ret2
    exact ⟨by rw [HR.out]; rfl, X.out.2.trans q1⟩
  | true =>
    have hr := HR.out
    rw [if_pos hm] at hr
    have HR2 := Lib.hid hr
    have M := Lib.hid (HMay.out hm)
    rw [hm] at KM
    clear HMay hm hr HR
    have B1 := small_iff.1 M.out.e
    have B2 := small_iff.1 M.out.s
    have B3 := small_iff.1 M.out.n
    have b4 := M.out.e0
    have b5 := M.out.e1
    have b6 := M.out.v
    have b7 := M.out.m
    simp only at B1 B2 B3 b4 b5 b6 b7
    have hN : N ≤ 16 := by rw [← HL.out]; exact b7
    have K1 := Lib.hid (fun W => wnum_any e W B1.1 B1.2)
    have K2 := Lib.hid (fun W => wnum_any s W B2.1 B2.2)
    have K3 := Lib.hid (fun W => wnum_any n W B3.1 B3.2)
    have K4 := Lib.hid (fun W => wnum_any er W b4 (by omega))
    have K5 := Lib.hid (fun W => wtext_any v W (by omega))
    have K6 := Lib.hid (fun W => wflag_any fd W)
    have K7 := Lib.hid (fun W => wflag_any ov W)
    have K8 := Lib.hid (fun W => wnum_any (N : Int) W (by omega) (by omega))
    have l1 : (ba (num e)).size ≤ 21 := by rw [ba_size]; exact num_len M.out.e
    have l2 : (ba (num s)).size ≤ 21 := by rw [ba_size]; exact num_len M.out.s
    have l3 : (ba (num n)).size ≤ 21 := by rw [ba_size]; exact num_len M.out.n
    have l4 : (ba (num er)).size ≤ 21 := by rw [ba_size]; exact num_len (small_iff.2 (by omega))
    have l5 : (ba (ptx v)).size ≤ 67 := by rw [ba_size]; have := ptx_len (s := v) (by omega); omega
    have l6 : (ba (Dm.num (fl fd))).size ≤ 21 := by rw [ba_size]; exact Dm.num_length _ (by have := fl_le fd; omega)
    have l7 : (ba (Dm.num (fl ov))).size ≤ 21 := by rw [ba_size]; exact Dm.num_length _ (by have := fl_le ov; omega)
    have l8 : (ba (num (N : Int))).size ≤ 21 := by rw [ba_size]; exact num_len (small_iff.2 (by omega))
    have HHd : Hid (∀ R, ba (num e) ++ ba (num s) ++ ba (num n) ++ ba (num er) ++ ba (ptx v) ++ ba (Dm.num (fl fd)) ++ ba (Dm.num (fl ov)) ++ ba (num (N : Int)) ++ ba (rowsB l R) = ba (repR ⟨e, s, n, er, v, fd, ov, l⟩ R)) := Lib.hid (fun R => by
      unfold repR
      have hn : num (N : Int) = Dm.num l.length := by unfold num; rw [HL.out]; rfl
      rw [hn]
      simp only [ba_app, List.append_assoc])
    have c1 : ¬ 9223372036854775807 < (ba (num e)).size + (ba (num s)).size := by omega
    have c2 : ¬ 9223372036854775807 < (ba (num e)).size + (ba (num s)).size + (ba (num n)).size := by omega
    have c3 : ¬ 9223372036854775807 < (ba (num e)).size + (ba (num s)).size + (ba (num n)).size + (ba (num er)).size := by omega
    have c4 : ¬ 9223372036854775807 < (ba (num e)).size + (ba (num s)).size + (ba (num n)).size + (ba (num er)).size + (ba (ptx v)).size := by omega
    have c5 : ¬ 9223372036854775807 < (ba (num e)).size + (ba (num s)).size + (ba (num n)).size + (ba (num er)).size + (ba (ptx v)).size + (ba (Dm.num (fl fd))).size := by omega
    have c6 : ¬ 9223372036854775807 < (ba (num e)).size + (ba (num s)).size + (ba (num n)).size + (ba (num er)).size + (ba (ptx v)).size + (ba (Dm.num (fl fd))).size + (ba (Dm.num (fl ov))).size := by omega
    have c7 : ¬ 9223372036854775807 < (ba (num e)).size + (ba (num s)).size + (ba (num n)).size + (ba (num er)).size + (ba (ptx v)).size + (ba (Dm.num (fl fd))).size + (ba (Dm.num (fl ov))).size + (ba (num (N : Int))).size := by omega
    have HSZ : Hid ((ba (num e) ++ ba (num s) ++ ba (num n) ++ ba (num er) ++ ba (ptx v) ++ ba (Dm.num (fl fd)) ++ ba (Dm.num (fl ov)) ++ ba (num (N : Int))).size ≤ 250) := Lib.hid (by simp only [ByteArray.size_append]; omega)
    generalize ba (num e) = S1 at K1 l1 HHd HSZ c1 c2 c3 c4 c5 c6 c7
    generalize ba (num s) = S2 at K2 l2 HHd HSZ c1 c2 c3 c4 c5 c6 c7
    generalize ba (num n) = S3 at K3 l3 HHd HSZ c1 c2 c3 c4 c5 c6 c7
    generalize ba (num er) = S4 at K4 l4 HHd HSZ c1 c2 c3 c4 c5 c6 c7
    generalize ba (ptx v) = S5 at K5 l5 HHd HSZ c1 c2 c3 c4 c5 c6 c7
    generalize ba (Dm.num (fl fd)) = S6 at K6 l6 HHd HSZ c1 c2 c3 c4 c5 c6 c7
    generalize ba (Dm.num (fl ov)) = S7 at K7 l7 HHd HSZ c1 c2 c3 c4 c5 c6 c7
    generalize ba (num (N : Int)) = S8 at K8 l8 HHd HSZ c1 c2 c3 c4 c5 c6 c7
    go_enter Tryd.func16, Tryd.ntmps16
    go_upto_region 1 with (fail)
    change Hid (Bx (w.alloc (.cells #[.int .i64 e, .int .i64 s, .int .i64 n, .int .i64 er, .string v, .bool fd, .slice A N c, .bool ov] 40)) _ _ ∧ Q w (w.alloc (.cells #[.int .i64 e, .int .i64 s, .int .i64 n, .int .i64 er, .string v, .bool fd, .slice A N c, .bool ov] 40))) at X
    generalize w.alloc (.cells #[.int .i64 e, .int .i64 s, .int .i64 n, .int .i64 er, .string v, .bool fd, .slice A N c, .bool ov] 40) = W0 at X ⊢
    have x0 := (X.out.1 0 _ rfl).1
    have x1 := (X.out.1 1 _ rfl).1
    have x2 := (X.out.1 2 _ rfl).1
    have x3 := (X.out.1 3 _ rfl).1
    have x4 := (X.out.1 4 _ rfl).1
    have x5 := (X.out.1 5 _ rfl).1
    have x6 := (X.out.1 6 _ rfl).1
    have x7 := (X.out.1 7 _ rfl).1
    go_wp2_with fail
    refine (KM.out _ X.out.2).mono ?_
    rintro e1 w1 ⟨rfl, q1⟩
    have Y := Lib.hid (And.intro (X.out.1.q q1) (X.out.2.trans q1))
    clear q1 KM
    clear x0 x1 x2 x3 x4 x5 x6 x7
    have x0 := (Y.out.1 0 _ rfl).1
    have x1 := (Y.out.1 1 _ rfl).1
    have x2 := (Y.out.1 2 _ rfl).1
    have x3 := (Y.out.1 3 _ rfl).1
    have x4 := (Y.out.1 4 _ rfl).1
    have x5 := (Y.out.1 5 _ rfl).1
    have x6 := (Y.out.1 6 _ rfl).1
    have x7 := (Y.out.1 7 _ rfl).1
    go_upto_region 4 with (fail)
    go_cut [5] (fun s5 wx => s5 = .string (S1 ++ S2 ++ S3 ++ S4 ++ S5 ++ S6 ++ S7 ++ S8) ∧ Q w1 wx)
    case first =>
      refine wp_region_held_drew (S := Q w1) (by kernel_rfl) ?szz0 (fun hHeld => ?rzz0)
      case szz0 =>
        exact (Q.refl w1).drew
      case' rzz0 => skip
      refine wpAnyH_take (i := 0) (oi := ?ozz1) (v := ?vzz1) ?hzz1 ?azz1 ?bzz1 ?czz1 ?qzz1 ?yzz1 ?szz1 ?rzz1
      case hzz1 => simp only [List.getElem?_toArray, List.getElem?_cons_zero]; rfl
      case azz1 => kernel_rfl
      case bzz1 => kernel_rfl
      case czz1 => kernel_rfl
      case yzz1 =>
        refine Or.inl ⟨by rfl, ?_⟩
        intro w hSw
        skip
        go_simp
        try with_reducible rfl
      case qzz1 => exact fun _ _ _ h => h
      case szz1 => first | assumption | trivial
      case' rzz1 => simp only [Act.put, List.setIfInBounds_toArray, List.set_cons_zero, List.set_cons_succ]
      refine wpAnyH_take (i := 1) (oi := ?ozz2) (v := ?vzz2) ?hzz2 ?azz2 ?bzz2 ?czz2 ?qzz2 ?yzz2 ?szz2 ?rzz2
      case hzz2 => simp only [List.getElem?_toArray, List.getElem?_cons_zero, List.getElem?_cons_succ]; rfl
      case azz2 => kernel_rfl
      case bzz2 => kernel_rfl
      case czz2 => kernel_rfl
      case yzz2 =>
        refine Or.inl ⟨by rfl, ?_⟩
        intro w hSw
        have a0 := box_ hSw x0; clear hSw
        go_simp
        try with_reducible rfl
      case qzz2 => exact fun _ _ _ h => h
      case szz2 => first | assumption | trivial
      case' rzz2 => simp only [Act.put, List.setIfInBounds_toArray, List.set_cons_zero, List.set_cons_succ]
      refine wpAnyH_take (i := 3) (oi := ?ozz3) (v := ?vzz3) ?hzz3 ?azz3 ?bzz3 ?czz3 ?qzz3 ?yzz3 ?szz3 ?rzz3
      case hzz3 => simp only [List.getElem?_toArray, List.getElem?_cons_zero, List.getElem?_cons_succ]; rfl
      case azz3 => kernel_rfl
      case bzz3 => kernel_rfl
      case czz3 => kernel_rfl
      case yzz3 =>
        refine Or.inl ⟨by rfl, ?_⟩
        intro w hSw
        skip
        go_simp
        try with_reducible rfl
      case qzz3 => exact fun _ _ _ h => h
      case szz3 => first | assumption | trivial
      case' rzz3 => simp only [Act.put, List.setIfInBounds_toArray, List.set_cons_zero, List.set_cons_succ]
      refine wpAnyH_take (i := 4) (oi := ?ozz4) (v := ?vzz4) ?hzz4 ?azz4 ?bzz4 ?czz4 ?qzz4 ?yzz4 ?szz4 ?rzz4
      case hzz4 => simp only [List.getElem?_toArray, List.getElem?_cons_zero, List.getElem?_cons_succ]; rfl
      case azz4 => kernel_rfl
      case bzz4 => kernel_rfl
      case czz4 => kernel_rfl
      case yzz4 =>
        refine Or.inl ⟨by rfl, ?_⟩
        intro w hSw
        have a0 := box_ hSw x1; clear hSw
        go_simp
        try with_reducible rfl
      case qzz4 => exact fun _ _ _ h => h
      case szz4 => first | assumption | trivial
      case' rzz4 => simp only [Act.put, List.setIfInBounds_toArray, List.set_cons_zero, List.set_cons_succ]
      refine wpAnyH_take (i := 7) (oi := ?ozz5) (v := ?vzz5) ?hzz5 ?azz5 ?bzz5 ?czz5 ?qzz5 ?yzz5 ?szz5 ?rzz5
      case hzz5 => simp only [List.getElem?_toArray, List.getElem?_cons_zero, List.getElem?_cons_succ]; rfl
      case azz5 => kernel_rfl
      case bzz5 => kernel_rfl
      case czz5 => kernel_rfl
      case yzz5 =>
        refine Or.inl ⟨by rfl, ?_⟩
        intro w hSw
        skip
        go_simp
        try with_reducible rfl
      case qzz5 => exact fun _ _ _ h => h
      case szz5 => first | assumption | trivial
      case' rzz5 => simp only [Act.put, List.setIfInBounds_toArray, List.set_cons_zero, List.set_cons_succ]
      refine wpAnyH_take (i := 8) (oi := ?ozz6) (v := ?vzz6) ?hzz6 ?azz6 ?bzz6 ?czz6 ?qzz6 ?yzz6 ?szz6 ?rzz6
      case hzz6 => simp only [List.getElem?_toArray, List.getElem?_cons_zero, List.getElem?_cons_succ]; rfl
      case azz6 => kernel_rfl
      case bzz6 => kernel_rfl
      case czz6 => kernel_rfl
      case yzz6 =>
        refine Or.inl ⟨by rfl, ?_⟩
        intro w hSw
        have a0 := box_ hSw x2; clear hSw
        go_simp
        try with_reducible rfl
      case qzz6 => exact fun _ _ _ h => h
      case szz6 => first | assumption | trivial
      case' rzz6 => simp only [Act.put, List.setIfInBounds_toArray, List.set_cons_zero, List.set_cons_succ]
      refine wpAnyH_take (i := 11) (oi := ?ozz7) (v := ?vzz7) ?hzz7 ?azz7 ?bzz7 ?czz7 ?qzz7 ?yzz7 ?szz7 ?rzz7
      case hzz7 => simp only [List.getElem?_toArray, List.getElem?_cons_zero, List.getElem?_cons_succ]; rfl
      case azz7 => kernel_rfl
      case bzz7 => kernel_rfl
      case czz7 => kernel_rfl
      case yzz7 =>
        refine Or.inl ⟨by rfl, ?_⟩
        intro w hSw
        skip
        go_simp
        try with_reducible rfl
      case qzz7 => exact fun _ _ _ h => h
      case szz7 => first | assumption | trivial
      case' rzz7 => simp only [Act.put, List.setIfInBounds_toArray, List.set_cons_zero, List.set_cons_succ]
      refine wpAnyH_take (i := 12) (oi := ?ozz8) (v := ?vzz8) ?hzz8 ?azz8 ?bzz8 ?czz8 ?qzz8 ?yzz8 ?szz8 ?rzz8
      case hzz8 => simp only [List.getElem?_toArray, List.getElem?_cons_zero, List.getElem?_cons_succ]; rfl
      case azz8 => kernel_rfl
      case bzz8 => kernel_rfl
      case czz8 => kernel_rfl
      case yzz8 =>
        refine Or.inl ⟨by rfl, ?_⟩
        intro w hSw
        have a0 := box_ hSw x3; clear hSw
        go_simp
        try with_reducible rfl
      case qzz8 => exact fun _ _ _ h => h
      case szz8 => first | assumption | trivial
      case' rzz8 => simp only [Act.put, List.setIfInBounds_toArray, List.set_cons_zero, List.set_cons_succ]
      refine wpAnyH_take (i := 15) (oi := ?ozz9) (v := ?vzz9) ?hzz9 ?azz9 ?bzz9 ?czz9 ?qzz9 ?yzz9 ?szz9 ?rzz9
      case hzz9 => simp only [List.getElem?_toArray, List.getElem?_cons_zero, List.getElem?_cons_succ]; rfl
      case azz9 => kernel_rfl
      case bzz9 => kernel_rfl
      case czz9 => kernel_rfl
      case yzz9 =>
        refine Or.inl ⟨by rfl, ?_⟩
        intro w hSw
        skip
        go_simp
        try with_reducible rfl
      case qzz9 => exact fun _ _ _ h => h
      case szz9 => first | assumption | trivial
      case' rzz9 => simp only [Act.put, List.setIfInBounds_toArray, List.set_cons_zero, List.set_cons_succ]
      refine wpAnyH_take (i := 16) (oi := ?ozz10) (v := ?vzz10) ?hzz10 ?azz10 ?bzz10 ?czz10 ?qzz10 ?yzz10 ?szz10 ?rzz10
      case hzz10 => simp only [List.getElem?_toArray, List.getElem?_cons_zero, List.getElem?_cons_succ]; rfl
      case azz10 => kernel_rfl
      case bzz10 => kernel_rfl
      case czz10 => kernel_rfl
      case yzz10 =>
        refine Or.inl ⟨by rfl, ?_⟩
        intro w hSw
        have a0 := box_ hSw x4; clear hSw
        go_simp
        try with_reducible rfl
      case qzz10 => exact fun _ _ _ h => h
      case szz10 => first | assumption | trivial
      case' rzz10 => simp only [Act.put, List.setIfInBounds_toArray, List.set_cons_zero, List.set_cons_succ]
      refine wpAnyH_take (i := 19) (oi := ?ozz11) (v := ?vzz11) ?hzz11 ?azz11 ?bzz11 ?czz11 ?qzz11 ?yzz11 ?szz11 ?rzz11
      case hzz11 => simp only [List.getElem?_toArray, List.getElem?_cons_zero, List.getElem?_cons_succ]; rfl
      case azz11 => kernel_rfl
      case bzz11 => kernel_rfl
      case czz11 => kernel_rfl
      case yzz11 =>
        refine Or.inl ⟨by rfl, ?_⟩
        intro w hSw
        skip
        go_simp
        try with_reducible rfl
      case qzz11 => exact fun _ _ _ h => h
      case szz11 => first | assumption | trivial
      case' rzz11 => simp only [Act.put, List.setIfInBounds_toArray, List.set_cons_zero, List.set_cons_succ]
      refine wpAnyH_take (i := 20) (oi := ?ozz12) (v := ?vzz12) ?hzz12 ?azz12 ?bzz12 ?czz12 ?qzz12 ?yzz12 ?szz12 ?rzz12
      case hzz12 => simp only [List.getElem?_toArray, List.getElem?_cons_zero, List.getElem?_cons_succ]; rfl
      case azz12 => kernel_rfl
      case bzz12 => kernel_rfl
      case czz12 => kernel_rfl
      case yzz12 =>
        refine Or.inl ⟨by rfl, ?_⟩
        intro w hSw
        have a0 := box_ hSw x5; clear hSw
        go_simp
        try with_reducible rfl
      case qzz12 => exact fun _ _ _ h => h
      case szz12 => first | assumption | trivial
      case' rzz12 => simp only [Act.put, List.setIfInBounds_toArray, List.set_cons_zero, List.set_cons_succ]
      refine wpAnyH_take (i := 23) (oi := ?ozz13) (v := ?vzz13) ?hzz13 ?azz13 ?bzz13 ?czz13 ?qzz13 ?yzz13 ?szz13 ?rzz13
      case hzz13 => simp only [List.getElem?_toArray, List.getElem?_cons_zero, List.getElem?_cons_succ]; rfl
      case azz13 => kernel_rfl
      case bzz13 => kernel_rfl
      case czz13 => kernel_rfl
      case yzz13 =>
        refine Or.inl ⟨by rfl, ?_⟩
        intro w hSw
        skip
        go_simp
        try with_reducible rfl
      case qzz13 => exact fun _ _ _ h => h
      case szz13 => first | assumption | trivial
      case' rzz13 => simp only [Act.put, List.setIfInBounds_toArray, List.set_cons_zero, List.set_cons_succ]
      refine wpAnyH_take (i := 24) (oi := ?ozz14) (v := ?vzz14) ?hzz14 ?azz14 ?bzz14 ?czz14 ?qzz14 ?yzz14 ?szz14 ?rzz14
      case hzz14 => simp only [List.getElem?_toArray, List.getElem?_cons_zero, List.getElem?_cons_succ]; rfl
      case azz14 => kernel_rfl
      case bzz14 => kernel_rfl
      case czz14 => kernel_rfl
      case yzz14 =>
        refine Or.inl ⟨by rfl, ?_⟩
        intro w hSw
        have a0 := box_ hSw x7; clear hSw
        go_simp
        try with_reducible rfl
      case qzz14 => exact fun _ _ _ h => h
      case szz14 => first | assumption | trivial
      case' rzz14 => simp only [Act.put, List.setIfInBounds_toArray, List.set_cons_zero, List.set_cons_succ]
      refine wpAnyH_take (i := 27) (oi := ?ozz15) (v := ?vzz15) ?hzz15 ?azz15 ?bzz15 ?czz15 ?qzz15 ?yzz15 ?szz15 ?rzz15
      case hzz15 => simp only [List.getElem?_toArray, List.getElem?_cons_zero, List.getElem?_cons_succ]; rfl
      case azz15 => kernel_rfl
      case bzz15 => kernel_rfl
      case czz15 => kernel_rfl
      case yzz15 =>
        refine Or.inl ⟨by rfl, ?_⟩
        intro w hSw
        skip
        go_simp
        try with_reducible rfl
      case qzz15 => exact fun _ _ _ h => h
      case szz15 => first | assumption | trivial
      case' rzz15 => simp only [Act.put, List.setIfInBounds_toArray, List.set_cons_zero, List.set_cons_succ]
      refine wpAnyH_take (i := 28) (oi := ?ozz16) (v := ?vzz16) ?hzz16 ?azz16 ?bzz16 ?czz16 ?qzz16 ?yzz16 ?szz16 ?rzz16
      case hzz16 => simp only [List.getElem?_toArray, List.getElem?_cons_zero, List.getElem?_cons_succ]; rfl
      case azz16 => kernel_rfl
      case bzz16 => kernel_rfl
      case czz16 => kernel_rfl
      case yzz16 =>
        refine Or.inl ⟨by rfl, ?_⟩
        intro w hSw
        have a0 := box_ hSw x6; clear hSw
        go_simp
        try with_reducible rfl
      case qzz16 => exact fun _ _ _ h => h
      case szz16 => first | assumption | trivial
      case' rzz16 => simp only [Act.put, List.setIfInBounds_toArray, List.set_cons_zero, List.set_cons_succ]
      refine wpAnyH_take (i := 29) (oi := ?ozz17) (v := ?vzz17) ?hzz17 ?azz17 ?bzz17 ?czz17 ?qzz17 ?yzz17 ?szz17 ?rzz17
      case hzz17 => simp only [List.getElem?_toArray, List.getElem?_cons_zero, List.getElem?_cons_succ]; rfl
      case azz17 => kernel_rfl
      case bzz17 => kernel_rfl
      case czz17 => kernel_rfl
      case yzz17 =>
        refine Or.inl ⟨by rfl, ?_⟩
        intro w hSw
        skip
        go_simp
        try with_reducible rfl
      case qzz17 => exact fun _ _ _ h => h
      case szz17 => first | assumption | trivial
      case' rzz17 => simp only [Act.put, List.setIfInBounds_toArray, List.set_cons_zero, List.set_cons_succ]
      refine wpAnyH_ready (rs := [2]) (by kernel_rfl) (by simp) ?_
      refine AllReadyH.cons (o := ?ozz33) ?hzz33 (fun K hK => ?kzz33) ?mzz33
      case hzz33 => simp only [List.getElem?_toArray, List.getElem?_cons_zero, List.getElem?_cons_succ]; rfl
      case kzz33 =>
        go_simp
        refine (K1.out _).mono ?_
        rintro e1 v1 ⟨rfl, q11⟩
        go_wp2_with fail
        refine hK.out _ _ ?Szz33 (fun hHeld => ?Rzz33)
        case Szz33 =>
          exact hHeld.trans q11
        case Rzz33 =>
          clear hK K
          try simp only [Act.put, List.setIfInBounds_toArray, List.set_cons_zero, List.set_cons_succ]
          refine wpAnyH_ready (rs := [5]) (by kernel_rfl) (by simp) ?_
          refine AllReadyH.cons (o := ?ozz32) ?hzz32 (fun K hK => ?kzz32) ?mzz32
          case hzz32 => simp only [List.getElem?_toArray, List.getElem?_cons_zero, List.getElem?_cons_succ]; rfl
          case kzz32 =>
            go_simp
            refine (K2.out _).mono ?_
            rintro e2 v2 ⟨rfl, q12⟩
            go_wp2_with fail
            refine hK.out _ _ ?Szz32 (fun hHeld => ?Rzz32)
            case Szz32 =>
              exact hHeld.trans q12
            case Rzz32 =>
              clear hK K
              try simp only [Act.put, List.setIfInBounds_toArray, List.set_cons_zero, List.set_cons_succ]
              refine wpAnyH_take (i := 6) (oi := ?ozz18) (v := ?vzz18) ?hzz18 ?azz18 ?bzz18 ?czz18 ?qzz18 ?yzz18 ?szz18 ?rzz18
              case hzz18 => simp only [List.getElem?_toArray, List.getElem?_cons_zero, List.getElem?_cons_succ]; rfl
              case azz18 => kernel_rfl
              case bzz18 => kernel_rfl
              case czz18 => kernel_rfl
              case yzz18 =>
                refine Or.inl ⟨by rfl, ?_⟩
                intro w hSw
                skip
                go_simp
                try with_reducible rfl
              case qzz18 => exact fun _ _ _ h => h
              case szz18 => first | assumption | trivial
              case' rzz18 => simp only [Act.put, List.setIfInBounds_toArray, List.set_cons_zero, List.set_cons_succ]
              refine wpAnyH_ready (rs := [9]) (by kernel_rfl) (by simp) ?_
              refine AllReadyH.cons (o := ?ozz31) ?hzz31 (fun K hK => ?kzz31) ?mzz31
              case hzz31 => simp only [List.getElem?_toArray, List.getElem?_cons_zero, List.getElem?_cons_succ]; rfl
              case kzz31 =>
                go_simp
                refine (K3.out _).mono ?_
                rintro e3 v3 ⟨rfl, q13⟩
                go_wp2_with fail
                refine hK.out _ _ ?Szz31 (fun hHeld => ?Rzz31)
                case Szz31 =>
                  exact hHeld.trans q13
                case Rzz31 =>
                  clear hK K
                  try simp only [Act.put, List.setIfInBounds_toArray, List.set_cons_zero, List.set_cons_succ]
                  refine wpAnyH_take (i := 10) (oi := ?ozz19) (v := ?vzz19) ?hzz19 ?azz19 ?bzz19 ?czz19 ?qzz19 ?yzz19 ?szz19 ?rzz19
                  case hzz19 => simp only [List.getElem?_toArray, List.getElem?_cons_zero, List.getElem?_cons_succ]; rfl
                  case azz19 => kernel_rfl
                  case bzz19 => kernel_rfl
                  case czz19 => kernel_rfl
                  case yzz19 =>
                    refine Or.inl ⟨by rfl, ?_⟩
                    intro w hSw
                    skip
                    go_simp
                    try with_reducible rfl
                  case qzz19 => exact fun _ _ _ h => h
                  case szz19 => first | assumption | trivial
                  case' rzz19 => simp only [Act.put, List.setIfInBounds_toArray, List.set_cons_zero, List.set_cons_succ]
                  refine wpAnyH_ready (rs := [13]) (by kernel_rfl) (by simp) ?_
                  refine AllReadyH.cons (o := ?ozz30) ?hzz30 (fun K hK => ?kzz30) ?mzz30
                  case hzz30 => simp only [List.getElem?_toArray, List.getElem?_cons_zero, List.getElem?_cons_succ]; rfl
                  case kzz30 =>
                    go_simp
                    refine (K4.out _).mono ?_
                    rintro e4 v4 ⟨rfl, q14⟩
                    go_wp2_with fail
                    refine hK.out _ _ ?Szz30 (fun hHeld => ?Rzz30)
                    case Szz30 =>
                      exact hHeld.trans q14
                    case Rzz30 =>
                      clear hK K
                      try simp only [Act.put, List.setIfInBounds_toArray, List.set_cons_zero, List.set_cons_succ]
                      refine wpAnyH_take (i := 14) (oi := ?ozz20) (v := ?vzz20) ?hzz20 ?azz20 ?bzz20 ?czz20 ?qzz20 ?yzz20 ?szz20 ?rzz20
                      case hzz20 => simp only [List.getElem?_toArray, List.getElem?_cons_zero, List.getElem?_cons_succ]; rfl
                      case azz20 => kernel_rfl
                      case bzz20 => kernel_rfl
                      case czz20 => kernel_rfl
                      case yzz20 =>
                        refine Or.inl ⟨by rfl, ?_⟩
                        intro w hSw
                        skip
                        go_simp
                        try with_reducible rfl
                      case qzz20 => exact fun _ _ _ h => h
                      case szz20 => first | assumption | trivial
                      case' rzz20 => simp only [Act.put, List.setIfInBounds_toArray, List.set_cons_zero, List.set_cons_succ]
                      refine wpAnyH_ready (rs := [17]) (by kernel_rfl) (by simp) ?_
                      refine AllReadyH.cons (o := ?ozz29) ?hzz29 (fun K hK => ?kzz29) ?mzz29
                      case hzz29 => simp only [List.getElem?_toArray, List.getElem?_cons_zero, List.getElem?_cons_succ]; rfl
                      case kzz29 =>
                        go_simp
                        refine (K5.out _).mono ?_
                        rintro e5 v5 ⟨rfl, q15⟩
                        go_wp2_with fail
                        refine hK.out _ _ ?Szz29 (fun hHeld => ?Rzz29)
                        case Szz29 =>
                          exact hHeld.trans q15
                        case Rzz29 =>
                          clear hK K
                          try simp only [Act.put, List.setIfInBounds_toArray, List.set_cons_zero, List.set_cons_succ]
                          refine wpAnyH_take (i := 18) (oi := ?ozz21) (v := ?vzz21) ?hzz21 ?azz21 ?bzz21 ?czz21 ?qzz21 ?yzz21 ?szz21 ?rzz21
                          case hzz21 => simp only [List.getElem?_toArray, List.getElem?_cons_zero, List.getElem?_cons_succ]; rfl
                          case azz21 => kernel_rfl
                          case bzz21 => kernel_rfl
                          case czz21 => kernel_rfl
                          case yzz21 =>
                            refine Or.inl ⟨by rfl, ?_⟩
                            intro w hSw
                            skip
                            go_simp
                            try with_reducible rfl
                          case qzz21 => exact fun _ _ _ h => h
                          case szz21 => first | assumption | trivial
                          case' rzz21 => simp only [Act.put, List.setIfInBounds_toArray, List.set_cons_zero, List.set_cons_succ]
                          refine wpAnyH_ready (rs := [21]) (by kernel_rfl) (by simp) ?_
                          refine AllReadyH.cons (o := ?ozz28) ?hzz28 (fun K hK => ?kzz28) ?mzz28
                          case hzz28 => simp only [List.getElem?_toArray, List.getElem?_cons_zero, List.getElem?_cons_succ]; rfl
                          case kzz28 =>
                            go_simp
                            refine (K6.out _).mono ?_
                            rintro e6 v6 ⟨rfl, q16⟩
                            go_wp2_with fail
                            refine hK.out _ _ ?Szz28 (fun hHeld => ?Rzz28)
                            case Szz28 =>
                              exact hHeld.trans q16
                            case Rzz28 =>
                              clear hK K
                              try simp only [Act.put, List.setIfInBounds_toArray, List.set_cons_zero, List.set_cons_succ]
                              refine wpAnyH_take (i := 22) (oi := ?ozz22) (v := ?vzz22) ?hzz22 ?azz22 ?bzz22 ?czz22 ?qzz22 ?yzz22 ?szz22 ?rzz22
                              case hzz22 => simp only [List.getElem?_toArray, List.getElem?_cons_zero, List.getElem?_cons_succ]; rfl
                              case azz22 => kernel_rfl
                              case bzz22 => kernel_rfl
                              case czz22 => kernel_rfl
                              case yzz22 =>
                                refine Or.inl ⟨by rfl, ?_⟩
                                intro w hSw
                                skip
                                go_simp
                                try with_reducible rfl
                              case qzz22 => exact fun _ _ _ h => h
                              case szz22 => first | assumption | trivial
                              case' rzz22 => simp only [Act.put, List.setIfInBounds_toArray, List.set_cons_zero, List.set_cons_succ]
                              refine wpAnyH_ready (rs := [25]) (by kernel_rfl) (by simp) ?_
                              refine AllReadyH.cons (o := ?ozz27) ?hzz27 (fun K hK => ?kzz27) ?mzz27
                              case hzz27 => simp only [List.getElem?_toArray, List.getElem?_cons_zero, List.getElem?_cons_succ]; rfl
                              case kzz27 =>
                                go_simp
                                refine (K7.out _).mono ?_
                                rintro e7 v7 ⟨rfl, q17⟩
                                go_wp2_with fail
                                refine hK.out _ _ ?Szz27 (fun hHeld => ?Rzz27)
                                case Szz27 =>
                                  exact hHeld.trans q17
                                case Rzz27 =>
                                  clear hK K
                                  try simp only [Act.put, List.setIfInBounds_toArray, List.set_cons_zero, List.set_cons_succ]
                                  refine wpAnyH_take (i := 26) (oi := ?ozz23) (v := ?vzz23) ?hzz23 ?azz23 ?bzz23 ?czz23 ?qzz23 ?yzz23 ?szz23 ?rzz23
                                  case hzz23 => simp only [List.getElem?_toArray, List.getElem?_cons_zero, List.getElem?_cons_succ]; rfl
                                  case azz23 => kernel_rfl
                                  case bzz23 => kernel_rfl
                                  case czz23 => kernel_rfl
                                  case yzz23 =>
                                    refine Or.inl ⟨by rfl, ?_⟩
                                    intro w hSw
                                    skip
                                    go_simp
                                    try with_reducible rfl
                                  case qzz23 => exact fun _ _ _ h => h
                                  case szz23 => first | assumption | trivial
                                  case' rzz23 => simp only [Act.put, List.setIfInBounds_toArray, List.set_cons_zero, List.set_cons_succ]
                                  refine wpAnyH_ready (rs := [30]) (by kernel_rfl) (by simp) ?_
                                  refine AllReadyH.cons (o := ?ozz26) ?hzz26 (fun K hK => ?kzz26) ?mzz26
                                  case hzz26 => simp only [List.getElem?_toArray, List.getElem?_cons_zero, List.getElem?_cons_succ]; rfl
                                  case kzz26 =>
                                    go_simp
                                    refine (K8.out _).mono ?_
                                    rintro e8 v8 ⟨rfl, q18⟩
                                    go_wp2_with fail
                                    refine hK.out _ _ ?Szz26 (fun hHeld => ?Rzz26)
                                    case Szz26 =>
                                      exact hHeld.trans q18
                                    case Rzz26 =>
                                      clear hK K
                                      try simp only [Act.put, List.setIfInBounds_toArray, List.set_cons_zero, List.set_cons_succ]
                                      refine wpAnyH_take (i := 31) (oi := ?ozz24) (v := ?vzz24) ?hzz24 ?azz24 ?bzz24 ?czz24 ?qzz24 ?yzz24 ?szz24 ?rzz24
                                      case hzz24 => simp only [List.getElem?_toArray, List.getElem?_cons_zero, List.getElem?_cons_succ]; rfl
                                      case azz24 => kernel_rfl
                                      case bzz24 => kernel_rfl
                                      case czz24 => kernel_rfl
                                      case yzz24 =>
                                        refine Or.inl ⟨by rfl, ?_⟩
                                        intro w hSw
                                        skip
                                        go_simp
                                        try with_reducible rfl
                                      case qzz24 => exact fun _ _ _ h => h
                                      case szz24 => first | assumption | trivial
                                      case' rzz24 => simp only [Act.put, List.setIfInBounds_toArray, List.set_cons_zero, List.set_cons_succ]
                                      refine wpAnyH_take (i := 32) (oi := ?ozz25) (v := ?vzz25) ?hzz25 ?azz25 ?bzz25 ?czz25 ?qzz25 ?yzz25 ?szz25 ?rzz25
                                      case hzz25 => simp only [List.getElem?_toArray, List.getElem?_cons_zero, List.getElem?_cons_succ]; rfl
                                      case azz25 => kernel_rfl
                                      case bzz25 => kernel_rfl
                                      case czz25 => kernel_rfl
                                      case yzz25 =>
                                        refine Or.inl ⟨by rfl, ?_⟩
                                        intro w hSw
                                        skip
                                        go_simp
                                        try with_reducible rfl
                                      case qzz25 => exact fun _ _ _ h => h
                                      case szz25 => first | assumption | trivial
                                      case' rzz25 => simp only [Act.put, List.setIfInBounds_toArray, List.set_cons_zero, List.set_cons_succ]
                                      refine wpAnyH_done (by kernel_rfl) ?_ _
                                      go_wp2_with fail
                                      go_meet
                                      exact ⟨rfl, hHeld⟩
                                  case' mzz26 => skip
                                  exact AllReadyH.nil
                              case' mzz27 => skip
                              exact AllReadyH.nil
                          case' mzz28 => skip
                          exact AllReadyH.nil
                      case' mzz29 => skip
                      exact AllReadyH.nil
                  case' mzz30 => skip
                  exact AllReadyH.nil
              case' mzz31 => skip
              exact AllReadyH.nil
          case' mzz32 => skip
          exact AllReadyH.nil
      case' mzz33 => skip
      exact AllReadyH.nil
    case rest =>
      obtain ⟨rfl, q2⟩ := hcut
      generalize S1 ++ S2 ++ S3 ++ S4 ++ S5 ++ S6 ++ S7 ++ S8 = HD at HHd HSZ ⊢
      have Z := Lib.hid (And.intro (Y.out.1.q q2) (Y.out.2.trans q2))
      clear q2 Y x0 x1 x2 x3 x4 x5 x6 x7 c1 c2 c3 c4 c5 c6 c7 l1 l2 l3 l4 l5 l6 l7 l8 K1 K2 K3 K4 K5 K6 K7 K8
      go_upto_region 6 with (fail)
      go_loopw [5, 6] (fun sv iv wr => ∃ k : Nat, k ≤ N ∧ iv = .int .i64 (k : Nat) ∧ sv = .string (HD ++ ba (rowsB (l.take k) [])) ∧ Bx wr w.heap.size [.int .i64 e, .int .i64 s, .int .i64 n, .int .i64 er, .string v, .bool fd, .slice A N c, .bool ov] ∧ Q w wr) (fun _ i _ => N - (intOf i).toNat)
      case atStart => exact ⟨0, Nat.zero_le _, rfl, by rw [List.take_zero]; show _ = Value.string (HD ++ ba []); rw [show HD ++ ba [] = HD from by apply ByteArray.ext; apply Array.ext'; unfold ba; simp], Z.out.1, Z.out.2⟩
      case round =>
        obtain ⟨k, hk, rfl, rfl, hb, hq⟩ := hrel
        have X := Lib.hid (And.intro hb hq)
        clear hb hq Z
        have x6 := (X.out.1 6 _ rfl).1
        by_cases hlt : k < N
        case neg =>
          have HE : Hid (HD ++ ba (rowsB (l.take k) []) = ba (rep ⟨e, s, n, er, v, fd, ov, l⟩)) := Lib.hid (by
            rw [List.take_of_length_le (by rw [HL.out]; omega)]
            exact HHd.out [])
          have hkn : ¬ (k : Int) < (N : Int) := by omega
          go_wp2
          go_ret2
          exact ⟨by rw [HR2.out]; rw [HE.out]; rfl, X.out.2⟩
        have hkn : (k : Int) < (N : Int) := by omega
        have hkl : k < l.length := by rw [HL.out]; exact hlt
        obtain ⟨ad, rfl, hab, y0, y1⟩ := load_pair (HA.out.q X.out.2) hlt hkl
        have hkey := M.out.ok l[k] (List.getElem_mem hkl)
        have hsn : rowsB (l.take (k + 1)) [] = rowsB (l.take k) [] ++ (ptx l[k].key ++ ptx l[k].val) := by
          rw [List.take_succ_eq_append_getElem hkl, rowsB_snoc, List.append_nil]
          have := rowsB_app (l.take k) [] (ptx l[k].key ++ ptx l[k].val)
          rw [List.nil_append] at this
          exact this
        have hrl : (ba (rowsB (l.take k) [])).size ≤ 1700 := by
          rw [ba_size]
          have h1 := rowsB_len (l.take k) (fun x hx => M.out.ok x (List.mem_of_mem_take hx))
          have h2 : (l.take k).length ≤ 16 := by rw [List.length_take]; omega
          omega
        have HSN : Hid (HD ++ ba (rowsB (l.take k) []) ++ ba (ptx l[k].key) ++ ba (ptx l[k].val) = HD ++ ba (rowsB (l.take (k + 1)) [])) := Lib.hid (by
          rw [hsn, ← ba_app, ← ba_app]
          apply ByteArray.ext
          apply Array.ext'
          simp)
        generalize l[k] = x at y0 y1 hkey HSN
        have hsz : (HD ++ ba (rowsB (l.take k) [])).size ≤ 2000 := by rw [ByteArray.size_append]; have := HSZ.out; omega
        have T1 := Lib.hid (fun W => wtext_any x.key W (by omega))
        have T2 := Lib.hid (fun W => wtext_any x.val W (by omega))
        have m1 : (ba (ptx x.key)).size ≤ 35 := by rw [ba_size]; have := ptx_len (s := x.key) (by omega); omega
        have m2 : (ba (ptx x.val)).size ≤ 67 := by rw [ba_size]; have := ptx_len (s := x.val) (by omega); omega
        clear hrl hsn hkl hkey
        generalize HD ++ ba (rowsB (l.take k) []) = AC at hsz HSN ⊢
        generalize ba (ptx x.key) = S1 at T1 m1 HSN
        generalize ba (ptx x.val) = S2 at T2 m2 HSN
        have c1 : ¬ 9223372036854775807 < AC.size + S1.size := by omega
        have c2 : ¬ 9223372036854775807 < AC.size + S1.size + S2.size := by omega
        clear hsz m1 m2
        go_upto_region 8 with (fail)
        refine wp_region_held_drew (S := Q wr) (by kernel_rfl) ?szz34 (fun hHeld => ?rzz34)
        case szz34 =>
          exact (Q.refl wr).drew
        case' rzz34 => skip
        refine wpAnyH_take (i := 0) (oi := ?ozz35) (v := ?vzz35) ?hzz35 ?azz35 ?bzz35 ?czz35 ?qzz35 ?yzz35 ?szz35 ?rzz35
        case hzz35 => simp only [List.getElem?_toArray, List.getElem?_cons_zero]; rfl
        case azz35 => kernel_rfl
        case bzz35 => kernel_rfl
        case czz35 => kernel_rfl
        case yzz35 =>
          refine Or.inl ⟨by rfl, ?_⟩
          intro w hSw
          skip
          go_simp
          try with_reducible rfl
        case qzz35 => exact fun _ _ _ h => h
        case szz35 => first | assumption | trivial
        case' rzz35 => simp only [Act.put, List.setIfInBounds_toArray, List.set_cons_zero, List.set_cons_succ]
        refine wpAnyH_take (i := 1) (oi := ?ozz36) (v := ?vzz36) ?hzz36 ?azz36 ?bzz36 ?czz36 ?qzz36 ?yzz36 ?szz36 ?rzz36
        case hzz36 => simp only [List.getElem?_toArray, List.getElem?_cons_zero, List.getElem?_cons_succ]; rfl
        case azz36 => kernel_rfl
        case bzz36 => kernel_rfl
        case czz36 => kernel_rfl
        case yzz36 =>
          refine Or.inl ⟨by rfl, ?_⟩
          intro w hSw
          skip
          go_simp
          try with_reducible rfl
        case qzz36 => exact fun _ _ _ h => h
        case szz36 => first | assumption | trivial
        case' rzz36 => simp only [Act.put, List.setIfInBounds_toArray, List.set_cons_zero, List.set_cons_succ]
        refine wpAnyH_take (i := 2) (oi := ?ozz37) (v := ?vzz37) ?hzz37 ?azz37 ?bzz37 ?czz37 ?qzz37 ?yzz37 ?szz37 ?rzz37
        case hzz37 => simp only [List.getElem?_toArray, List.getElem?_cons_zero, List.getElem?_cons_succ]; rfl
        case azz37 => kernel_rfl
        case bzz37 => kernel_rfl
        case czz37 => kernel_rfl
        case yzz37 =>
          refine Or.inl ⟨by rfl, ?_⟩
          intro w hSw
          have a0 := box_ hSw x6; clear hSw
          go_simp
          try with_reducible rfl
        case qzz37 => exact fun _ _ _ h => h
        case szz37 => first | assumption | trivial
        case' rzz37 => simp only [Act.put, List.setIfInBounds_toArray, List.set_cons_zero, List.set_cons_succ]
        refine wpAnyH_take (i := 3) (oi := ?ozz38) (v := ?vzz38) ?hzz38 ?azz38 ?bzz38 ?czz38 ?qzz38 ?yzz38 ?szz38 ?rzz38
        case hzz38 => simp only [List.getElem?_toArray, List.getElem?_cons_zero, List.getElem?_cons_succ]; rfl
        case azz38 => kernel_rfl
        case bzz38 => kernel_rfl
        case czz38 => kernel_rfl
        case yzz38 =>
          refine Or.inl ⟨by rfl, ?_⟩
          intro w hSw
          skip
          go_simp
          try with_reducible rfl
        case qzz38 => exact fun _ _ _ h => h
        case szz38 => first | assumption | trivial
        case' rzz38 => simp only [Act.put, List.setIfInBounds_toArray, List.set_cons_zero, List.set_cons_succ]
        refine wpAnyH_take (i := 4) (oi := ?ozz39) (v := ?vzz39) ?hzz39 ?azz39 ?bzz39 ?czz39 ?qzz39 ?yzz39 ?szz39 ?rzz39
        case hzz39 => simp only [List.getElem?_toArray, List.getElem?_cons_zero, List.getElem?_cons_succ]; rfl
        case azz39 => kernel_rfl
        case bzz39 => kernel_rfl
        case czz39 => kernel_rfl
        case yzz39 =>
          refine Or.inl ⟨by rfl, ?_⟩
          intro w hSw
          skip
          go_simp
          try with_reducible rfl
        case qzz39 => exact fun _ _ _ h => h
        case szz39 => first | assumption | trivial
        case' rzz39 => simp only [Act.put, List.setIfInBounds_toArray, List.set_cons_zero, List.set_cons_succ]
        refine wpAnyH_take (i := 5) (oi := ?ozz40) (v := ?vzz40) ?hzz40 ?azz40 ?bzz40 ?czz40 ?qzz40 ?yzz40 ?szz40 ?rzz40
        case hzz40 => simp only [List.getElem?_toArray, List.getElem?_cons_zero, List.getElem?_cons_succ]; rfl
        case azz40 => kernel_rfl
        case bzz40 => kernel_rfl
        case czz40 => kernel_rfl
        case yzz40 =>
          refine Or.inl ⟨by rfl, ?_⟩
          intro w hSw
          skip
          go_simp
          try with_reducible rfl
        case qzz40 => exact fun _ _ _ h => h
        case szz40 => first | assumption | trivial
        case' rzz40 => simp only [Act.put, List.setIfInBounds_toArray, List.set_cons_zero, List.set_cons_succ]
        refine wpAnyH_take (i := 6) (oi := ?ozz41) (v := ?vzz41) ?hzz41 ?azz41 ?bzz41 ?czz41 ?qzz41 ?yzz41 ?szz41 ?rzz41
        case hzz41 => simp only [List.getElem?_toArray, List.getElem?_cons_zero, List.getElem?_cons_succ]; rfl
        case azz41 => kernel_rfl
        case bzz41 => kernel_rfl
        case czz41 => kernel_rfl
        case yzz41 =>
          refine Or.inl ⟨by rfl, ?_⟩
          intro w hSw
          have a0 := box_ hSw y0; clear hSw
          go_simp
          try with_reducible rfl
        case qzz41 => exact fun _ _ _ h => h
        case szz41 => first | assumption | trivial
        case' rzz41 => simp only [Act.put, List.setIfInBounds_toArray, List.set_cons_zero, List.set_cons_succ]
        refine wpAnyH_take (i := 9) (oi := ?ozz42) (v := ?vzz42) ?hzz42 ?azz42 ?bzz42 ?czz42 ?qzz42 ?yzz42 ?szz42 ?rzz42
        case hzz42 => simp only [List.getElem?_toArray, List.getElem?_cons_zero, List.getElem?_cons_succ]; rfl
        case azz42 => kernel_rfl
        case bzz42 => kernel_rfl
        case czz42 => kernel_rfl
        case yzz42 =>
          refine Or.inl ⟨by rfl, ?_⟩
          intro w hSw
          skip
          go_simp
          try with_reducible rfl
        case qzz42 => exact fun _ _ _ h => h
        case szz42 => first | assumption | trivial
        case' rzz42 => simp only [Act.put, List.setIfInBounds_toArray, List.set_cons_zero, List.set_cons_succ]
        refine wpAnyH_take (i := 10) (oi := ?ozz43) (v := ?vzz43) ?hzz43 ?azz43 ?bzz43 ?czz43 ?qzz43 ?yzz43 ?szz43 ?rzz43
        case hzz43 => simp only [List.getElem?_toArray, List.getElem?_cons_zero, List.getElem?_cons_succ]; rfl
        case azz43 => kernel_rfl
        case bzz43 => kernel_rfl
        case czz43 => kernel_rfl
        case yzz43 =>
          refine Or.inl ⟨by rfl, ?_⟩
          intro w hSw
          have a0 := box_ hSw x6; clear hSw
          go_simp
          try with_reducible rfl
        case qzz43 => exact fun _ _ _ h => h
        case szz43 => first | assumption | trivial
        case' rzz43 => simp only [Act.put, List.setIfInBounds_toArray, List.set_cons_zero, List.set_cons_succ]
        refine wpAnyH_take (i := 11) (oi := ?ozz44) (v := ?vzz44) ?hzz44 ?azz44 ?bzz44 ?czz44 ?qzz44 ?yzz44 ?szz44 ?rzz44
        case hzz44 => simp only [List.getElem?_toArray, List.getElem?_cons_zero, List.getElem?_cons_succ]; rfl
        case azz44 => kernel_rfl
        case bzz44 => kernel_rfl
        case czz44 => kernel_rfl
        case yzz44 =>
          refine Or.inl ⟨by rfl, ?_⟩
          intro w hSw
          skip
          go_simp
          try with_reducible rfl
        case qzz44 => exact fun _ _ _ h => h
        case szz44 => first | assumption | trivial
        case' rzz44 => simp only [Act.put, List.setIfInBounds_toArray, List.set_cons_zero, List.set_cons_succ]
        refine wpAnyH_take (i := 12) (oi := ?ozz45) (v := ?vzz45) ?hzz45 ?azz45 ?bzz45 ?czz45 ?qzz45 ?yzz45 ?szz45 ?rzz45
        case hzz45 => simp only [List.getElem?_toArray, List.getElem?_cons_zero, List.getElem?_cons_succ]; rfl
        case azz45 => kernel_rfl
        case bzz45 => kernel_rfl
        case czz45 => kernel_rfl
        case yzz45 =>
          refine Or.inl ⟨by rfl, ?_⟩
          intro w hSw
          skip
          go_simp
          try with_reducible rfl
        case qzz45 => exact fun _ _ _ h => h
        case szz45 => first | assumption | trivial
        case' rzz45 => simp only [Act.put, List.setIfInBounds_toArray, List.set_cons_zero, List.set_cons_succ]
        refine wpAnyH_take (i := 13) (oi := ?ozz46) (v := ?vzz46) ?hzz46 ?azz46 ?bzz46 ?czz46 ?qzz46 ?yzz46 ?szz46 ?rzz46
        case hzz46 => simp only [List.getElem?_toArray, List.getElem?_cons_zero, List.getElem?_cons_succ]; rfl
        case azz46 => kernel_rfl
        case bzz46 => kernel_rfl
        case czz46 => kernel_rfl
        case yzz46 =>
          refine Or.inl ⟨by rfl, ?_⟩
          intro w hSw
          skip
          go_simp
          try with_reducible rfl
        case qzz46 => exact fun _ _ _ h => h
        case szz46 => first | assumption | trivial
        case' rzz46 => simp only [Act.put, List.setIfInBounds_toArray, List.set_cons_zero, List.set_cons_succ]
        refine wpAnyH_take (i := 14) (oi := ?ozz47) (v := ?vzz47) ?hzz47 ?azz47 ?bzz47 ?czz47 ?qzz47 ?yzz47 ?szz47 ?rzz47
        case hzz47 => simp only [List.getElem?_toArray, List.getElem?_cons_zero, List.getElem?_cons_succ]; rfl
        case azz47 => kernel_rfl
        case bzz47 => kernel_rfl
        case czz47 => kernel_rfl
        case yzz47 =>
          refine Or.inl ⟨by rfl, ?_⟩
          intro w hSw
          have a0 := box_ hSw y1; clear hSw
          go_simp
          try with_reducible rfl
        case qzz47 => exact fun _ _ _ h => h
        case szz47 => first | assumption | trivial
        case' rzz47 => simp only [Act.put, List.setIfInBounds_toArray, List.set_cons_zero, List.set_cons_succ]
        refine wpAnyH_ready (rs := [7]) (by kernel_rfl) (by simp) ?_
        refine AllReadyH.cons (o := ?ozz52) ?hzz52 (fun K hK => ?kzz52) ?mzz52
        case hzz52 => simp only [List.getElem?_toArray, List.getElem?_cons_zero, List.getElem?_cons_succ]; rfl
        case kzz52 =>
          go_simp
          refine (T1.out _).mono ?_
          rintro e2 v2 ⟨rfl, q12⟩
          go_wp2_with fail
          refine hK.out _ _ ?Szz52 (fun hHeld => ?Rzz52)
          case Szz52 =>
            exact hHeld.trans q12
          case Rzz52 =>
            clear hK K
            try simp only [Act.put, List.setIfInBounds_toArray, List.set_cons_zero, List.set_cons_succ]
            refine wpAnyH_take (i := 8) (oi := ?ozz48) (v := ?vzz48) ?hzz48 ?azz48 ?bzz48 ?czz48 ?qzz48 ?yzz48 ?szz48 ?rzz48
            case hzz48 => simp only [List.getElem?_toArray, List.getElem?_cons_zero, List.getElem?_cons_succ]; rfl
            case azz48 => kernel_rfl
            case bzz48 => kernel_rfl
            case czz48 => kernel_rfl
            case yzz48 =>
              refine Or.inl ⟨by rfl, ?_⟩
              intro w hSw
              skip
              go_simp
              try with_reducible rfl
            case qzz48 => exact fun _ _ _ h => h
            case szz48 => first | assumption | trivial
            case' rzz48 => simp only [Act.put, List.setIfInBounds_toArray, List.set_cons_zero, List.set_cons_succ]
            refine wpAnyH_ready (rs := [15]) (by kernel_rfl) (by simp) ?_
            refine AllReadyH.cons (o := ?ozz51) ?hzz51 (fun K hK => ?kzz51) ?mzz51
            case hzz51 => simp only [List.getElem?_toArray, List.getElem?_cons_zero, List.getElem?_cons_succ]; rfl
            case kzz51 =>
              go_simp
              refine (T2.out _).mono ?_
              rintro e3 v3 ⟨rfl, q13⟩
              go_wp2_with fail
              refine hK.out _ _ ?Szz51 (fun hHeld => ?Rzz51)
              case Szz51 =>
                exact hHeld.trans q13
              case Rzz51 =>
                clear hK K
                try simp only [Act.put, List.setIfInBounds_toArray, List.set_cons_zero, List.set_cons_succ]
                refine wpAnyH_take (i := 16) (oi := ?ozz49) (v := ?vzz49) ?hzz49 ?azz49 ?bzz49 ?czz49 ?qzz49 ?yzz49 ?szz49 ?rzz49
                case hzz49 => simp only [List.getElem?_toArray, List.getElem?_cons_zero, List.getElem?_cons_succ]; rfl
                case azz49 => kernel_rfl
                case bzz49 => kernel_rfl
                case czz49 => kernel_rfl
                case yzz49 =>
                  refine Or.inl ⟨by rfl, ?_⟩
                  intro w hSw
                  skip
                  go_simp
                  try with_reducible rfl
                case qzz49 => exact fun _ _ _ h => h
                case szz49 => first | assumption | trivial
                case' rzz49 => simp only [Act.put, List.setIfInBounds_toArray, List.set_cons_zero, List.set_cons_succ]
                refine wpAnyH_take (i := 17) (oi := ?ozz50) (v := ?vzz50) ?hzz50 ?azz50 ?bzz50 ?czz50 ?qzz50 ?yzz50 ?szz50 ?rzz50
                case hzz50 => simp only [List.getElem?_toArray, List.getElem?_cons_zero, List.getElem?_cons_succ]; rfl
                case azz50 => kernel_rfl
                case bzz50 => kernel_rfl
                case czz50 => kernel_rfl
                case yzz50 =>
                  refine Or.inl ⟨by rfl, ?_⟩
                  intro w hSw
                  skip
                  go_simp
                  try with_reducible rfl
                case qzz50 => exact fun _ _ _ h => h
                case szz50 => first | assumption | trivial
                case' rzz50 => simp only [Act.put, List.setIfInBounds_toArray, List.set_cons_zero, List.set_cons_succ]
                refine wpAnyH_done (by kernel_rfl) ?_ _
                have R := Lib.hid (And.intro (X.out.1.q hHeld) (X.out.2.trans hHeld))
                clear T1 T2 y0 y1 c1 c2
                go_wp2
                rw [HSN.out]
                go_roundw
                case rel => exact ⟨k + 1, by omega, by go_num, rfl, R.out.1, R.out.2⟩
                case measure => simp [intOf]; omega
            case' mzz51 => skip
            exact AllReadyH.nil
        case' mzz52 => skip
        exact AllReadyH.nil
end Wi
end Go.Proofs.YtdipikdebapmlaaDoor
