/- Bulk, FrameRow, TabLaid, KvLaid, BatchSame, BatchMayRef, BatchDoRef: merged. -/
import Derived.Test.YtbbfbdfmeifdfaaGreatDoorK6
import Derived.Test.YtbbfbdfmeifdfaaGreatDoorK5
import Derived.Test.YtbbfbdfmeifdfaaGreatDoorCards
import Derived.Test.YtbbfbdfmeifdfaaGreatDoorTie
import Derived.Deep.DeepHandedRow
import Derived.SevenTiedAt
import Derived.LaidMore
import Derived.MakeChecks
import Derived.Stop.LaidErr
import Derived.Deep.DeepWitnessRowRef
import Derived.LaidHandle
import Derived.LaidSub
import Derived.Stop.LaidTwo
import Derived.Test.YtbbfbdfmeifdfaaGreatDoorK4
import Derived.BigQuiet
/- What a law's arguments read as, where their bulk is bounded; a walk under that reading gives what the row asks. -/
namespace Go.Proofs.YtbbfbdfmeifdfaaGreatDoor
set_option maxRecDepth 100000
open Go.ChangeShapes Go.WideShapes Go.ChangeAt Go.RowKit
set_option linter.unusedVariables false

/-- the cells cs read as something of type t of a bulk of at most 2^20. -/
def RdU (w : World) (t : TypeId) (cs : List Value) : Prop :=
  ∃ (H : Type) (enc : TypeId × Value → H) (n : Nat) (d : DataW H) (ps : List MemPlace), DataW.trod enc Tryz.prog w 0 (fun _ => true) true n t cs = some (d, ps) ∧ Rows.uptoBulk d ≤ 1048576
theorem bulk_one {H : Type} (d : DataW H) : 1 ≤ Rows.uptoBulk d := by
  cases d with
  | lit l => cases l <;> simp [Rows.uptoBulk]
  | nil => simp [Rows.uptoBulk]
  | ptr d => simp [Rows.uptoBulk]
  | slice elems spare => simp [Rows.uptoBulk]
  | agg parts => simp [Rows.uptoBulk]
  | iface t d => simp [Rows.uptoBulk]
  | map entries => simp [Rows.uptoBulk]
  | held h => simp [Rows.uptoBulk]
theorem bulk_part {H : Type} {d : DataW H} {l : List (DataW H)} (h : d ∈ l) : Rows.uptoBulk d ≤ Rows.uptoBulkAll l := by
  induction l with
  | nil => cases h
  | cons x r ih =>
    simp only [Rows.uptoBulkAll]
    cases List.mem_cons.1 h with
    | inl e => subst e; omega
    | inr e => have := ih e; omega
theorem bulk_len {H : Type} (l : List (DataW H)) : l.length ≤ Rows.uptoBulkAll l := by
  induction l with
  | nil => simp [Rows.uptoBulkAll]
  | cons x r ih => have := bulk_one x; simp only [Rows.uptoBulkAll, List.length_cons]; omega
theorem RdU.string {w : World} {t : TypeId} {s : ByteArray} (h : RdU w t [.string s]) (ht : Tryz.prog.underlying t = some .string) : s.size ≤ 1048576 := by
  obtain ⟨H, enc, n, d, ps, ht', hw⟩ := h
  obtain ⟨s', e, hx, hm⟩ := DataW.trod_string ht ht'
  injection hx with h1 h2
  subst h1
  simp only [List.cons.injEq, Value.string.injEq, and_true] at e
  subst e
  simp only [Rows.uptoBulk] at hw
  have : s.data.toList.length = s.size := by simp
  omega
theorem RdU.field {w : World} {t : TypeId} {cs : List Value} {fs : Array Field} (h : RdU w t cs) (ht : Tryz.prog.underlying t = some (.struct fs)) (i : Nat) {ty : TypeId} (off k : Nat) (hi : (fs[i]?).map (fun f => (f.type, f.offset)) = some (ty, off)) (hk : Tryz.prog.cellsOf ty = k) :
    RdU w ty ((cs.drop off).take k) := by
  obtain ⟨f, hf, he⟩ := Option.map_eq_some_iff.1 hi
  injection he with e1 e2
  subst e1 e2 hk
  obtain ⟨H, enc, n, d, ps, ht', hw⟩ := h
  obtain ⟨xs, m, rfl, hx, hl, hlen, hg⟩ := DataW.trod_struct ht ht'
  injection hx with h1 h2
  subst h1
  have hil : i < fs.size := (Array.getElem?_eq_some_iff.1 hf).1
  have hxi : xs[i]? = some xs[i] := List.getElem?_eq_getElem (by omega)
  refine ⟨H, enc, m, xs[i].1, xs[i].2, (hg i f hf).trans hxi, ?_⟩
  simp only [Rows.uptoBulk] at hw
  have := bulk_part (l := xs.map (·.1)) (List.mem_map.2 ⟨xs[i], List.getElem_mem _, rfl⟩)
  omega
theorem RdU.slice {w : World} {t e : TypeId} {a : Addr} {len cap : Nat} (h : RdU w t [.slice (some a) len cap]) (ht : Tryz.prog.underlying t = some (.slice e)) :
    cap ≤ 1048576 ∧ ∀ i, i < cap → ∃ cs', w.cells? 0 (a.add (i * Tryz.prog.cellsOf e)) (Tryz.prog.cellsOf e) = some cs' ∧ RdU w e cs' := by
  obtain ⟨H, enc, n, d, ps, ht', hw⟩ := h
  rcases Deep.open_slice ht ht' with ⟨h0, _⟩ | ⟨a', len', cap', m, n', D, Pl, hcs, hb, hl, hm, hmm, hx, hi⟩
  · simp at h0
  · simp only [List.cons.injEq, Value.slice.injEq, Option.some.injEq, and_true] at hcs
    obtain ⟨rfl, rfl, rfl⟩ := hcs
    simp only [if_true] at hmm
    subst hmm
    injection hx with h1 h2
    subst h1
    simp only [Rows.uptoBulk] at hw
    have l1 := bulk_len ((List.range len).map D)
    have l2 := bulk_len ((List.range (m - len)).map fun i => D (len + i))
    refine ⟨by simp only [List.length_map, List.length_range] at l1 l2; omega, fun i hi' => ?_⟩
    obtain ⟨cs', hc, htr⟩ := hi i hi'
    refine ⟨cs', hc, H, enc, n', D i, Pl i, htr, ?_⟩
    by_cases hlt : i < len
    · have := bulk_part (l := (List.range len).map D) (List.mem_map.2 ⟨i, by simpa using hlt, rfl⟩)
      omega
    · have := bulk_part (d := D i) (l := (List.range (m - len)).map fun i => D (len + i)) (List.mem_map.2 ⟨i - len, by simp; omega, by rw [show len + (i - len) = i by omega]⟩)
      omega

theorem RdU.cap {w : World} {t e : TypeId} {a : Addr} {len cap : Nat} (h : RdU w t [.slice (some a) len cap]) (ht : Tryz.prog.underlying t = some (.slice e)) : cap ≤ 1048576 := (h.slice ht).1
/-- A walk of a law in one world, whatever its arguments read as, gives what its row asks; 'up': its second form. -/
theorem coreU {f : FuncId} {fn : Func} {s : ChangeSpec} (up : Bool) (n : Nat) (hn : fn.params.size = n) (hvars : s.vars = []) (hrt : fn.resultTypes = #[4])
    (hread0 : fn.params.toList.all (fun t => Tryz.prog.readableRec t && decide (t < Tryz.prog.types.size)) = true)
    (hs : ∀ (H : Type) (ds : List (DataW H)), ds.length = n → (s.fn H ds).results = [.lit (.bool true)] ∧ (s.fn H ds).args = ds ∧ (s.fn H ds).vars = [])
    (H : Type) (enc : TypeId × Value → H) (W : World) (base : Nat) (args : Array Value) (ds gs : List (DataW H)) (before : List MemPlace)
    (hval : ∀ (j : Nat) t v, fn.params[j]? = some t → args[j]? = some v → Value.okWide Tryz.prog W .any base t v)
    (hW : DataW.Whole enc Tryz.prog fn.params.toList s.vars false W args.toList ds gs before)
    (hcond : up = true → Rows.uptoBulkAll (ds ++ gs) ≤ 1048576)
    (hsz : (DataW.weightsEach Tryz.prog (fn.params.toList ++ s.plain.varTypes Tryz.prog) (ds ++ gs)).all (· ≤ reachBytes) = true)
    (walk : args.size = n → (∀ (j : Nat) t v, fn.params[j]? = some t → args[j]? = some v → RdV W t v ∧ (up = true → RdU W t v.cells.toList)) → Calls Tryz.prog f args W fun e W' => e = .returned (.bool true) ∧ Q W W') :
    Calls Tryz.prog f args W fun e W' => ∃ v, e = .returned v ∧ s.post enc Tryz.prog fn false true false false W args v W' := by
  have hread : ∀ t ∈ fn.params.toList, Tryz.prog.readableRec t = true ∧ t < Tryz.prog.types.size := fun t ht => by
    have := List.all_eq_true.1 hread0 t ht
    simpa using this
  have hW' := hW
  have hlt : ∀ x ∈ before, x.block < W.heap.size := fun x hx => by simpa using hW.lt x hx
  obtain ⟨p, q, hA, hV, rfl, hfz, hnd⟩ := hW
  rw [hvars] at hV
  obtain ⟨rfl, rfl⟩ := trodVars_none hV
  obtain ⟨e1, e2, h3⟩ := trodAll_len _ _ _ _ hA
  have hps : fn.params.toList.length = n := by simpa using hn
  have hds : ds.length = n := by omega
  have hsz2 : ∀ x ∈ DataW.weightsEach Tryz.prog (fn.params.toList ++ s.plain.varTypes Tryz.prog) (ds ++ []), x ≤ 140737488351232 := fun x hx => by
    have := List.all_eq_true.1 hsz x hx
    simpa [reachBytes] using of_decide_eq_true this
  refine (walk (by rw [← hps, ← e1]; simp) (fun j t v hj hv => ?_)).mono fun e W' ⟨he, hg⟩ => ?_
  · obtain ⟨d, p', hd, fuel, htr⟩ := h3 j t v (by simpa using hj) (by simpa using hv)
    have hjl : j < n := by
      have := (Array.getElem?_eq_some_iff.1 hj).1; omega
    refine ⟨⟨⟨base, hval j t v hj hv⟩, H, enc, fuel, d, p', htr, fun x hx => hsz2 x (DataW.weights_mem_each (j := j) (t := t) (d := d) ?_ (by simpa using hd) x hx)⟩, fun hup => ⟨H, enc, fuel, d, p', htr, ?_⟩⟩
    · rw [List.getElem?_append_left (by omega)]
      simpa using hj
    · have h1 := hcond hup
      have h2 := bulk_part (d := d) (l := ds ++ []) (List.mem_append_left _ (List.mem_of_getElem? hd))
      omega
  · subst he
    simp only [List.append_nil] at hW' hlt
    obtain ⟨a1, a2, a3⟩ := hs H ds hds
    refine ⟨_, rfl, ds, [], p, [], p, [], hW', ?_, ?_, ?_, hg.below.frame _, fun h => by cases h⟩
    · rw [List.append_nil, a1, hrt]
      exact trodAll_mk1 (shut_bool Tryz.underlying4 _)
    · rw [List.append_nil, a2]
      exact trodAll_keep hg _ _ _ _ hread hA hlt
    · rw [List.append_nil, a3, hvars]
      rfl
end Go.Proofs.YtbbfbdfmeifdfaaGreatDoor

/- The frame of a law whose row lists tables, in both forms: a walk under what the arguments read as, and under the tables, gives what the row asks. -/
namespace Go.Proofs.YtbbfbdfmeifdfaaGreatDoor
set_option maxRecDepth 100000
open Go.ChangeShapes Go.WideShapes Go.ChangeAt Go.RowKit
set_option linter.unusedVariables false

/-- A walk of a law, whatever its arguments read as, gives what its row asks; 'up': its second form. -/
theorem framedC {f : FuncId} {fn : Func} {s : ChangeSpec} (up : Bool) (laid : List (String × DataW Unit)) (n : Nat) (hn : fn.params.size = n) (hvars : s.vars = []) (hrt : fn.resultTypes = #[4])
    (hread0 : fn.params.toList.all (fun t => Tryz.prog.readableRec t && decide (t < Tryz.prog.types.size)) = true)
    (hs : ∀ (H : Type) (ds : List (DataW H)), ds.length = n → (s.fn H ds).results = [.lit (.bool true)] ∧ (s.fn H ds).args = ds ∧ (s.fn H ds).vars = [])
    (walk : ∀ (W : World) (args : Array Value), args.size = n → (∀ (j : Nat) t v, fn.params[j]? = some t → args[j]? = some v → RdV W t v ∧ (up = true → RdU W t v.cells.toList)) → laidMetH Tryz.prog laid W → Calls Tryz.prog f args W fun e W' => e = .returned (.bool true) ∧ Q W W')
    (H : Type) (enc : TypeId × Value → H) (W : World) (base : Nat) (args : Array Value) (ds gs : List (DataW H)) (before : List MemPlace)
    (hval : ∀ (j : Nat) t v, fn.params[j]? = some t → args[j]? = some v → Value.okWide Tryz.prog W .any base t v)
    (hW : DataW.Whole enc Tryz.prog fn.params.toList s.vars false W args.toList ds gs before)
    (hcond : up = true → Rows.uptoBulkAll (ds ++ gs) ≤ 1048576)
    (hsz : (DataW.weightsEach Tryz.prog (fn.params.toList ++ s.plain.varTypes Tryz.prog) (ds ++ gs)).all (· ≤ reachBytes) = true)
    (hL : laidMetH Tryz.prog laid W) :
    Calls Tryz.prog f args W fun e W' => ∃ v, e = .returned v ∧ s.post enc Tryz.prog fn false true false false W args v W' :=
  coreU up n hn hvars hrt hread0 hs H enc W base args ds gs before hval hW hcond hsz fun h1 h2 => walk W args h1 h2 hL
end Go.Proofs.YtbbfbdfmeifdfaaGreatDoor

/- Out of a row's list: the table of powers of ten; a start that meets the list. -/
namespace Go.Proofs.YtbbfbdfmeifdfaaGreatDoor
set_option maxRecDepth 100000
open Go.ChangeShapes Go.WideShapes Go.ChangeAt Go.RowKit
set_option linter.unusedVariables false

theorem gPow : Tryz.prog.globalNamed "internal/strconv.uint64pow10" = some 3 := by kernel_rfl
theorem gPowType : (Tryz.prog.globals[3]?).map (·.type) = some 280 := by kernel_rfl
theorem gPowCells : Tryz.prog.cellsOf 280 = 20 := by kernel_rfl
theorem gPowElem : Tryz.prog.cellsOf 109 = 1 := by kernel_rfl
end Go.Proofs.YtbbfbdfmeifdfaaGreatDoor

/- Out of a row's list: the table of powers of ten, the type of errors, kv's two errors. -/
namespace Go.Proofs.YtbbfbdfmeifdfaaGreatDoor
set_option maxRecDepth 100000
open Go.ChangeShapes Go.WideShapes Go.ChangeAt Go.RowKit
set_option linter.unusedVariables false

theorem kvRt : (Tryz.prog.cutTypes.find? (·.1 == "internal/reflectlite.rtype")).map (·.2) = some 238 := by kernel_rfl
theorem kvEt : Tryz.prog.globalNamed "errors.errorType" = some 2 := by kernel_rfl
theorem kvOneRow : ((List.range Tryz.prog.types.size).filter fun t => Tryz.prog.rowNamed t [101, 114, 114, 111, 114]) = [92] := by kernel_rfl
theorem errT_laid {l : List (String × DataW Unit)} {W : World} (hm : ("errors.errorType", Rows.laid_errors_errorType) ∈ l) (h : laidMetH Tryz.prog l W) : ErrT W := by
  have h2 := (laidMetH_iff.1 h).2 ("errors.errorType", Rows.laid_errors_errorType) (List.mem_filter.2 ⟨hm, by kernel_rfl⟩)
  obtain ⟨name, u, ty, e1, e2, e3, e4, e5⟩ := h2
  have en : name = [101, 114, 114, 111, 114] := (Option.some.inj e1).symm
  subst en
  obtain rfl := Option.some.inj (kvRt.symm.trans e2)
  have hm : ty ∈ (List.range Tryz.prog.types.size).filter fun t => Tryz.prog.rowNamed t [101, 114, 114, 111, 114] := List.mem_filter.2 ⟨List.mem_range.2 e3, e4⟩
  rw [kvOneRow] at hm
  obtain rfl := List.mem_singleton.1 hm
  have hh : typeHandle Tryz.prog 92 = .pointer (some ⟨8, 92, none⟩) := by kernel_rfl
  rw [hh] at e5
  have := World.var?_cell kvEt e5 0
  simpa [ErrT] using this

theorem kvGd : Tryz.prog.globalNamed "stanchion/kv.errDead" = some 0 := by kernel_rfl
theorem kvGdT : (Tryz.prog.globals[0]?).map (·.type) = some 92 := by kernel_rfl
theorem kvGr : Tryz.prog.globalNamed "stanchion/kv.errRefused" = some 1 := by kernel_rfl
theorem kvGrT : (Tryz.prog.globals[1]?).map (·.type) = some 92 := by kernel_rfl
theorem kvStar : "*" ++ "errors.errorString" = "*errors.errorString" := by decide
theorem kvRow (u : TypeId) (h : Tryz.prog.typeName? 3 u = some "*errors.errorString") : u = 330 :=
  typeName_ptr_named (nm := "errors.errorString") (by rw [kvStar]; kernel_rfl) (by kernel_rfl) (by decide) u (by rw [kvStar]; exact h)
theorem kvCells : Tryz.prog.cellsOf 332 = 1 := by kernel_rfl
theorem kvCellsS : Tryz.prog.cellsOf 9 = 1 := by kernel_rfl

theorem sen_laid {r : List (String × DataW Unit)} {W : World} (h : laidMet Tryz.prog (("stanchion/kv.errDead", Rows.laid_stanchion_kv_errDead) :: ("stanchion/kv.errRefused", Rows.laid_stanchion_kv_errRefused) :: r) W) : ∃ a b, Sen W a b := by
  obtain ⟨a0, a1, s0, s1, c0, c1, t0, t1, v0, v1, _, _, _, _, _, _, hne, h0, h1⟩ := laid_sentinels2 h kvGd kvGdT kvGr kvGrT Tryz.underlying92 kvRow Tryz.underlying330 Tryz.underlying332 rfl rfl Tryz.underlying9 kvCells kvCellsS
  refine ⟨a0, a1, ?_, ?_, hne, ⟨c0, t0, h0⟩, c1, t1, h1⟩
  · simpa using World.var?_cell kvGd v0 0
  · simpa using World.var?_cell kvGr v1 0

/-- the list of the laws that check nothing. -/
abbrev kvList : List (String × DataW Unit) := [("math/bits.deBruijn32tab", Rows.laid_math_bits_deBruijn32tab), ("math/bits.deBruijn64tab", Rows.laid_math_bits_deBruijn64tab), ("internal/strconv.uint64pow10", Rows.laid_internal_strconv_uint64pow10), ("errors.errorType", Rows.laid_errors_errorType), ("stanchion/kv.errDead", Rows.laid_stanchion_kv_errDead), ("stanchion/kv.errRefused", Rows.laid_stanchion_kv_errRefused)]
theorem kvListF : (kvList.filter fun x => x.2.handleName?.isNone) = [("math/bits.deBruijn32tab", Rows.laid_math_bits_deBruijn32tab), ("math/bits.deBruijn64tab", Rows.laid_math_bits_deBruijn64tab), ("internal/strconv.uint64pow10", Rows.laid_internal_strconv_uint64pow10), ("stanchion/kv.errDead", Rows.laid_stanchion_kv_errDead), ("stanchion/kv.errRefused", Rows.laid_stanchion_kv_errRefused)] := by rfl
theorem kt_laid {W : World} (h : laidMetH Tryz.prog kvList W) : ∃ a b, Kt W a b := by
  have h1 := (laidMetH_iff.1 h).1
  rw [kvListF] at h1
  have h3 := laidMet.tail (laidMet.tail h1)
  have hT : Tab W := by
    have h2 : laidMet Tryz.prog (("internal/strconv.uint64pow10", Lib.tabData .u64 Lib.pow10Tab) :: [("stanchion/kv.errDead", Rows.laid_stanchion_kv_errDead), ("stanchion/kv.errRefused", Rows.laid_stanchion_kv_errRefused)]) W := h3
    exact Lib.tabIs_of_head gPow gPowType Tryz.underlying280 Tryz.underlying109 gPowElem gPowCells h2
  obtain ⟨a, b, hS⟩ := sen_laid (laidMet.tail h3)
  exact ⟨a, b, hT, errT_laid (by simp) h, hS⟩
end Go.Proofs.YtbbfbdfmeifdfaaGreatDoor

/- Contracts: slices.Equal of pairs; batch.data, toks, Same; the document's Same. -/
namespace Go.Proofs.YtbbfbdfmeifdfaaGreatDoor
set_option maxRecDepth 100000
open Go.RowKit Prm
set_option linter.unusedVariables false
set_option linter.unusedSimpArgs false

set_option maxHeartbeats 2000000 in
theorem refSameS_any (A B C D : Option Addr) (n c m d p q r s : Nat) (x y : Bm.Sta) (w : World) (h1 : In_ pairK w A n c x.data) (h2 : In_ pairK w B m d x.toks) (h3 : In_ pairK w C p q y.data) (h4 : In_ pairK w D r s y.toks) :
    Calls Tryz.prog 32 #[staV A n c B m d, staV C p q D r s] w fun e w' => e = .returned (.bool (decide (x = y))) ∧ Q w w' := by
  obtain ⟨xd, xt⟩ := x
  obtain ⟨yd, yt⟩ := y
  simp only at h1 h2 h3 h4
  have KD := Lib.hid (fun W z => refSame_any A C n c p q xd yd W (h1.lst.q z) (h3.lst.q z) h1.max h3.max)
  have KT := Lib.hid (fun W z => refSame_any B D m d r s xt yt W (h2.lst.q z) (h4.lst.q z) h2.max h4.max)
  have hE : decide (Bm.Sta.mk xd xt = ⟨yd, yt⟩) = (decide (xd = yd) && decide (xt = yt)) := by
    by_cases e1 : xd = yd <;> by_cases e2 : xt = yt <;> simp [e1, e2]
  have HE := Lib.hid hE
  clear h1 h2 h3 h4 hE
  generalize decide (Bm.Sta.mk xd xt = ⟨yd, yt⟩) = R at HE ⊢
  generalize decide (xd = yd) = r1 at KD HE
  generalize decide (xt = yt) = r2 at KT HE
  go_enter Tryz.func32, Tryz.ntmps32
  go_upto_region 1 with (fail)
  have X : Hid (Bx ((w.alloc (.cells #[.slice A n c, .slice B m d] 30)).alloc (.cells #[.slice C p q, .slice D r s] 30)) w.heap.size [.slice A n c, .slice B m d] ∧
      Bx ((w.alloc (.cells #[.slice A n c, .slice B m d] 30)).alloc (.cells #[.slice C p q, .slice D r s] 30)) (w.heap.size + 1) [.slice C p q, .slice D r s] ∧
      Q w ((w.alloc (.cells #[.slice A n c, .slice B m d] 30)).alloc (.cells #[.slice C p q, .slice D r s] 30))) := by
    refine Lib.hid ⟨(Bx.new w [.slice A n c, .slice B m d] 30).alloc _, ?_, ((Q.refl w).alloc _).alloc _⟩
    have := Bx.new (w.alloc (.cells #[.slice A n c, .slice B m d] 30)) [.slice C p q, .slice D r s] 30
    simpa using this
  generalize ((w.alloc (.cells #[.slice A n c, .slice B m d] 30)).alloc (.cells #[.slice C p q, .slice D r s] 30)) = w2 at X ⊢
  obtain ⟨c0, c1⟩ := X.out.1.get2.1
  obtain ⟨d0, d1⟩ := X.out.2.1.get2.1
  cases r1 with
  | false =>
    go_wp2_with fail
    refine (KD.out _ X.out.2.2).mono ?_
    rintro e w3 ⟨rfl, y3⟩
    have Y3 := Lib.hid (X.out.2.2.trans y3)
    clear y3
    go_wp2_with fail
    go_ret
    exact ⟨ret_bool (by rw [HE.out]; rfl), Y3.out⟩
  | true =>
    go_wp2_with fail
    refine (KD.out _ X.out.2.2).mono ?_
    rintro e w3 ⟨rfl, y3⟩
    have Y3 := Lib.hid (And.intro (X.out.2.2.trans y3) (And.intro (X.out.1.q y3) (X.out.2.1.q y3)))
    clear y3 c0 c1 d0 d1
    obtain ⟨c0, c1⟩ := Y3.out.2.1.get2.1
    obtain ⟨d0, d1⟩ := Y3.out.2.2.get2.1
    go_wp2_with fail
    refine (KT.out _ Y3.out.1).mono ?_
    rintro e w4 ⟨rfl, y4⟩
    have Y4 := Lib.hid (Y3.out.1.trans y4)
    clear y4
    cases r2
    all_goals
      go_wp2_with fail
      go_ret
      exact ⟨ret_bool (by rw [HE.out]; rfl), Y4.out⟩
end Go.Proofs.YtbbfbdfmeifdfaaGreatDoor

/- The contract of the document's May. -/
namespace Go.Proofs.YtbbfbdfmeifdfaaGreatDoor
set_option maxRecDepth 100000
open Go.RowKit Prm
set_option linter.unusedVariables false
set_option linter.unusedSimpArgs false

namespace Bm
theorem keys_at {l : List Wr} {i : Nat} (h : i < (keys l).length) : (keys l)[i].key = (l[i]'(by simpa [keys] using h)).key := by simp [keys]
theorem keys_len (l : List Wr) : (keys l).length = l.length := by simp [keys]
theorem rise_all {l : List Wr} (h : ∀ i, ∀ h : i + 1 < l.length, lt (l[i]'(by omega)).key l[i + 1].key = true) : rise l = true :=
  right_all fun i hi => by rw [keys_at, keys_at]; exact h i (by rw [keys_len] at hi; exact hi)
theorem rise_no {l : List Wr} {i : Nat} (h : i + 1 < l.length) (hh : lt (l[i]'(by omega)).key l[i + 1].key = false) : rise l = false :=
  right_not (l := keys l) (i := i) (by rw [keys_len]; exact h) (by rw [keys_at, keys_at]; exact hh)
theorem may_rest {k : Int} {tok : ByteArray} {l : List Wr} (h : ¬(tok.size < 1 ∨ 16 < tok.size)) (hk : k = 1 ∨ k = 2) (hl : l.length ≤ 24) (h2 : k = 2 → l.length = 0) : may ⟨k, tok, l⟩ = (rise l && !l.any wrong) := by
  rcases hk with rfl | rfl
  · rw [may_1 h rfl]; simp only; rw [decide_eq_true hl]; simp
  · have := List.eq_nil_of_length_eq_zero (h2 rfl)
    subst this
    rw [may_2 h rfl]; rfl
theorem may_out {k : Int} {tok : ByteArray} {l : List Wr} (h : 24 < l.length) : may ⟨k, tok, l⟩ = false := by
  cases e : may ⟨k, tok, l⟩ with
  | false => rfl
  | true => have := may_len e; simp only at this; omega
theorem may_two {tok : ByteArray} {l : List Wr} (h : 0 < l.length) : may ⟨2, tok, l⟩ = false := by
  by_cases ht : tok.size < 1 ∨ 16 < tok.size
  · exact may_t1 ht
  · rw [may_2 ht rfl]; simp only; simp; intro e; rw [e] at h; simp at h
end Bm

set_option maxHeartbeats 4000000 in
theorem refMayB_any (k : Int) (tok : ByteArray) (A : Option Addr) (n c : Nat) (l : List Wr) (w : World) (hf : Lst writeK w A n l) (hn : n ≤ maxLen) :
    Calls Tryz.prog 33 #[batV k tok A n c] w fun e w' => e = .returned (.bool (Bm.may ⟨k, tok, l⟩)) ∧ Q w w' := by
  have hl := hf.len
  unfold maxLen at hn
  by_cases h1 : k < 1
  · have HR := Lib.hid (Bm.may_3 (b := ⟨k, tok, l⟩) (by simp only; omega) (by simp only; omega))
    clear hf hl
    go_enter Tryz.func33, Tryz.ntmps33
    go_wp2
    go_ret
    exact ⟨ret_bool HR.out.symm, (Q.refl _).alloc _⟩
  by_cases h2 : (2 : Int) < k
  · have HR := Lib.hid (Bm.may_3 (b := ⟨k, tok, l⟩) (by simp only; omega) (by simp only; omega))
    clear hf hl
    go_enter Tryz.func33, Tryz.ntmps33
    go_wp2
    go_ret
    exact ⟨ret_bool HR.out.symm, (Q.refl _).alloc _⟩
  by_cases h3 : (tok.size : Int) < 1
  · have HR := Lib.hid (Bm.may_t1 (b := ⟨k, tok, l⟩) (.inl (by simp only; omega)))
    clear hf hl
    go_enter Tryz.func33, Tryz.ntmps33
    go_wp2
    go_ret
    exact ⟨ret_bool HR.out.symm, (Q.refl _).alloc _⟩
  by_cases h4 : (16 : Int) < (tok.size : Int)
  · have HR := Lib.hid (Bm.may_t1 (b := ⟨k, tok, l⟩) (.inr (by simp only; omega)))
    clear hf hl
    go_enter Tryz.func33, Tryz.ntmps33
    go_wp2
    go_ret
    exact ⟨ret_bool HR.out.symm, (Q.refl _).alloc _⟩
  by_cases h5 : (24 : Int) < (n : Int)
  · have HR := Lib.hid (Bm.may_out (k := k) (tok := tok) (l := l) (by omega))
    clear hf hl
    go_enter Tryz.func33, Tryz.ntmps33
    go_wp2
    go_ret
    exact ⟨ret_bool HR.out.symm, (Q.refl _).alloc _⟩
  have hz : (k == 2) = true ∧ ¬((0 : Int) < (n : Int)) ∨ (k == 2) = false ∨ (k = 2 ∧ (0 : Int) < (n : Int)) := by
    by_cases e : k = 2
    · by_cases e2 : (0 : Int) < (n : Int)
      · exact .inr (.inr ⟨e, e2⟩)
      · exact .inl ⟨by simpa using e, e2⟩
    · exact .inr (.inl (by simpa using e))
  have hk2 : k = 2 → (k == 2) = true := fun e => by simpa using e
  rcases hz with hz | hz | hz
  rotate_left 2
  · obtain ⟨rfl, h6⟩ := hz
    have HR := Lib.hid (Bm.may_two (tok := tok) (l := l) (by omega))
    clear hf hl hk2
    go_enter Tryz.func33, Tryz.ntmps33
    go_wp2
    go_ret
    exact ⟨ret_bool HR.out.symm, (Q.refl _).alloc _⟩
  · obtain ⟨hz, hz0⟩ := hz
    have e : n = 0 := by omega
    subst e
    have HM := Lib.hid (show Bm.may ⟨k, tok, l⟩ = true by
      have e := List.eq_nil_of_length_eq_zero hl
      subst e
      rw [Bm.may_rest (by omega) (by omega) (by simp) (fun _ => rfl)]; rfl)
    clear hf hl hk2 h5 hz0
    go_enter Tryz.func33, Tryz.ntmps33
    go_wp2
    have X0 := Lib.hid (Bx.new w [.int .i64 k, .string tok, .slice A 0 c] 48)
    go_loopw [3] (fun i wr => i = .int .i64 0 ∧ Q (w.alloc (.cells #[.int .i64 k, .string tok, .slice A 0 c] 48)) wr) (fun _ _ => 0)
    case atStart => exact ⟨rfl, Q.refl _⟩
    case round =>
      obtain ⟨rfl, q⟩ := hrel
      obtain ⟨x0, x1, x2⟩ := (X0.out.q q).get3.1
      have HQ0 := Lib.hid (((Q.refl w).alloc _).trans q)
      clear q
      go_wp2
      go_ret
      exact ⟨ret_bool HM.out.symm, HQ0.out⟩
  · have hM : Bm.may ⟨k, tok, l⟩ = (Bm.rise l && !l.any Bm.wrong) := Bm.may_rest (by omega) (by omega) (by omega) (fun e => by rw [hk2 e] at hz; cases hz)
    have HM := Lib.hid hM
    have HF := Lib.hid hf
    have HL := Lib.hid hl
    clear hM hf hl hk2

    go_enter Tryz.func33, Tryz.ntmps33
    go_wp2
    have X0 := Lib.hid (Bx.new w [.int .i64 k, .string tok, .slice A n c] 48)
    go_loopw [3] (fun i wr => ∃ j : Nat, j ≤ n ∧ i = .int .i64 j ∧ Q (w.alloc (.cells #[.int .i64 k, .string tok, .slice A n c] 48)) wr ∧ (∀ i, ∀ h : i < l.length, i < j → Bm.wrong l[i] = false) ∧ ∀ i, ∀ h : i + 1 < l.length, i + 1 < j → lt (l[i]'(by omega)).key l[i + 1].key = true) (fun i _ => n - (intOf i).toNat)
    case atStart => exact ⟨0, Nat.zero_le _, rfl, Q.refl _, fun _ _ h => by omega, fun _ _ h => by omega⟩
    case round =>
      obtain ⟨j, hj, rfl, q, hw, hr⟩ := hrel
      have HW := Lib.hid hw
      have HS := Lib.hid hr
      have HQ := Lib.hid q
      have HQ0 := Lib.hid (((Q.refl w).alloc _).trans q)
      have x0 := (X0.out.q q).get3.1
      obtain ⟨x0, x1, x2⟩ := x0
      have hsz : w.heap.size < wr.heap.size := by have := q.size; simp at this; omega
      clear hw hr q
      by_cases hlt : j < n
      · have hjl : j < l.length := by have := HL.out; omega
        have hjn : (j : Int) < (n : Int) := by omega
        obtain ⟨ad, hA, hab, y0, y1, y2⟩ := load_write (HF.out.q HQ0.out) hlt hjl
        have HX := Lib.hid (show ∃ x, x = l[j] from ⟨_, rfl⟩)
        have HNo := Lib.hid (fun (h : Bm.wrong l[j] = true) => show Bm.may ⟨k, tok, l⟩ = false from by rw [HM.out, List.any_eq_true.2 ⟨_, List.getElem_mem hjl, h⟩]; simp)
        have HW2 := Lib.hid (fun (h : Bm.wrong l[j] = false) (i : Nat) (hi : i < l.length) (hij : i < j + 1) => show Bm.wrong l[i] = false from by
          by_cases e : i < j
          · exact HW.out i hi e
          · have e : i = j := by omega
            subst e
            exact h)
        have HS2 := Lib.hid (fun (h : ∀ h0 : 0 < j, lt (l[j - 1]'(by omega)).key l[j].key = true) (i : Nat) (hi : i + 1 < l.length) (hij : i + 1 < j + 1) => show lt (l[i]'(by omega)).key l[i + 1].key = true from by
          by_cases e : i + 1 < j
          · exact HS.out i hi e
          · have e : j = i + 1 := by omega
            subst e
            exact h (by omega))
        have HNo2 := Lib.hid (fun (h0 : 0 < j) (h : lt (l[j - 1]'(by omega)).key l[j].key = false) => show Bm.may ⟨k, tok, l⟩ = false from by
          obtain ⟨m, rfl⟩ : ∃ m, j = m + 1 := ⟨j - 1, by omega⟩
          rw [HM.out, Bm.rise_no hjl h]; simp)
        have KL := Lib.hid (fun (h0 : 0 < j) W (ha : (l[j - 1]'(by omega)).key.size ≤ 32) (hb : l[j].key.size ≤ 32) => less_any (l[j - 1]'(by omega)).key l[j].key W (by unfold maxLen; omega) (by unfold maxLen; omega))
        have HPr := Lib.hid (fun (h0 : 0 < j) => show (l[j - 1]'(by omega)).key.size ≤ 32 from (Bm.wrong_not (HW.out (j - 1) (by omega) (by omega))).2.1)
        have YP := Lib.hid (fun (h0 : 0 < j) => load_write (k := j - 1) (HF.out.q HQ0.out) (by omega) (by omega))
        subst hA
        clear HX
        by_cases h0 : 0 < j
        · obtain ⟨ad', e, hab', z0, z1, z2⟩ := YP.out h0
          injection e with e
          subst e
          have HNo2 := Lib.hid (HNo2.out h0)
          have KL := Lib.hid (KL.out h0)
          have HPr := Lib.hid (HPr.out h0)
          have HS2 := Lib.hid (fun (h : lt (l[j - 1]'(by omega)).key l[j].key = true) => HS2.out (fun _ => h))
          generalize hp : (l[j - 1]'(by omega)).key = p at z0 HNo2 KL HPr HS2
          generalize hx : l[j] = x at y0 y1 y2 HNo HW2 HNo2 KL HS2
          clear hp hx z1 z2 YP
          have h0' : (0 : Int) < (j : Int) := by omega
          obtain ⟨m, hm⟩ : ∃ m, j - 1 = m := ⟨_, rfl⟩
          rw [hm] at z0
          have e0 : IntKind.i64.wrap ((j : Int) - 1) = (m : Int) := by rw [IntKind.wrap_i64]; omega
          have e3 : (m : Int) < (n : Int) := by omega
          have hab2 : (ad.add (m * 3)).block < wr.heap.size := by rw [addr_block]; exact hab
          have z9 := fun (o : Obj) => box_ ((Q.refl wr).alloc o) z0
          clear hm
          obtain ⟨a, b, d⟩ := x
          dsimp only at *
          by_cases c1 : (a.size : Int) < 1
          · have HE := Lib.hid (HNo.out (Bm.wrong_t (.inl (by simp only; omega))))
            go_wp2
            go_ret
            exact ⟨ret_bool HE.out.symm, HQ0.out.alloc _⟩
          by_cases c2 : (32 : Int) < (a.size : Int)
          · have HE := Lib.hid (HNo.out (Bm.wrong_t (.inr (.inl (by simp only; omega)))))
            go_wp2
            go_ret
            exact ⟨ret_bool HE.out.symm, HQ0.out.alloc _⟩
          by_cases c3 : (64 : Int) < (b.size : Int)
          · have HE := Lib.hid (HNo.out (Bm.wrong_t (.inr (.inr (by simp only; split <;> omega)))))
            go_wp2
            go_ret
            exact ⟨ret_bool HE.out.symm, HQ0.out.alloc _⟩
          cases d
          · skip
            have HOk := Lib.hid (HW2.out (Bm.wrong_f (by simp only [Bool.false_eq_true, if_false]; omega)))
            have HA := Lib.hid (KL.out)
            have KL2 := Lib.hid (fun W => KL.out W HPr.out (by omega))
            by_cases hh : lt p a = true
            · have HS3 := Lib.hid (HS2.out hh)
              rw [hh] at KL2
              clear hh
              go_wp2
              go_quiet ((go_at_call 73; exact Calls.quiet_of (KL2.out _)))
              all_goals
                go_wp2
                go_roundw
                case rel => exact ⟨j + 1, by omega, by go_num, (HQ.out.alloc _).drewN _, HOk.out, HS3.out⟩
                case measure => simp [intOf]; omega
            · have hh' : lt p a = false := by simpa using hh
              have HE := Lib.hid (HNo2.out hh')
              rw [hh'] at KL2
              clear hh hh'
              go_wp2
              go_quiet ((go_at_call 73; exact Calls.quiet_of (KL2.out _)))
              all_goals
                go_wp2
                go_ret
                exact ⟨ret_bool HE.out.symm, (HQ0.out.alloc _).drewN _⟩
          · by_cases c4 : b = ⟨#[]⟩
            · subst c4
              have HOk := Lib.hid (HW2.out (Bm.wrong_f (by simp only [if_true]; have : (⟨#[]⟩ : ByteArray).size = 0 := rfl; omega)))
              have HA := Lib.hid (KL.out)
              have KL2 := Lib.hid (fun W => KL.out W HPr.out (by omega))
              by_cases hh : lt p a = true
              · have HS3 := Lib.hid (HS2.out hh)
                rw [hh] at KL2
                clear hh
                go_wp2
                go_quiet ((go_at_call 73; exact Calls.quiet_of (KL2.out _)))
                all_goals
                  go_wp2
                  go_roundw
                  case rel => exact ⟨j + 1, by omega, by go_num, (HQ.out.alloc _).drewN _, HOk.out, HS3.out⟩
                  case measure => simp [intOf]; omega
              · have hh' : lt p a = false := by simpa using hh
                have HE := Lib.hid (HNo2.out hh')
                rw [hh'] at KL2
                clear hh hh'
                go_wp2
                go_quiet ((go_at_call 73; exact Calls.quiet_of (KL2.out _)))
                all_goals
                  go_wp2
                  go_ret
                  exact ⟨ret_bool HE.out.symm, (HQ0.out.alloc _).drewN _⟩
            · obtain ⟨c5, c6, c7⟩ := empty_no c4
              have HE := Lib.hid (HNo.out (Bm.wrong_t (.inr (.inr (by simp only [if_true]; have : b.size ≠ 0 := fun e => c4 (show b = ByteArray.empty by simpa using e); omega)))))
              clear c4
              go_wp2
              go_ret
              exact ⟨ret_bool HE.out.symm, HQ0.out.alloc _⟩
        · have e0 : ¬((0 : Int) < (j : Int)) := by omega
          have HS2 := Lib.hid (HS2.out (fun h => absurd h (by omega)))
          generalize hx : l[j] = x at y0 y1 y2 HNo HW2
          clear hx YP HPr KL HNo2
          obtain ⟨a, b, d⟩ := x
          dsimp only at *
          by_cases c1 : (a.size : Int) < 1
          · have HE := Lib.hid (HNo.out (Bm.wrong_t (.inl (by simp only; omega))))
            go_wp2
            go_ret
            exact ⟨ret_bool HE.out.symm, HQ0.out.alloc _⟩
          by_cases c2 : (32 : Int) < (a.size : Int)
          · have HE := Lib.hid (HNo.out (Bm.wrong_t (.inr (.inl (by simp only; omega)))))
            go_wp2
            go_ret
            exact ⟨ret_bool HE.out.symm, HQ0.out.alloc _⟩
          by_cases c3 : (64 : Int) < (b.size : Int)
          · have HE := Lib.hid (HNo.out (Bm.wrong_t (.inr (.inr (by simp only; split <;> omega)))))
            go_wp2
            go_ret
            exact ⟨ret_bool HE.out.symm, HQ0.out.alloc _⟩
          cases d
          · skip
            have HOk := Lib.hid (HW2.out (Bm.wrong_f (by simp only [Bool.false_eq_true, if_false]; omega)))
            go_wp2
            go_roundw
            case rel => exact ⟨j + 1, by omega, by go_num, HQ.out.alloc _, HOk.out, HS2.out⟩
            case measure => simp [intOf]; omega
          · by_cases c4 : b = ⟨#[]⟩
            · subst c4
              have HOk := Lib.hid (HW2.out (Bm.wrong_f (by simp only [if_true]; have : (⟨#[]⟩ : ByteArray).size = 0 := rfl; omega)))
              go_wp2
              go_roundw
              case rel => exact ⟨j + 1, by omega, by go_num, HQ.out.alloc _, HOk.out, HS2.out⟩
              case measure => simp [intOf]; omega
            · obtain ⟨c5, c6, c7⟩ := empty_no c4
              have HE := Lib.hid (HNo.out (Bm.wrong_t (.inr (.inr (by simp only [if_true]; have : b.size ≠ 0 := fun e => c4 (show b = ByteArray.empty by simpa using e); omega)))))
              clear c4
              go_wp2
              go_ret
              exact ⟨ret_bool HE.out.symm, HQ0.out.alloc _⟩
      · have hjn : ¬((j : Int) < (n : Int)) := by omega
        have HE := Lib.hid (show Bm.may ⟨k, tok, l⟩ = true by
          rw [HM.out, Bm.rise_all (fun i hi => HS.out i hi (by have := HL.out; omega))]
          have : l.any Bm.wrong = false := by
            rw [List.any_eq_false]; intro a ha
            obtain ⟨i, hi, rfl⟩ := List.getElem_of_mem ha
            rw [HW.out i hi (by have := HL.out; omega)]; simp
          rw [this]; rfl)
        go_wp2
        go_ret
        exact ⟨ret_bool HE.out.symm, HQ0.out⟩
end Go.Proofs.YtbbfbdfmeifdfaaGreatDoor

/- Contracts: the document's Decided, Do. -/
namespace Go.Proofs.YtbbfbdfmeifdfaaGreatDoor
set_option maxRecDepth 100000
open Go.RowKit Prm
set_option linter.unusedVariables false
set_option linter.unusedSimpArgs false

/-- a state that reads so, and the errno. -/
def RetSI (w : World) (s : Bm.Sta × Nat) (e : Ending) (w' : World) : Prop :=
  ∃ A n c B m d, e = .returned (.tuple #[staV A n c B m d, .int .i64 (s.2 : Int)]) ∧ In_ pairK w' A n c s.1.data ∧ In_ pairK w' B m d s.1.toks ∧ Q w w'

theorem refDecided_any (tok : ByteArray) (A B : Option Addr) (n c m d : Nat) (t : List Pr) (w : World) (hB : Lst pairK w B m t) (hm : m ≤ maxLen) :
    Calls Tryz.prog 57 #[staV A n c B m d, .string tok] w fun e w' => e = .returned (.tuple #[.string (find tok t).1, .bool (find tok t).2]) ∧ Q w w' := by
  have K := Lib.hid (fun W q => refFind_any tok B m d t W (hB.q q) hm)
  clear hB
  go_enter Tryz.func57, Tryz.ntmps57
  go_wp2_with fail
  refine (K.out _ ((Q.refl _).alloc _)).mono ?_
  rintro e w1 ⟨rfl, rfl⟩
  go_wp2
  go_ret2
  exact ⟨rfl, (Q.refl w).alloc _⟩

set_option maxHeartbeats 8000000 in
theorem refDo_any (k : Int) (tok : ByteArray) (A B C : Option Addr) (n c m d p q : Nat) (l t : List Pr) (ws : List Wr) (w : World) (hA : In_ pairK w A n c l) (hB : In_ pairK w B m d t) (hC : Lst writeK w C p ws) (hp : p ≤ maxLen) (hb : (n + 24) * 32 ≤ 140737488355328) (hb2 : (m + 1) * 32 ≤ 140737488355328)
    (hks : KeysIn l) (hk2 : KeysIn t) (hkw : WKeysIn ws) (hky : tok.size ≤ maxLen) :
    Calls Tryz.prog 34 #[staV A n c B m d, batV k tok C p q] w (RetSI w (Bm.doo ⟨l, t⟩ ⟨k, tok, ws⟩)) := by
  have KM := Lib.hid (fun W y => refMayB_any k tok C p q ws W (hC.q y) hp)
  have KD := Lib.hid (fun W y => refDecided_any tok A B n c m d t W (hB.lst.q y) hB.max)
  have HA := Lib.hid hA
  have HB := Lib.hid hB
  cases hmay : Bm.may ⟨k, tok, ws⟩ with
  | false =>
    have HR := Lib.hid (show Bm.doo ⟨l, t⟩ ⟨k, tok, ws⟩ = (⟨l, t⟩, 1) by unfold Bm.doo; rw [if_pos hmay])
    rw [hmay] at KM
    clear hA hB hC hmay
    go_enter Tryz.func34, Tryz.ntmps34
    go_upto_region 1 with (fail)
    have X := Lib.hid (Ds.new w A n c B m d k tok C p q)
    generalize (((w.alloc (.cells #[.slice A n c, .slice B m d] 30)).alloc (.cells #[.int .i64 k, .string tok, .slice C p q] 48)).alloc (.cells #[.slice none 0 0, .slice none 0 0] 30)) = w2 at X ⊢
    obtain ⟨⟨c0, c1⟩, d0, d1, d2⟩ := X.out.get
    go_wp2_with fail
    refine (KM.out _ X.out.q).mono ?_
    rintro e w3 ⟨rfl, q3⟩
    have X3 := Lib.hid (X.out.step q3)
    clear q3 X c0 c1 d0 d1 d2
    obtain ⟨⟨c0, c1⟩, d0, d1, d2⟩ := X3.out.get
    obtain ⟨⟨p0, p1⟩, p2, p3⟩ := X3.out.b3.get2
    go_wp2
    obtain ⟨⟨r0, r1⟩, _⟩ := (X3.out.b3.set2 (.slice A n c) (.slice B m d)).get2
    refine bodyPost_ret (v := .tuple #[staV A n c B m d, .int .i64 1]) (by simp [results, Tryz.results34, go_sem, r0, r1]) rfl ?_
    rw [HR.out]
    exact ⟨A, n, c, B, m, d, rfl, HA.out.q (X3.out.q.set2 (by omega) _ _), HB.out.q (X3.out.q.set2 (by omega) _ _), X3.out.q.set2 (by omega) _ _⟩
  | true =>
    rw [hmay] at KM
    cases hf : (find tok t).2 with
    | true =>
      have HR := Lib.hid (show Bm.doo ⟨l, t⟩ ⟨k, tok, ws⟩ = (⟨l, t⟩, 8) by unfold Bm.doo; rw [if_neg (by rw [hmay]; simp), if_pos hf])
      rw [hf] at KD
      generalize (find tok t).1 = fv at KD
      clear hA hB hC hmay hf
      go_enter Tryz.func34, Tryz.ntmps34
      go_upto_region 1 with (fail)
      have X := Lib.hid (Ds.new w A n c B m d k tok C p q)
      generalize (((w.alloc (.cells #[.slice A n c, .slice B m d] 30)).alloc (.cells #[.int .i64 k, .string tok, .slice C p q] 48)).alloc (.cells #[.slice none 0 0, .slice none 0 0] 30)) = w2 at X ⊢
      obtain ⟨⟨c0, c1⟩, d0, d1, d2⟩ := X.out.get
      go_wp2_with fail
      refine (KM.out _ X.out.q).mono ?_
      rintro e w3 ⟨rfl, q3⟩
      have X3 := Lib.hid (X.out.step q3)
      clear q3 X c0 c1 d0 d1 d2
      obtain ⟨⟨c0, c1⟩, d0, d1, d2⟩ := X3.out.get
      go_wp2_with fail
      refine (KD.out _ X3.out.q).mono ?_
      rintro e w4 ⟨rfl, q4⟩
      have X4 := Lib.hid (X3.out.step q4)
      clear q4 X3 c0 c1 d0 d1 d2
      obtain ⟨⟨c0, c1⟩, d0, d1, d2⟩ := X4.out.get
      obtain ⟨⟨p0, p1⟩, p2, p3⟩ := X4.out.b3.get2
      go_wp2
      obtain ⟨⟨r0, r1⟩, _⟩ := (X4.out.b3.set2 (.slice A n c) (.slice B m d)).get2
      refine bodyPost_ret (v := .tuple #[staV A n c B m d, .int .i64 8]) (by simp [results, Tryz.results34, go_sem, r0, r1]) rfl ?_
      rw [HR.out]
      exact ⟨A, n, c, B, m, d, rfl, HA.out.q (X4.out.q.set2 (by omega) _ _), HB.out.q (X4.out.q.set2 (by omega) _ _), X4.out.q.set2 (by omega) _ _⟩
    | false =>
      have hp24 := Bm.may_len hmay
      have hkk := Bm.may_kind hmay
      simp only at hp24 hkk
      rw [hf] at KD
      generalize (find tok t).1 = fv at KD
      have hn := hA.len
      have hm := hB.len
      have hpl := hC.len
      have KA := Lib.hid (fun W y => refApply_any A C n c p q l ws W (hA.q y) (hC.q y) (by omega) hks hkw)
      have HSm := Lib.hid (show (apply l ws).length * 32 ≤ 140737488355328 ∧ (put t ⟨tok, Bm.word k⟩).length * 32 ≤ 140737488355328 from ⟨by have := apply_len l ws; omega, by have := put_len t ⟨tok, Bm.word k⟩; omega⟩)
      clear hp24 hn hm hpl
      rcases hkk with rfl | rfl
      · have HR := Lib.hid (show Bm.doo ⟨l, t⟩ ⟨1, tok, ws⟩ = (⟨apply l ws, put t ⟨tok, Bm.word 1⟩⟩, 0) by unfold Bm.doo; rw [if_neg (by rw [hmay]; simp), if_neg (by rw [hf]; simp)])
        have KP := Lib.hid (fun W y => trefPut_any tok (Bm.word 1) B m d t W (hB.lst.q y) hb2 hk2 hky)
        clear hA hB hC hmay hf hks hk2 hkw hky
        go_enter Tryz.func34, Tryz.ntmps34
        go_upto_region 1 with (fail)
        have X := Lib.hid (Ds.new w A n c B m d 1 tok C p q)
        generalize (((w.alloc (.cells #[.slice A n c, .slice B m d] 30)).alloc (.cells #[.int .i64 1, .string tok, .slice C p q] 48)).alloc (.cells #[.slice none 0 0, .slice none 0 0] 30)) = w2 at X ⊢
        obtain ⟨⟨c0, c1⟩, d0, d1, d2⟩ := X.out.get
        go_wp2_with fail
        refine (KM.out _ X.out.q).mono ?_
        rintro e w3 ⟨rfl, q3⟩
        have X3 := Lib.hid (X.out.step q3)
        clear q3 X c0 c1 d0 d1 d2
        obtain ⟨⟨c0, c1⟩, d0, d1, d2⟩ := X3.out.get
        go_wp2_with fail
        refine (KD.out _ X3.out.q).mono ?_
        rintro e w4 ⟨rfl, q4⟩
        have X4 := Lib.hid (X3.out.step q4)
        clear q4 X3 c0 c1 d0 d1 d2
        obtain ⟨⟨c0, c1⟩, d0, d1, d2⟩ := X4.out.get
        have HS4 := Lib.hid X4.out.l
        go_upto_region 10 with (fail)
        refine wp_region_held_drew (S := fun w' => Bx w' w.heap.size [.slice A n c, .slice B m d] ∧ Bx w' (w.heap.size + 1) [.int .i64 1, .string tok, .slice C p q]) (by kernel_rfl) ?szz17 (fun hHeld => ?rzz17)
        case szz17 =>
          exact ⟨X4.out.b1.drew, X4.out.b2.drew⟩
        case' rzz17 => skip
        refine wpAnyH_take (i := 0) (oi := ?ozz18) (v := ?vzz18) ?hzz18 ?azz18 ?bzz18 ?czz18 ?qzz18 ?yzz18 ?szz18 ?rzz18
        case hzz18 => simp only [List.getElem?_toArray, List.getElem?_cons_zero]; rfl
        case azz18 => kernel_rfl
        case bzz18 => kernel_rfl
        case czz18 => kernel_rfl
        case yzz18 =>
          refine Or.inl ⟨by rfl, ?_⟩
          intro w hSw
          have z := hSw.1.get2.1
          have zz := hSw.2.get3.1
          obtain ⟨s0, s1⟩ := z
          obtain ⟨s2, s3, s4⟩ := zz
          go_simp
          try with_reducible rfl
        case qzz18 => exact fun _ _ _ h => h
        case szz18 => first | assumption | trivial
        case' rzz18 => simp only [Act.put, List.setIfInBounds_toArray, List.set_cons_zero, List.set_cons_succ]
        refine wpAnyH_take (i := 1) (oi := ?ozz19) (v := ?vzz19) ?hzz19 ?azz19 ?bzz19 ?czz19 ?qzz19 ?yzz19 ?szz19 ?rzz19
        case hzz19 => simp only [List.getElem?_toArray, List.getElem?_cons_zero, List.getElem?_cons_succ]; rfl
        case azz19 => kernel_rfl
        case bzz19 => kernel_rfl
        case czz19 => kernel_rfl
        case yzz19 =>
          refine Or.inl ⟨by rfl, ?_⟩
          intro w hSw
          have z := hSw.1.get2.1
          have zz := hSw.2.get3.1
          obtain ⟨s0, s1⟩ := z
          obtain ⟨s2, s3, s4⟩ := zz
          go_simp
          try with_reducible rfl
        case qzz19 => exact fun _ _ _ h => h
        case szz19 => first | assumption | trivial
        case' rzz19 => simp only [Act.put, List.setIfInBounds_toArray, List.set_cons_zero, List.set_cons_succ]
        refine wpAnyH_take (i := 2) (oi := ?ozz20) (v := ?vzz20) ?hzz20 ?azz20 ?bzz20 ?czz20 ?qzz20 ?yzz20 ?szz20 ?rzz20
        case hzz20 => simp only [List.getElem?_toArray, List.getElem?_cons_zero, List.getElem?_cons_succ]; rfl
        case azz20 => kernel_rfl
        case bzz20 => kernel_rfl
        case czz20 => kernel_rfl
        case yzz20 =>
          refine Or.inl ⟨by rfl, ?_⟩
          intro w hSw
          have z := hSw.1.get2.1
          have zz := hSw.2.get3.1
          obtain ⟨s0, s1⟩ := z
          obtain ⟨s2, s3, s4⟩ := zz
          go_simp
          try with_reducible rfl
        case qzz20 => exact fun _ _ _ h => h
        case szz20 => first | assumption | trivial
        case' rzz20 => simp only [Act.put, List.setIfInBounds_toArray, List.set_cons_zero, List.set_cons_succ]
        refine wpAnyH_take (i := 3) (oi := ?ozz21) (v := ?vzz21) ?hzz21 ?azz21 ?bzz21 ?czz21 ?qzz21 ?yzz21 ?szz21 ?rzz21
        case hzz21 => simp only [List.getElem?_toArray, List.getElem?_cons_zero, List.getElem?_cons_succ]; rfl
        case azz21 => kernel_rfl
        case bzz21 => kernel_rfl
        case czz21 => kernel_rfl
        case yzz21 =>
          refine Or.inl ⟨by rfl, ?_⟩
          intro w hSw
          have z := hSw.1.get2.1
          have zz := hSw.2.get3.1
          obtain ⟨s0, s1⟩ := z
          obtain ⟨s2, s3, s4⟩ := zz
          go_simp
          try with_reducible rfl
        case qzz21 => exact fun _ _ _ h => h
        case szz21 => first | assumption | trivial
        case' rzz21 => simp only [Act.put, List.setIfInBounds_toArray, List.set_cons_zero, List.set_cons_succ]
        refine wpAnyH_take (i := 5) (oi := ?ozz22) (v := ?vzz22) ?hzz22 ?azz22 ?bzz22 ?czz22 ?qzz22 ?yzz22 ?szz22 ?rzz22
        case hzz22 => simp only [List.getElem?_toArray, List.getElem?_cons_zero, List.getElem?_cons_succ]; rfl
        case azz22 => kernel_rfl
        case bzz22 => kernel_rfl
        case czz22 => kernel_rfl
        case yzz22 =>
          refine Or.inl ⟨by rfl, ?_⟩
          intro w hSw
          have z := hSw.1.get2.1
          have zz := hSw.2.get3.1
          obtain ⟨s0, s1⟩ := z
          obtain ⟨s2, s3, s4⟩ := zz
          go_simp
          try with_reducible rfl
        case qzz22 => exact fun _ _ _ h => h
        case szz22 => first | assumption | trivial
        case' rzz22 => simp only [Act.put, List.setIfInBounds_toArray, List.set_cons_zero, List.set_cons_succ]
        refine wpAnyH_take (i := 6) (oi := ?ozz23) (v := ?vzz23) ?hzz23 ?azz23 ?bzz23 ?czz23 ?qzz23 ?yzz23 ?szz23 ?rzz23
        case hzz23 => simp only [List.getElem?_toArray, List.getElem?_cons_zero, List.getElem?_cons_succ]; rfl
        case azz23 => kernel_rfl
        case bzz23 => kernel_rfl
        case czz23 => kernel_rfl
        case yzz23 =>
          refine Or.inl ⟨by rfl, ?_⟩
          intro w hSw
          have z := hSw.1.get2.1
          have zz := hSw.2.get3.1
          obtain ⟨s0, s1⟩ := z
          obtain ⟨s2, s3, s4⟩ := zz
          go_simp
          try with_reducible rfl
        case qzz23 => exact fun _ _ _ h => h
        case szz23 => first | assumption | trivial
        case' rzz23 => simp only [Act.put, List.setIfInBounds_toArray, List.set_cons_zero, List.set_cons_succ]
        refine wpAnyH_take (i := 7) (oi := ?ozz24) (v := ?vzz24) ?hzz24 ?azz24 ?bzz24 ?czz24 ?qzz24 ?yzz24 ?szz24 ?rzz24
        case hzz24 => simp only [List.getElem?_toArray, List.getElem?_cons_zero, List.getElem?_cons_succ]; rfl
        case azz24 => kernel_rfl
        case bzz24 => kernel_rfl
        case czz24 => kernel_rfl
        case yzz24 =>
          refine Or.inl ⟨by rfl, ?_⟩
          intro w hSw
          have z := hSw.1.get2.1
          have zz := hSw.2.get3.1
          obtain ⟨s0, s1⟩ := z
          obtain ⟨s2, s3, s4⟩ := zz
          go_simp
          try with_reducible rfl
        case qzz24 => exact fun _ _ _ h => h
        case szz24 => first | assumption | trivial
        case' rzz24 => simp only [Act.put, List.setIfInBounds_toArray, List.set_cons_zero, List.set_cons_succ]
        refine wpAnyH_take (i := 8) (oi := ?ozz25) (v := ?vzz25) ?hzz25 ?azz25 ?bzz25 ?czz25 ?qzz25 ?yzz25 ?szz25 ?rzz25
        case hzz25 => simp only [List.getElem?_toArray, List.getElem?_cons_zero, List.getElem?_cons_succ]; rfl
        case azz25 => kernel_rfl
        case bzz25 => kernel_rfl
        case czz25 => kernel_rfl
        case yzz25 =>
          refine Or.inl ⟨by rfl, ?_⟩
          intro w hSw
          have z := hSw.1.get2.1
          have zz := hSw.2.get3.1
          obtain ⟨s0, s1⟩ := z
          obtain ⟨s2, s3, s4⟩ := zz
          go_simp
          try with_reducible rfl
        case qzz25 => exact fun _ _ _ h => h
        case szz25 => first | assumption | trivial
        case' rzz25 => simp only [Act.put, List.setIfInBounds_toArray, List.set_cons_zero, List.set_cons_succ]
        refine wpAnyH_take (i := 9) (oi := ?ozz26) (v := ?vzz26) ?hzz26 ?azz26 ?bzz26 ?czz26 ?qzz26 ?yzz26 ?szz26 ?rzz26
        case hzz26 => simp only [List.getElem?_toArray, List.getElem?_cons_zero, List.getElem?_cons_succ]; rfl
        case azz26 => kernel_rfl
        case bzz26 => kernel_rfl
        case czz26 => kernel_rfl
        case yzz26 =>
          refine Or.inl ⟨by rfl, ?_⟩
          intro w hSw
          have z := hSw.1.get2.1
          have zz := hSw.2.get3.1
          obtain ⟨s0, s1⟩ := z
          obtain ⟨s2, s3, s4⟩ := zz
          go_simp
          try with_reducible rfl
        case qzz26 => exact fun _ _ _ h => h
        case szz26 => first | assumption | trivial
        case' rzz26 => simp only [Act.put, List.setIfInBounds_toArray, List.set_cons_zero, List.set_cons_succ]
        refine wpAnyH_ready (rs := [4]) (by kernel_rfl) (by simp) ?_
        refine AllReadyH.cons (o := ?ozz31) ?hzz31 (fun K hK => ?kzz31) ?mzz31
        case hzz31 => simp only [List.getElem?_toArray, List.getElem?_cons_zero, List.getElem?_cons_succ]; rfl
        case kzz31 =>
          go_simp
          refine (KA.out _ X4.out.q.drew).mono ?_
          rintro e w5 ⟨A5, c5, rfl, o5, y5⟩
          have HS5 := Lib.hid (show w.heap.size + 1 + 1 + 1 ≤ w5.heap.size from ((X4.out.step (Q.refl _).drew).step y5).l)
          go_wp2_with fail
          refine hK.out _ _ ?Szz31 (fun hHeld => ?Rzz31)
          case Szz31 =>
            exact ⟨hHeld.1.q y5, hHeld.2.q y5⟩
          case Rzz31 =>
            clear hK K
            try simp only [Act.put, List.setIfInBounds_toArray, List.set_cons_zero, List.set_cons_succ]
            have hC := hHeld
            refine wpAnyH_ready (rs := [10]) (by kernel_rfl) (by simp) ?_
            refine AllReadyH.cons (o := ?ozz30) ?hzz30 (fun K hK => ?kzz30) ?mzz30
            case hzz30 => simp only [List.getElem?_toArray, List.getElem?_cons_zero, List.getElem?_cons_succ]; rfl
            case kzz30 =>
              go_simp
              refine (KP.out _ (X4.out.q.drew.trans y5)).mono ?_
              rintro e w7 ⟨A7, c7, rfl, o7, y7⟩
              have X7 := Lib.hid (((X4.out.step (Q.refl _).drew).step y5).step y7)
              have HO := Lib.hid (o5.q y7)
              have HT := Lib.hid o7
              clear o5 o7 y5 y7
              go_wp2_with fail
              refine hK.out _ _ ?Szz30 (fun hHeld => ?Rzz30)
              case Szz30 =>
                exact ⟨X7.out.b1, X7.out.b2⟩
              case Rzz30 =>
                clear hK K
                try simp only [Act.put, List.setIfInBounds_toArray, List.set_cons_zero, List.set_cons_succ]
                refine wpAnyH_take (i := 11) (oi := ?ozz27) (v := ?vzz27) ?hzz27 ?azz27 ?bzz27 ?czz27 ?qzz27 ?yzz27 ?szz27 ?rzz27
                case hzz27 => simp only [List.getElem?_toArray, List.getElem?_cons_zero, List.getElem?_cons_succ]; rfl
                case azz27 => kernel_rfl
                case bzz27 => kernel_rfl
                case czz27 => kernel_rfl
                case yzz27 =>
                  refine Or.inl ⟨by rfl, ?_⟩
                  intro w hSw
                  have z := hSw.1.get2.1
                  have zz := hSw.2.get3.1
                  obtain ⟨s0, s1⟩ := z
                  obtain ⟨s2, s3, s4⟩ := zz
                  go_simp
                  try with_reducible rfl
                case qzz27 => exact fun _ _ _ h => h
                case szz27 => first | assumption | trivial
                case' rzz27 => simp only [Act.put, List.setIfInBounds_toArray, List.set_cons_zero, List.set_cons_succ]
                refine wpAnyH_ready (rs := [12]) (by kernel_rfl) (by simp) ?_
                refine AllReadyH.cons (o := ?ozz29) ?hzz29 (fun K hK => ?kzz29) ?mzz29
                case hzz29 => simp only [List.getElem?_toArray, List.getElem?_cons_zero, List.getElem?_cons_succ]; rfl
                case kzz29 =>
                  obtain ⟨⟨p0, p1⟩, p2, p3⟩ := X7.out.b3.get2
                  go_simp
                  refine hK.out _ _ ?Szz29 (fun hHeld => ?Rzz29)
                  case Szz29 =>
                    exact ⟨X7.out.b1.far2 (by omega) _ _, X7.out.b2.far2 (by omega) _ _⟩
                  case Rzz29 =>
                    clear hK K
                    try simp only [Act.put, List.setIfInBounds_toArray, List.set_cons_zero, List.set_cons_succ]
                    refine wpAnyH_take (i := 13) (oi := ?ozz28) (v := ?vzz28) ?hzz28 ?azz28 ?bzz28 ?czz28 ?qzz28 ?yzz28 ?szz28 ?rzz28
                    case hzz28 => simp only [List.getElem?_toArray, List.getElem?_cons_zero, List.getElem?_cons_succ]; rfl
                    case azz28 => kernel_rfl
                    case bzz28 => kernel_rfl
                    case czz28 => kernel_rfl
                    case yzz28 =>
                      refine Or.inl ⟨by rfl, ?_⟩
                      intro w hSw
                      have z := hSw.1.get2.1
                      have zz := hSw.2.get3.1
                      obtain ⟨s0, s1⟩ := z
                      obtain ⟨s2, s3, s4⟩ := zz
                      go_simp
                      try with_reducible rfl
                    case qzz28 => exact fun _ _ _ h => h
                    case szz28 => first | assumption | trivial
                    case' rzz28 => simp only [Act.put, List.setIfInBounds_toArray, List.set_cons_zero, List.set_cons_succ]
                    refine wpAnyH_done (by kernel_rfl) ?_ _
                    obtain ⟨⟨r0, r1⟩, _⟩ := (X7.out.b3.set2 (.slice A5 (apply l ws).length c5) (.slice A7 (put t ⟨tok, Bm.word 1⟩).length c7)).get2
                    go_wp2
                    refine bodyPost_ret (v := .tuple #[staV A5 (apply l ws).length c5 A7 (put t ⟨tok, Bm.word 1⟩).length c7, .int .i64 0]) (by simp [results, Tryz.results34, go_sem, r0, r1]) rfl ?_
                    rw [HR.out]
                    exact ⟨A5, _, c5, A7, _, c7, rfl, ((HO.out.set2 (b := w.heap.size + 1 + 1) (by have := HS4.out; simp only [World.size_drew]; omega) _ _).lower (b2 := w.heap.size) (by have := HS4.out; simp only [World.size_drew]; omega)).in_ HSm.out.1, ((HT.out.set2 (b := w.heap.size + 1 + 1) (by have := HS5.out; omega) _ _).lower (b2 := w.heap.size) (by have := HS5.out; omega)).in_ HSm.out.2, X7.out.q.set2 (by omega) _ _⟩
                case' mzz29 => skip
                exact AllReadyH.nil
            case' mzz30 => skip
            exact AllReadyH.nil
        case' mzz31 => skip
        exact AllReadyH.nil
      · have HR := Lib.hid (show Bm.doo ⟨l, t⟩ ⟨2, tok, ws⟩ = (⟨apply l ws, put t ⟨tok, Bm.word 2⟩⟩, 0) by unfold Bm.doo; rw [if_neg (by rw [hmay]; simp), if_neg (by rw [hf]; simp)])
        have KP := Lib.hid (fun W y => trefPut_any tok (Bm.word 2) B m d t W (hB.lst.q y) hb2 hk2 hky)
        clear hA hB hC hmay hf hks hk2 hkw hky
        go_enter Tryz.func34, Tryz.ntmps34
        go_upto_region 1 with (fail)
        have X := Lib.hid (Ds.new w A n c B m d 2 tok C p q)
        generalize (((w.alloc (.cells #[.slice A n c, .slice B m d] 30)).alloc (.cells #[.int .i64 2, .string tok, .slice C p q] 48)).alloc (.cells #[.slice none 0 0, .slice none 0 0] 30)) = w2 at X ⊢
        obtain ⟨⟨c0, c1⟩, d0, d1, d2⟩ := X.out.get
        go_wp2_with fail
        refine (KM.out _ X.out.q).mono ?_
        rintro e w3 ⟨rfl, q3⟩
        have X3 := Lib.hid (X.out.step q3)
        clear q3 X c0 c1 d0 d1 d2
        obtain ⟨⟨c0, c1⟩, d0, d1, d2⟩ := X3.out.get
        go_wp2_with fail
        refine (KD.out _ X3.out.q).mono ?_
        rintro e w4 ⟨rfl, q4⟩
        have X4 := Lib.hid (X3.out.step q4)
        clear q4 X3 c0 c1 d0 d1 d2
        obtain ⟨⟨c0, c1⟩, d0, d1, d2⟩ := X4.out.get
        have HS4 := Lib.hid X4.out.l
        go_upto_region 10 with (fail)
        refine wp_region_held_drew (S := fun w' => Bx w' w.heap.size [.slice A n c, .slice B m d] ∧ Bx w' (w.heap.size + 1) [.int .i64 2, .string tok, .slice C p q]) (by kernel_rfl) ?szz32 (fun hHeld => ?rzz32)
        case szz32 =>
          exact ⟨X4.out.b1.drew, X4.out.b2.drew⟩
        case' rzz32 => skip
        refine wpAnyH_take (i := 0) (oi := ?ozz33) (v := ?vzz33) ?hzz33 ?azz33 ?bzz33 ?czz33 ?qzz33 ?yzz33 ?szz33 ?rzz33
        case hzz33 => simp only [List.getElem?_toArray, List.getElem?_cons_zero]; rfl
        case azz33 => kernel_rfl
        case bzz33 => kernel_rfl
        case czz33 => kernel_rfl
        case yzz33 =>
          refine Or.inl ⟨by rfl, ?_⟩
          intro w hSw
          have z := hSw.1.get2.1
          have zz := hSw.2.get3.1
          obtain ⟨s0, s1⟩ := z
          obtain ⟨s2, s3, s4⟩ := zz
          go_simp
          try with_reducible rfl
        case qzz33 => exact fun _ _ _ h => h
        case szz33 => first | assumption | trivial
        case' rzz33 => simp only [Act.put, List.setIfInBounds_toArray, List.set_cons_zero, List.set_cons_succ]
        refine wpAnyH_take (i := 1) (oi := ?ozz34) (v := ?vzz34) ?hzz34 ?azz34 ?bzz34 ?czz34 ?qzz34 ?yzz34 ?szz34 ?rzz34
        case hzz34 => simp only [List.getElem?_toArray, List.getElem?_cons_zero, List.getElem?_cons_succ]; rfl
        case azz34 => kernel_rfl
        case bzz34 => kernel_rfl
        case czz34 => kernel_rfl
        case yzz34 =>
          refine Or.inl ⟨by rfl, ?_⟩
          intro w hSw
          have z := hSw.1.get2.1
          have zz := hSw.2.get3.1
          obtain ⟨s0, s1⟩ := z
          obtain ⟨s2, s3, s4⟩ := zz
          go_simp
          try with_reducible rfl
        case qzz34 => exact fun _ _ _ h => h
        case szz34 => first | assumption | trivial
        case' rzz34 => simp only [Act.put, List.setIfInBounds_toArray, List.set_cons_zero, List.set_cons_succ]
        refine wpAnyH_take (i := 2) (oi := ?ozz35) (v := ?vzz35) ?hzz35 ?azz35 ?bzz35 ?czz35 ?qzz35 ?yzz35 ?szz35 ?rzz35
        case hzz35 => simp only [List.getElem?_toArray, List.getElem?_cons_zero, List.getElem?_cons_succ]; rfl
        case azz35 => kernel_rfl
        case bzz35 => kernel_rfl
        case czz35 => kernel_rfl
        case yzz35 =>
          refine Or.inl ⟨by rfl, ?_⟩
          intro w hSw
          have z := hSw.1.get2.1
          have zz := hSw.2.get3.1
          obtain ⟨s0, s1⟩ := z
          obtain ⟨s2, s3, s4⟩ := zz
          go_simp
          try with_reducible rfl
        case qzz35 => exact fun _ _ _ h => h
        case szz35 => first | assumption | trivial
        case' rzz35 => simp only [Act.put, List.setIfInBounds_toArray, List.set_cons_zero, List.set_cons_succ]
        refine wpAnyH_take (i := 3) (oi := ?ozz36) (v := ?vzz36) ?hzz36 ?azz36 ?bzz36 ?czz36 ?qzz36 ?yzz36 ?szz36 ?rzz36
        case hzz36 => simp only [List.getElem?_toArray, List.getElem?_cons_zero, List.getElem?_cons_succ]; rfl
        case azz36 => kernel_rfl
        case bzz36 => kernel_rfl
        case czz36 => kernel_rfl
        case yzz36 =>
          refine Or.inl ⟨by rfl, ?_⟩
          intro w hSw
          have z := hSw.1.get2.1
          have zz := hSw.2.get3.1
          obtain ⟨s0, s1⟩ := z
          obtain ⟨s2, s3, s4⟩ := zz
          go_simp
          try with_reducible rfl
        case qzz36 => exact fun _ _ _ h => h
        case szz36 => first | assumption | trivial
        case' rzz36 => simp only [Act.put, List.setIfInBounds_toArray, List.set_cons_zero, List.set_cons_succ]
        refine wpAnyH_take (i := 5) (oi := ?ozz37) (v := ?vzz37) ?hzz37 ?azz37 ?bzz37 ?czz37 ?qzz37 ?yzz37 ?szz37 ?rzz37
        case hzz37 => simp only [List.getElem?_toArray, List.getElem?_cons_zero, List.getElem?_cons_succ]; rfl
        case azz37 => kernel_rfl
        case bzz37 => kernel_rfl
        case czz37 => kernel_rfl
        case yzz37 =>
          refine Or.inl ⟨by rfl, ?_⟩
          intro w hSw
          have z := hSw.1.get2.1
          have zz := hSw.2.get3.1
          obtain ⟨s0, s1⟩ := z
          obtain ⟨s2, s3, s4⟩ := zz
          go_simp
          try with_reducible rfl
        case qzz37 => exact fun _ _ _ h => h
        case szz37 => first | assumption | trivial
        case' rzz37 => simp only [Act.put, List.setIfInBounds_toArray, List.set_cons_zero, List.set_cons_succ]
        refine wpAnyH_take (i := 6) (oi := ?ozz38) (v := ?vzz38) ?hzz38 ?azz38 ?bzz38 ?czz38 ?qzz38 ?yzz38 ?szz38 ?rzz38
        case hzz38 => simp only [List.getElem?_toArray, List.getElem?_cons_zero, List.getElem?_cons_succ]; rfl
        case azz38 => kernel_rfl
        case bzz38 => kernel_rfl
        case czz38 => kernel_rfl
        case yzz38 =>
          refine Or.inl ⟨by rfl, ?_⟩
          intro w hSw
          have z := hSw.1.get2.1
          have zz := hSw.2.get3.1
          obtain ⟨s0, s1⟩ := z
          obtain ⟨s2, s3, s4⟩ := zz
          go_simp
          try with_reducible rfl
        case qzz38 => exact fun _ _ _ h => h
        case szz38 => first | assumption | trivial
        case' rzz38 => simp only [Act.put, List.setIfInBounds_toArray, List.set_cons_zero, List.set_cons_succ]
        refine wpAnyH_take (i := 7) (oi := ?ozz39) (v := ?vzz39) ?hzz39 ?azz39 ?bzz39 ?czz39 ?qzz39 ?yzz39 ?szz39 ?rzz39
        case hzz39 => simp only [List.getElem?_toArray, List.getElem?_cons_zero, List.getElem?_cons_succ]; rfl
        case azz39 => kernel_rfl
        case bzz39 => kernel_rfl
        case czz39 => kernel_rfl
        case yzz39 =>
          refine Or.inl ⟨by rfl, ?_⟩
          intro w hSw
          have z := hSw.1.get2.1
          have zz := hSw.2.get3.1
          obtain ⟨s0, s1⟩ := z
          obtain ⟨s2, s3, s4⟩ := zz
          go_simp
          try with_reducible rfl
        case qzz39 => exact fun _ _ _ h => h
        case szz39 => first | assumption | trivial
        case' rzz39 => simp only [Act.put, List.setIfInBounds_toArray, List.set_cons_zero, List.set_cons_succ]
        refine wpAnyH_take (i := 8) (oi := ?ozz40) (v := ?vzz40) ?hzz40 ?azz40 ?bzz40 ?czz40 ?qzz40 ?yzz40 ?szz40 ?rzz40
        case hzz40 => simp only [List.getElem?_toArray, List.getElem?_cons_zero, List.getElem?_cons_succ]; rfl
        case azz40 => kernel_rfl
        case bzz40 => kernel_rfl
        case czz40 => kernel_rfl
        case yzz40 =>
          refine Or.inl ⟨by rfl, ?_⟩
          intro w hSw
          have z := hSw.1.get2.1
          have zz := hSw.2.get3.1
          obtain ⟨s0, s1⟩ := z
          obtain ⟨s2, s3, s4⟩ := zz
          go_simp
          try with_reducible rfl
        case qzz40 => exact fun _ _ _ h => h
        case szz40 => first | assumption | trivial
        case' rzz40 => simp only [Act.put, List.setIfInBounds_toArray, List.set_cons_zero, List.set_cons_succ]
        refine wpAnyH_take (i := 9) (oi := ?ozz41) (v := ?vzz41) ?hzz41 ?azz41 ?bzz41 ?czz41 ?qzz41 ?yzz41 ?szz41 ?rzz41
        case hzz41 => simp only [List.getElem?_toArray, List.getElem?_cons_zero, List.getElem?_cons_succ]; rfl
        case azz41 => kernel_rfl
        case bzz41 => kernel_rfl
        case czz41 => kernel_rfl
        case yzz41 =>
          refine Or.inl ⟨by rfl, ?_⟩
          intro w hSw
          have z := hSw.1.get2.1
          have zz := hSw.2.get3.1
          obtain ⟨s0, s1⟩ := z
          obtain ⟨s2, s3, s4⟩ := zz
          go_simp
          try with_reducible rfl
        case qzz41 => exact fun _ _ _ h => h
        case szz41 => first | assumption | trivial
        case' rzz41 => simp only [Act.put, List.setIfInBounds_toArray, List.set_cons_zero, List.set_cons_succ]
        refine wpAnyH_ready (rs := [4]) (by kernel_rfl) (by simp) ?_
        refine AllReadyH.cons (o := ?ozz46) ?hzz46 (fun K hK => ?kzz46) ?mzz46
        case hzz46 => simp only [List.getElem?_toArray, List.getElem?_cons_zero, List.getElem?_cons_succ]; rfl
        case kzz46 =>
          go_simp
          refine (KA.out _ X4.out.q.drew).mono ?_
          rintro e w5 ⟨A5, c5, rfl, o5, y5⟩
          have HS5 := Lib.hid (show w.heap.size + 1 + 1 + 1 ≤ w5.heap.size from ((X4.out.step (Q.refl _).drew).step y5).l)
          go_wp2_with fail
          refine hK.out _ _ ?Szz46 (fun hHeld => ?Rzz46)
          case Szz46 =>
            exact ⟨hHeld.1.q y5, hHeld.2.q y5⟩
          case Rzz46 =>
            clear hK K
            try simp only [Act.put, List.setIfInBounds_toArray, List.set_cons_zero, List.set_cons_succ]
            have hC := hHeld
            refine wpAnyH_ready (rs := [10]) (by kernel_rfl) (by simp) ?_
            refine AllReadyH.cons (o := ?ozz45) ?hzz45 (fun K hK => ?kzz45) ?mzz45
            case hzz45 => simp only [List.getElem?_toArray, List.getElem?_cons_zero, List.getElem?_cons_succ]; rfl
            case kzz45 =>
              go_simp
              refine (KP.out _ (X4.out.q.drew.trans y5)).mono ?_
              rintro e w7 ⟨A7, c7, rfl, o7, y7⟩
              have X7 := Lib.hid (((X4.out.step (Q.refl _).drew).step y5).step y7)
              have HO := Lib.hid (o5.q y7)
              have HT := Lib.hid o7
              clear o5 o7 y5 y7
              go_wp2_with fail
              refine hK.out _ _ ?Szz45 (fun hHeld => ?Rzz45)
              case Szz45 =>
                exact ⟨X7.out.b1, X7.out.b2⟩
              case Rzz45 =>
                clear hK K
                try simp only [Act.put, List.setIfInBounds_toArray, List.set_cons_zero, List.set_cons_succ]
                refine wpAnyH_take (i := 11) (oi := ?ozz42) (v := ?vzz42) ?hzz42 ?azz42 ?bzz42 ?czz42 ?qzz42 ?yzz42 ?szz42 ?rzz42
                case hzz42 => simp only [List.getElem?_toArray, List.getElem?_cons_zero, List.getElem?_cons_succ]; rfl
                case azz42 => kernel_rfl
                case bzz42 => kernel_rfl
                case czz42 => kernel_rfl
                case yzz42 =>
                  refine Or.inl ⟨by rfl, ?_⟩
                  intro w hSw
                  have z := hSw.1.get2.1
                  have zz := hSw.2.get3.1
                  obtain ⟨s0, s1⟩ := z
                  obtain ⟨s2, s3, s4⟩ := zz
                  go_simp
                  try with_reducible rfl
                case qzz42 => exact fun _ _ _ h => h
                case szz42 => first | assumption | trivial
                case' rzz42 => simp only [Act.put, List.setIfInBounds_toArray, List.set_cons_zero, List.set_cons_succ]
                refine wpAnyH_ready (rs := [12]) (by kernel_rfl) (by simp) ?_
                refine AllReadyH.cons (o := ?ozz44) ?hzz44 (fun K hK => ?kzz44) ?mzz44
                case hzz44 => simp only [List.getElem?_toArray, List.getElem?_cons_zero, List.getElem?_cons_succ]; rfl
                case kzz44 =>
                  obtain ⟨⟨p0, p1⟩, p2, p3⟩ := X7.out.b3.get2
                  go_simp
                  refine hK.out _ _ ?Szz44 (fun hHeld => ?Rzz44)
                  case Szz44 =>
                    exact ⟨X7.out.b1.far2 (by omega) _ _, X7.out.b2.far2 (by omega) _ _⟩
                  case Rzz44 =>
                    clear hK K
                    try simp only [Act.put, List.setIfInBounds_toArray, List.set_cons_zero, List.set_cons_succ]
                    refine wpAnyH_take (i := 13) (oi := ?ozz43) (v := ?vzz43) ?hzz43 ?azz43 ?bzz43 ?czz43 ?qzz43 ?yzz43 ?szz43 ?rzz43
                    case hzz43 => simp only [List.getElem?_toArray, List.getElem?_cons_zero, List.getElem?_cons_succ]; rfl
                    case azz43 => kernel_rfl
                    case bzz43 => kernel_rfl
                    case czz43 => kernel_rfl
                    case yzz43 =>
                      refine Or.inl ⟨by rfl, ?_⟩
                      intro w hSw
                      have z := hSw.1.get2.1
                      have zz := hSw.2.get3.1
                      obtain ⟨s0, s1⟩ := z
                      obtain ⟨s2, s3, s4⟩ := zz
                      go_simp
                      try with_reducible rfl
                    case qzz43 => exact fun _ _ _ h => h
                    case szz43 => first | assumption | trivial
                    case' rzz43 => simp only [Act.put, List.setIfInBounds_toArray, List.set_cons_zero, List.set_cons_succ]
                    refine wpAnyH_done (by kernel_rfl) ?_ _
                    obtain ⟨⟨r0, r1⟩, _⟩ := (X7.out.b3.set2 (.slice A5 (apply l ws).length c5) (.slice A7 (put t ⟨tok, Bm.word 2⟩).length c7)).get2
                    go_wp2
                    refine bodyPost_ret (v := .tuple #[staV A5 (apply l ws).length c5 A7 (put t ⟨tok, Bm.word 2⟩).length c7, .int .i64 0]) (by simp [results, Tryz.results34, go_sem, r0, r1]) rfl ?_
                    rw [HR.out]
                    exact ⟨A5, _, c5, A7, _, c7, rfl, ((HO.out.set2 (b := w.heap.size + 1 + 1) (by have := HS4.out; simp only [World.size_drew]; omega) _ _).lower (b2 := w.heap.size) (by have := HS4.out; simp only [World.size_drew]; omega)).in_ HSm.out.1, ((HT.out.set2 (b := w.heap.size + 1 + 1) (by have := HS5.out; omega) _ _).lower (b2 := w.heap.size) (by have := HS5.out; omega)).in_ HSm.out.2, X7.out.q.set2 (by omega) _ _⟩
                case' mzz44 => skip
                exact AllReadyH.nil
            case' mzz45 => skip
            exact AllReadyH.nil
        case' mzz46 => skip
        exact AllReadyH.nil
end Go.Proofs.YtbbfbdfmeifdfaaGreatDoor
