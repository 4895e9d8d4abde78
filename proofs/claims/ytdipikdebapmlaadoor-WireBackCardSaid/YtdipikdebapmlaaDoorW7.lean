/- WiErr, WiIs, WiHand, BxN, WiHandQ: merged. -/
import Derived.Test.YtdipikdebapmlaaDoorW2
import Derived.LaidEql
import Derived.Stop.Asserts
import Derived.RowKitTokens
import Derived.Stop.LaidTwo
import Derived.Test.YtdipikdebapmlaaDoorW1
import Derived.Deep.RegionHeld3
import Derived.Deep.DeepCutAuto
import Derived.Test.YtdipikdebapmlaaDoorW3
/- Contracts: errors.As at the faults of package wire. -/
namespace Go.Proofs.YtdipikdebapmlaaDoor
set_option maxRecDepth 100000
open Go.RowKit Go.Extern.Stop Go.Stop Go.Extern
set_option linter.unusedVariables false
set_option linter.unusedSimpArgs false
namespace Wi

/-- a fault, as an error. -/
abbrev fltV (a : Addr) (e : ByteArray) : Value := .iface 87 (.agg #[.iface 157 (.pointer (some a)), .string e])
abbrev fltW (T : TypeId) (v : Value) (e : ByteArray) : Value := .iface 87 (.agg #[.iface T v, .string e])

/-- nil: false. -/
theorem kas_nil (t : Value) (w : World) :
    Calls Tryd.prog 48 #[.nilIface, t] w fun e w' => e = .returned (.bool false) ∧ w' = w := by
  go_enter Tryd.func48, Tryd.ntmps48
  go_wp2
  go_ret
  exact ⟨rfl, rfl⟩

theorem kvOfP (t : Addr) (w : World) : (ReflectliteValue.unpack (.iface 93 (.pointer (some t)))).run Tryd.prog w
    = .ok (.agg #[.pointer (some ⟨3, 93, none⟩), .pointer (some ⟨w.heap.size, 0, none⟩), .int .u64 150]) (w.alloc (.cells #[.pointer (some t)] 93)) := by kernel_rfl
theorem kvTyP (a : Addr) (w : World) : (ReflectliteValue.methodAny (ReflectliteValue.valueError "reflectlite.Value.Type" 0) (fun t _ _ _ => ReflectliteType.toType t) #[.agg #[.pointer (some ⟨3, 93, none⟩), .pointer (some a), .int .u64 150]]).run Tryd.prog w
    = .ok (.iface 137 (.agg #[.pointer (some ⟨3, 93, none⟩)])) w := by kernel_rfl
theorem kvMeKind (h : Value) (w : World) : (Go.method 289 137 (.agg #[h]) "Kind").run Tryd.prog w = .ok (100, h) w := by kernel_rfl
theorem kvKindP (w : World) : ((ReflectliteType.abiMethod fun t => (fun a : Nat => Value.int IntKind.u8 (a : Int)) <$> Rtype.kind t) #[.pointer (some ⟨3, 93, none⟩)]).run Tryd.prog w = .ok (.int .u8 22) w := by kernel_rfl
theorem kvKindF (w : World) : ((ReflectliteType.abiMethod fun t => (fun a : Nat => Value.int IntKind.u8 (a : Int)) <$> Rtype.kind t) #[.pointer (some ⟨3, 87, none⟩)]).run Tryd.prog w = .ok (.int .u8 25) w := by kernel_rfl
theorem kvRlm (z : Sem Value) (f : TypeId → Addr → Nat → Nat → Sem Value) (v : Value) :
    ReflectliteValue.method z f #[v] = (do match ← ReflectliteValue.parts v with | none => z | some (t, a, fl) => f t a fl (fl % 32)) := rfl
theorem kvPartsP (a : Addr) (w : World) : (ReflectliteValue.parts (.agg #[.pointer (some ⟨3, 93, none⟩), .pointer (some a), .int .u64 150])).run Tryd.prog w = .ok (some (93, a, 150)) w := by kernel_rfl
theorem kvIsNil (a p : Addr) (W : World) (ha : W.cell? a = some (.pointer (some p))) :
    (ReflectliteValue.method (ReflectliteValue.valueError "reflectlite.Value.IsNil" 0) ReflectliteValue.isNil #[.agg #[.pointer (some ⟨3, 93, none⟩), .pointer (some a), .int .u64 150]]).run Tryd.prog W = .ok (.bool false) W := by
  rw [kvRlm]
  simp only [Sem.run_bind, kvPartsP, Result.andThen]
  simp [ReflectliteValue.isNil, loadVar, isAgg, underlying, Tryd.underlying93, ha, Result.andThen]
theorem kvMeElem (h : Value) (w : World) : (Go.method 289 137 (.agg #[h]) "Elem").run Tryd.prog w = .ok (112, .agg #[h]) w := by kernel_rfl
theorem kvMeImpl (h : Value) (w : World) : (Go.method 289 137 (.agg #[h]) "Implements").run Tryd.prog w = .ok (113, .agg #[h]) w := by kernel_rfl
theorem kvMeAssi (h : Value) (w : World) : (Go.method 289 137 (.agg #[h]) "AssignableTo").run Tryd.prog w = .ok (110, .agg #[h]) w := by kernel_rfl
theorem kvElemP (w : World) : (ReflectliteType.method ReflectliteType.elem #[.agg #[.pointer (some ⟨3, 93, none⟩)]]).run Tryd.prog w = .ok (.iface 137 (.agg #[.pointer (some ⟨3, 87, none⟩)])) w := by kernel_rfl
theorem kvImplF (w : World) : (ReflectliteType.relation "Implements" ReflectliteType.implements_ #[.agg #[.pointer (some ⟨3, 87, none⟩)], .iface 137 (.agg #[.pointer (some ⟨3, 57, none⟩)])]).run Tryd.prog w = .ok (.bool true) w := by kernel_rfl
theorem kvTypeOfF (v : Value) (w : World) : (ReflectliteType.typeOf #[.iface 87 v]).run Tryd.prog w = .ok (.iface 137 (.agg #[.pointer (some ⟨3, 87, none⟩)])) w := by kernel_rfl
theorem kvAssiF (w : World) : (ReflectliteType.relation "AssignableTo" ReflectliteType.assignableTo #[.agg #[.pointer (some ⟨3, 87, none⟩)], .iface 137 (.agg #[.pointer (some ⟨3, 87, none⟩)])]).run Tryd.prog w = .ok (.bool true) w := by kernel_rfl
theorem kvOfF (T : TypeId) (v : Value) (e : ByteArray) (w : World) : (ReflectliteValue.unpack (.iface 87 (.agg #[.iface T v, .string e]))).run Tryd.prog w
    = .ok (.agg #[.pointer (some ⟨3, 87, none⟩), .pointer (some ⟨w.heap.size, 0, none⟩), .int .u64 153]) (w.alloc (.cells #[.iface T v, .string e] 87)) := by kernel_rfl
theorem kvElemOfP (w : World) : (Rtype.elem? 93).run Tryd.prog w = .ok (some 87) w := by kernel_rfl
theorem kvMkF (p : Addr) (w : World) : (ReflectliteValue.mk 87 p ReflectliteValue.flagAddr).run Tryd.prog w = .ok (.agg #[.pointer (some ⟨3, 87, none⟩), .pointer (some p), .int .u64 409]) w := by kernel_rfl
theorem kvElemV (a p : Addr) (W : World) (ha : W.cell? a = some (.pointer (some p))) :
    (ReflectliteValue.method (ReflectliteValue.valueError "reflectlite.Value.Elem" 0) ReflectliteValue.elem #[.agg #[.pointer (some ⟨3, 93, none⟩), .pointer (some a), .int .u64 150]]).run Tryd.prog W
      = .ok (.agg #[.pointer (some ⟨3, 87, none⟩), .pointer (some p), .int .u64 409]) W := by
  rw [kvRlm]
  simp only [Sem.run_bind, kvPartsP, Result.andThen]
  simp [ReflectliteValue.elem, loadVar, isAgg, underlying, Tryd.underlying93, ha, Result.andThen, kvElemOfP, kvMkF]
theorem kvRls (v x : Value) : ReflectliteValue.set #[v, x] = (do
    let (some (dst, a, fl), some (src, b, _)) := (← ReflectliteValue.parts v, ← ReflectliteValue.parts x)
      | unsupported (.noEntry "extern/(internal/reflectlite.Value).Set.zeroValue")
    if fl / ReflectliteValue.flagAddr % 2 == 0 then unsupported (.noEntry "extern/(internal/reflectlite.Value).Set.unaddressable")
    let val ← loadVar src b
    if ← Rtype.directlyAssignable dst src then storeVar dst a val
    else if ← Rtype.implements dst src then
      if (← Rtype.kind src) == 20 then
        match val with
        | .nilIface => unsupported (.noEntry "extern/reflectlite: a nil value of one interface type handed on as a value of another")
        | _ => storeVar dst a val
      else storeVar dst a (.iface src val)
    else panicString ("reflectlite.Set: value of type " ++ (← Rtype.spelt src) ++ " is not assignable to type " ++ (← Rtype.spelt dst))
    pure (.tuple #[])) := rfl
theorem kvPartsA (a : Addr) (w : World) : (ReflectliteValue.parts (.agg #[.pointer (some ⟨3, 87, none⟩), .pointer (some a), .int .u64 409])).run Tryd.prog w = .ok (some (87, a, 409)) w := by kernel_rfl
theorem kvPartsB (a : Addr) (w : World) : (ReflectliteValue.parts (.agg #[.pointer (some ⟨3, 87, none⟩), .pointer (some a), .int .u64 153])).run Tryd.prog w = .ok (some (87, a, 153)) w := by kernel_rfl
theorem kvDirect (w : World) : (Rtype.directlyAssignable 87 87).run Tryd.prog w = .ok true w := by kernel_rfl
theorem kvSizeF (w : World) : (sizeOf 87).run Tryd.prog w = .ok 2 w := by kernel_rfl
theorem kvLoadF {b : Nat} {T : TypeId} {v : Value} {e : ByteArray} {W : World} (h : Bx W b [.iface T v, .string e]) : (loadVar 87 ⟨b, 0, none⟩).run Tryd.prog W = .ok (.agg #[.iface T v, .string e]) W := by
  have h0 := (h 0 _ rfl).1
  have h1 := (h 1 _ rfl).1
  simp [loadVar, isAgg, underlying, Tryd.underlying87, kvSizeF, loadCells, loadCellsFrom, Addr.add, h0, h1, Result.andThen]
theorem kvStoreF {b : Nat} {o0 o1 : Value} (T : TypeId) (v : Value) (e : ByteArray) {W : World} (h : Bx W b [o0, o1]) : (storeVar 87 ⟨b, 0, none⟩ (.agg #[.iface T v, .string e])).run Tryd.prog W = .ok () ((W.setCell ⟨b, 0, none⟩ (.iface T v)).setCell ⟨b, 1, none⟩ (.string e)) := by
  have h0 := h 0 _ rfl
  have h1 := (h.set (k := 0) (by simp) (.iface T v)) 1 _ rfl
  have e0 : (store (Addr.add ⟨b, 0, none⟩ 0) (.iface T v)).run Tryd.prog W = .ok () (W.setCell ⟨b, 0, none⟩ (.iface T v)) := by
    rw [run_store Tryd.prog W _ _ _ (by rfl)]
    simp [Addr.add, h0.1, h0.2]
  have e1 : (store (Addr.add ⟨b, 0, none⟩ 1) (.string e)).run Tryd.prog (W.setCell ⟨b, 0, none⟩ (.iface T v)) = .ok () ((W.setCell ⟨b, 0, none⟩ (.iface T v)).setCell ⟨b, 1, none⟩ (.string e)) := by
    rw [run_store Tryd.prog _ _ _ _ (by rfl)]
    simp [Addr.add, h1.1, h1.2]
  simp [storeVar, kvSizeF, Value.cells, storeCells, e0, e1, Result.andThen]
/-- (Value).Set at a fault. -/
theorem kvSet {b t : Nat} {o0 o1 : Value} (T : TypeId) (v : Value) (e : ByteArray) {W : World} (hb : Bx W b [.iface T v, .string e]) (ht : Bx W t [o0, o1]) :
    (ReflectliteValue.set #[.agg #[.pointer (some ⟨3, 87, none⟩), .pointer (some ⟨t, 0, none⟩), .int .u64 409], .agg #[.pointer (some ⟨3, 87, none⟩), .pointer (some ⟨b, 0, none⟩), .int .u64 153]]).run Tryd.prog W
      = .ok (.tuple #[]) ((W.setCell ⟨t, 0, none⟩ (.iface T v)).setCell ⟨t, 1, none⟩ (.string e)) := by
  rw [kvRls]
  simp only [Sem.run_bind, kvPartsA, kvPartsB, Result.andThen]
  simp [ReflectliteValue.flagAddr, kvLoadF hb, kvDirect, kvStoreF T v e ht, Result.andThen]

/-- errors.errorType's cell. -/
def ErrT (w : World) : Prop := w.cell? ⟨2, 0, none⟩ = some (.iface 137 (.agg #[.pointer (some ⟨3, 57, none⟩)]))

set_option maxHeartbeats 8000000 in
theorem kas_flt (T : TypeId) (v : Value) (e : ByteArray) (t : Nat) (o0 o1 : Value) (w : World) (hg : ErrT w) (hb : Bx w t [o0, o1]) :
    Calls Tryd.prog 48 #[fltW T v e, .iface 93 (.pointer (some ⟨t, 0, none⟩))] w fun ev w' => ev = .returned (.bool true) ∧ ∃ w1, Q w w1 ∧ w' = (w1.setCell ⟨t, 0, none⟩ (.iface T v)).setCell ⟨t, 1, none⟩ (.string e) := by
  have xValueOf := @run_callFunc_extern Tryd.prog 63 _ (fun args => ReflectliteValue.unpack (args.getD 0 (.tuple #[]))) Tryd.func63 (by kernel_rfl) (by kernel_rfl) (by kernel_rfl) (by kernel_rfl)
  have xType := @run_callFunc_extern Tryd.prog 64 _ (ReflectliteValue.methodAny (ReflectliteValue.valueError "reflectlite.Value.Type" 0) (fun t _ _ _ => ReflectliteType.toType t)) Tryd.func64 (by kernel_rfl) (by kernel_rfl) (by kernel_rfl) (by kernel_rfl)
  have xIsNil := @run_callFunc_extern Tryd.prog 65 _ (ReflectliteValue.method (ReflectliteValue.valueError "reflectlite.Value.IsNil" 0) ReflectliteValue.isNil) Tryd.func65 (by kernel_rfl) (by kernel_rfl) (by kernel_rfl) (by kernel_rfl)
  have xKind := @run_callFunc_extern Tryd.prog 100 _ (ReflectliteType.abiMethod fun t => do pure (.int .u8 (← Rtype.kind t))) Tryd.func100 (by kernel_rfl) (by kernel_rfl) (by kernel_rfl) (by kernel_rfl)
  have xElem := @run_callFunc_extern Tryd.prog 112 _ (ReflectliteType.method ReflectliteType.elem) Tryd.func112 (by kernel_rfl) (by kernel_rfl) (by kernel_rfl) (by kernel_rfl)
  have xImpl := @run_callFunc_extern Tryd.prog 113 _ (ReflectliteType.relation "Implements" ReflectliteType.implements_) Tryd.func113 (by kernel_rfl) (by kernel_rfl) (by kernel_rfl) (by kernel_rfl)
  have xTypeOf := @run_callFunc_extern Tryd.prog 67 _ ReflectliteType.typeOf Tryd.func67 (by kernel_rfl) (by kernel_rfl) (by kernel_rfl) (by kernel_rfl)
  have xAssi := @run_callFunc_extern Tryd.prog 110 _ (ReflectliteType.relation "AssignableTo" ReflectliteType.assignableTo) Tryd.func110 (by kernel_rfl) (by kernel_rfl) (by kernel_rfl) (by kernel_rfl)
  have xVElem := @run_callFunc_extern Tryd.prog 80 _ (ReflectliteValue.method (ReflectliteValue.valueError "reflectlite.Value.Elem" 0) ReflectliteValue.elem) Tryd.func80 (by kernel_rfl) (by kernel_rfl) (by kernel_rfl) (by kernel_rfl)
  have xSet := @run_callFunc_extern Tryd.prog 81 _ ReflectliteValue.set Tryd.func81 (by kernel_rfl) (by kernel_rfl) (by kernel_rfl) (by kernel_rfl)
  have tO := kvTypeOfF
  have mA := kvMeAssi
  have aF := kvAssiF
  have vF := kvOfF
  have f6 := kvOfP
  have f7 := kvTyP
  have mK := kvMeKind
  have mE := kvMeElem
  have mI := kvMeImpl
  have kP := kvKindP
  have kF := kvKindF
  have eP := kvElemP
  have iF := kvImplF
  have n8 := kvIsNil ⟨w.heap.size, 0, none⟩ ⟨t, 0, none⟩ ((w.alloc (.cells #[.pointer (some ⟨t, 0, none⟩)] 93)).alloc (.cells #[.pointer (some ⟨3, 93, none⟩), .pointer (some ⟨w.heap.size, 0, none⟩), .int .u64 150] 113)) (by simp)
  have hlt : 2 < w.heap.size := block_lt_of_cell hg
  have htl : t < w.heap.size := hb.lt
  have hg2 : ((w.alloc (.cells #[.pointer (some ⟨t, 0, none⟩)] 93)).alloc (.cells #[.pointer (some ⟨3, 93, none⟩), .pointer (some ⟨w.heap.size, 0, none⟩), .int .u64 150] 113)).cell? ⟨2, 0, none⟩ = some (.iface 137 (.agg #[.pointer (some ⟨3, 57, none⟩)])) := by
    rw [World.cell?_alloc_lt _ _ ⟨2, 0, none⟩ (by simp; omega), World.cell?_alloc_lt _ _ ⟨2, 0, none⟩ hlt]; exact hg
  have el := kvElemV ⟨w.heap.size, 0, none⟩ ⟨t, 0, none⟩ (((w.alloc (.cells #[.pointer (some ⟨t, 0, none⟩)] 93)).alloc (.cells #[.pointer (some ⟨3, 93, none⟩), .pointer (some ⟨w.heap.size, 0, none⟩), .int .u64 150] 113)).alloc (.cells #[.pointer (some ⟨3, 93, none⟩), .pointer (some ⟨w.heap.size, 0, none⟩), .int .u64 150] 113)) (by rw [World.cell?_alloc_lt _ _ ⟨w.heap.size, 0, none⟩ (by simp; omega)]; simp)
  have st := kvSet (b := w.heap.size + 1 + 1 + 1) (t := t) T v e (W := (((w.alloc (.cells #[.pointer (some ⟨t, 0, none⟩)] 93)).alloc (.cells #[.pointer (some ⟨3, 93, none⟩), .pointer (some ⟨w.heap.size, 0, none⟩), .int .u64 150] 113)).alloc (.cells #[.pointer (some ⟨3, 93, none⟩), .pointer (some ⟨w.heap.size, 0, none⟩), .int .u64 150] 113)).alloc (.cells #[.iface T v, .string e] 87))
    (by have := Bx.new (((w.alloc (.cells #[.pointer (some ⟨t, 0, none⟩)] 93)).alloc (.cells #[.pointer (some ⟨3, 93, none⟩), .pointer (some ⟨w.heap.size, 0, none⟩), .int .u64 150] 113)).alloc (.cells #[.pointer (some ⟨3, 93, none⟩), .pointer (some ⟨w.heap.size, 0, none⟩), .int .u64 150] 113)) [.iface T v, .string e] 87; simpa using this)
    ((((hb.alloc _).alloc _).alloc _).alloc _)
  have QQ := Lib.hid ((((Q.refl w).alloc (.cells #[.pointer (some ⟨t, 0, none⟩)] 93)).alloc (.cells #[.pointer (some ⟨3, 93, none⟩), .pointer (some ⟨w.heap.size, 0, none⟩), .int .u64 150] 113)).alloc (.cells #[.pointer (some ⟨3, 93, none⟩), .pointer (some ⟨w.heap.size, 0, none⟩), .int .u64 150] 113) |>.alloc (.cells #[.iface T v, .string e] 87))
  clear hb
  go_enter Tryd.func48, Tryd.ntmps48
  go_wp2
  refine wp_loop_rounds 1 ?_
  rw [rounds_succ]
  go_wp2
  go_ret
  exact ⟨rfl, _, QQ.out, rfl⟩
end Wi
end Go.Proofs.YtdipikdebapmlaaDoor

/- Contracts: errors.Is at the faults of package wire; number. -/
namespace Go.Proofs.YtdipikdebapmlaaDoor
set_option maxRecDepth 100000
open Go.RowKit Go.Extern.Stop Go.Stop Go.Extern
set_option linter.unusedVariables false
set_option linter.unusedSimpArgs false
namespace Wi

/-- the errors that stand within a fault: the second one, if it is not the first one. -/
structure Sen (w : World) (a b : Addr) : Prop where
  ga : w.cell? ⟨1, 0, none⟩ = some (.iface 157 (.pointer (some a)))
  two : b ≠ a → w.cell? ⟨0, 0, none⟩ = some (.iface 157 (.pointer (some b))) ∧ (∃ c t, w.heap[a.block]? = some (.cells c t (0, 0))) ∧ ∃ c t, w.heap[b.block]? = some (.cells c t (0, 0))
theorem lt_of_some {w : World} {k : Nat} {o : Obj} (h : w.heap[k]? = some o) : k < w.heap.size := (Array.getElem?_eq_some_iff.1 h).1
theorem Sen.q {w w' : World} {a b : Addr} (h : Sen w a b) (hq : Q w w') : Sen w' a b := by
  obtain ⟨g1, h2⟩ := h
  refine ⟨(hq.below.cell (block_lt_of_cell g1)).trans g1, fun hne => ?_⟩
  obtain ⟨g2, ⟨c1, t1, h1⟩, c2, t2, h2⟩ := h2 hne
  exact ⟨(hq.below.cell (block_lt_of_cell g2)).trans g2, ⟨c1, t1, (hq.below.block _ (lt_of_some h1)).trans h1⟩, c2, t2, (hq.below.block _ (lt_of_some h2)).trans h2⟩
theorem ErrT.q {w w' : World} (h : ErrT w) (hq : Q w w') : ErrT w' := (hq.below.cell (block_lt_of_cell h)).trans h
/-! ### errors.Is -/
theorem kvIsTypeOf (v : Value) (w : World) : (Extern.ReflectliteType.typeOf #[.iface 157 v]).run Tryd.prog w = .ok (.iface 137 (.agg #[.pointer (some ⟨3, 157, none⟩)])) w := by kernel_rfl
/-- (rtype).Comparable, the model's entry. -/
noncomputable def kvCmpE : Array Value → Sem Value := Extern.ReflectliteType.method fun t => do Extern.Rtype.noPackHeld "Comparable" t; pure (.bool (← typeInfo t).comparable)
theorem kvIsCmp (w : World) : (kvCmpE #[.agg #[.pointer (some ⟨3, 157, none⟩)]]).run Tryd.prog w = .ok (.bool true) w := by kernel_rfl
theorem kvMeCmp (v : Value) (w : World) : (Go.method 289 137 v "Comparable").run Tryd.prog w = .ok (111, v) w := by kernel_rfl
theorem kvCmp : (Tryd.prog.info? 157).map (·.comparable) = some true := by kernel_rfl
theorem kvSizeE : (Tryd.prog.info? 177).map (·.size) = some 1 := by kernel_rfl
theorem kvNoIsE (v : Value) (xT : TypeId) (w : World) : (Instr.typeAssert (.iface 157 v) xT 149 true).run Tryd.prog w = .ok (.tuple #[.nilIface, .bool false]) w := run_typeAssert_lacksB Tryd.underlying149 (by kernel_rfl) (by kernel_rfl) v xT w
theorem kvNoUnwE (v : Value) (xT : TypeId) (w : World) : (Instr.typeAssert (.iface 157 v) xT 144 true).run Tryd.prog w = .ok (.tuple #[.nilIface, .bool false]) w := run_typeAssert_lacksB Tryd.underlying144 (by kernel_rfl) (by kernel_rfl) v xT w
theorem kvNoUnwsE (v : Value) (xT : TypeId) (w : World) : (Instr.typeAssert (.iface 157 v) xT 146 true).run Tryd.prog w = .ok (.tuple #[.nilIface, .bool false]) w := run_typeAssert_lacksB Tryd.underlying146 (by kernel_rfl) (by kernel_rfl) v xT w
theorem kvNoIsF (v : Value) (xT : TypeId) (w : World) : (Instr.typeAssert (.iface 87 v) xT 149 true).run Tryd.prog w = .ok (.tuple #[.nilIface, .bool false]) w := run_typeAssert_lacksB Tryd.underlying149 (by kernel_rfl) (by kernel_rfl) v xT w
theorem kvUnwF (v : Value) (xT : TypeId) (w : World) : (Instr.typeAssert (.iface 87 v) xT 144 true).run Tryd.prog w = .ok (.tuple #[.iface 87 v, .bool true]) w := run_typeAssert_hasB Tryd.underlying144 (by kernel_rfl) v xT w
theorem kvMeUnw (v : Value) (w : World) : (Go.method 289 87 v "Unwrap").run Tryd.prog w = .ok (105, v) w := by kernel_rfl

set_option maxHeartbeats 4000000 in
theorem kis_same (a : Addr) (e : ByteArray) (w : World) :
    Calls Tryd.prog 49 #[fltV a e, .iface 157 (.pointer (some a))] w fun ev w' => ev = .returned (.bool true) ∧ w' = w.alloc (.cells #[.iface 157 (.pointer (some a)), .string e] 87) := by
  obtain ⟨i, hi, hcmp⟩ := Option.map_eq_some_iff.1 kvCmp
  obtain ⟨j, hj, hjs⟩ := Option.map_eq_some_iff.1 kvSizeE
  have xT := @run_callFunc_extern Tryd.prog 67 _ Extern.ReflectliteType.typeOf Tryd.func67 (by kernel_rfl) (by kernel_rfl) (by kernel_rfl) (by kernel_rfl)
  have xC := @run_callFunc_extern Tryd.prog 111 _ kvCmpE Tryd.func111 (by kernel_rfl) (by kernel_rfl) (by kernel_rfl) (by kernel_rfl)
  have tT := kvIsTypeOf
  have cT := kvIsCmp
  have mR := kvMeCmp
  have nF := kvNoIsF
  have uF := kvUnwF
  have mU := kvMeUnw
  have heq := fun W => run_eql_iface_ptr_same (P := Tryd.prog) W a Tryd.underlying57 Tryd.underlying157 hi hcmp hj
  have hty := run_eql_iface_types (P := Tryd.prog) 87 157 (.agg #[.iface 157 (.pointer (some a)), .string e]) (.pointer (some a)) Tryd.underlying57 (by decide) w
  go_enter Tryd.func49, Tryd.ntmps49
  go_wp2
  refine wp_loop_rounds 2 ?_
  rw [rounds_succ]
  go_wp2
  rw [rounds_succ]
  go_wp2
  go_ret
  exact ⟨rfl, rfl⟩
set_option maxHeartbeats 4000000 in
theorem kis_other (a b : Addr) (e : ByteArray) (w : World) (hS : Sen w a b) (hne : b ≠ a) :
    Calls Tryd.prog 49 #[fltV b e, .iface 157 (.pointer (some a))] w fun ev w' => ev = .returned (.bool false) ∧ w' = w.alloc (.cells #[.iface 157 (.pointer (some b)), .string e] 87) := by
  obtain ⟨i, hi, hcmp⟩ := Option.map_eq_some_iff.1 kvCmp
  obtain ⟨j, hj, hjs⟩ := Option.map_eq_some_iff.1 kvSizeE
  have xT := @run_callFunc_extern Tryd.prog 67 _ Extern.ReflectliteType.typeOf Tryd.func67 (by kernel_rfl) (by kernel_rfl) (by kernel_rfl) (by kernel_rfl)
  have xC := @run_callFunc_extern Tryd.prog 111 _ kvCmpE Tryd.func111 (by kernel_rfl) (by kernel_rfl) (by kernel_rfl) (by kernel_rfl)
  have tT := kvIsTypeOf
  have cT := kvIsCmp
  have mR := kvMeCmp
  have nE := kvNoIsE
  have uE := kvNoUnwE
  have vE := kvNoUnwsE
  have nF := kvNoIsF
  have uF := kvUnwF
  have mU := kvMeUnw
  have hS2 := hS.q ((Q.refl w).alloc (.cells #[.iface 157 (.pointer (some b)), .string e] 87))
  obtain ⟨_, ⟨c1, t1, h1⟩, c2, t2, h2⟩ := hS2.two hne
  have heq := run_eql_iface_ptr_other (P := Tryd.prog) (w.alloc (.cells #[.iface 157 (.pointer (some b)), .string e] 87)) Tryd.underlying57 Tryd.underlying157 hi hcmp hj (by rw [hjs]; decide) hne h2 h1
  have hty := run_eql_iface_types (P := Tryd.prog) 87 157 (.agg #[.iface 157 (.pointer (some b)), .string e]) (.pointer (some a)) Tryd.underlying57 (by decide) w
  clear h1 h2 hne hS
  go_enter Tryd.func49, Tryd.ntmps49
  go_wp2
  refine wp_loop_rounds 2 ?_
  rw [rounds_succ]
  go_wp2
  rw [rounds_succ]
  go_wp2
  go_ret
  exact ⟨rfl, rfl⟩
end Wi
end Go.Proofs.YtdipikdebapmlaaDoor

/- Contracts: a hand's step, end, num, text, and number. -/
namespace Go.Proofs.YtdipikdebapmlaaDoor
set_option maxRecDepth 100000
open Go.RowKit
set_option linter.unusedVariables false
set_option linter.unusedSimpArgs false
namespace Wi

theorem bx_only {w w' : World} {b g : Nat} {vs : List Value} (h : Bx w b vs) (hg : w.grownBy w' (some g)) (hne : b ≠ g) : Bx w' b vs := fun j v hj => by
  have hb : b < w.heap.size := block_lt_of_cell (h j v hj).1
  have e : w'.heap[b]? = w.heap[b]? := hg.block b hb (fun e => hne (by injection e))
  exact ⟨(World.cell?_of_block (w := w) (a := ⟨b, j, none⟩) e).trans (h j v hj).1, (World.frozen?_of_block (w := w) (a := ⟨b, j, none⟩) e).trans (h j v hj).2⟩

set_option maxHeartbeats 1000000 in
theorem step_any (a c : Addr) (b : Nat) (r : ByteArray) (E : Value) (fld rest : ByteArray) (is right : Bool) (w : World) (hS : Sen w a c) (hB : Bx w b [.string r, E])
    (h1 : is = true → E = .nilIface) (h2 : is = false → ∃ f, E = fltV a f) :
    Calls Tryd.prog 62 #[.pointer (some ⟨b, 0, none⟩), .string fld, .string rest, .bool right] w fun e w' =>
      e = .returned (.bool (is && right)) ∧ (∃ E', Bx w' b [.string rest, E'] ∧ ((is && right) = true → E' = .nilIface) ∧ ((is && right) = false → ∃ f, E' = fltV a f)) ∧ w.grownBy w' (some b) := by
  have x0 := (hB 0 _ rfl).1
  have x1 := (hB 1 _ rfl).1
  have f0 := (hB 0 _ rfl).2
  have f1 := (hB 1 _ rfl).2
  have hga := hS.ga
  cases is with
  | true =>
    obtain rfl := h1 rfl
    cases right with
    | true =>
      have Z := Lib.hid (hB.set (k := 0) (by simp) (.string rest))
      have G := Lib.hid (only_set (only_refl w b) 0 (.string rest))
      clear hS hga hB h1 h2
      go_enter Tryd.func62, Tryd.ntmps62
      go_wp2
      go_ret
      exact ⟨rfl, ⟨_, Z.out, fun _ => rfl, fun h => by cases h⟩, G.out⟩
    | false =>
      have Z := Lib.hid ((hB.set (k := 1) (by simp) (fltV a fld)).set (k := 0) (by simp) (.string rest))
      have G := Lib.hid (only_set (only_set (only_refl w b) 1 (fltV a fld)) 0 (.string rest))
      clear hS hB h1 h2
      go_enter Tryd.func62, Tryd.ntmps62
      go_wp2
      go_ret
      exact ⟨rfl, ⟨_, Z.out, fun h => (by cases h), fun _ => ⟨_, rfl⟩⟩, G.out⟩
  | false =>
    obtain ⟨f, rfl⟩ := h2 rfl
    have Z := Lib.hid (hB.set (k := 0) (by simp) (.string rest))
    have G := Lib.hid (only_set (only_refl w b) 0 (.string rest))
    clear hS hga hB h1 h2
    go_enter Tryd.func62, Tryd.ntmps62
    go_wp2
    go_ret
    exact ⟨rfl, ⟨_, Z.out, fun h => (by cases h), fun _ => ⟨_, rfl⟩⟩, G.out⟩

/-- a hand in block b that stands there: its rest, or a fault. -/
def Hd (a : Addr) (w : World) (b : Nat) (p : Pt) : Prop := ∃ (r : ByteArray) (E : Value), Bx w b [.string r, E] ∧ r.size ≤ maxLen ∧ (p.is = true → r = ba p.rest ∧ E = .nilIface) ∧ (p.is = false → ∃ f, E = fltV a f)
theorem Hd.q {a : Addr} {w w' : World} {b : Nat} {p : Pt} (h : Hd a w b p) (q : Q w w') : Hd a w' b p := by
  obtain ⟨r, E, hB, h1, h2, h3⟩ := h
  exact ⟨r, E, hB.q q, h1, h2, h3⟩
theorem Hd.lt {a : Addr} {w : World} {b : Nat} {p : Pt} (h : Hd a w b p) : b < w.heap.size := by
  obtain ⟨r, E, hB, _⟩ := h
  exact hB.lt
theorem Hd.only {a : Addr} {w w' : World} {b g : Nat} {p : Pt} (h : Hd a w b p) (hg : w.grownBy w' (some g)) (hne : b ≠ g) : Hd a w' b p := by
  obtain ⟨r, E, hB, h1, h2, h3⟩ := h
  exact ⟨r, E, bx_only hB hg hne, h1, h2, h3⟩

set_option maxHeartbeats 2000000 in
theorem hnum_any (a c : Addr) (b m : Nat) (fld : ByteArray) (p : Pt) (w : World) (hS : Sen w a c) (hH : Hd a w b p) (hm : m ≤ 1073741824) :
    Calls Tryd.prog 59 #[.pointer (some ⟨b, 0, none⟩), .string fld, .int .u64 (m : Int)] w fun e w' => e = .returned (.int .i64 ((tkm m p).n : Int)) ∧ Hd a w' b (tkm m p) ∧ w.grownBy w' (some b) := by
  obtain ⟨r, E, hB, hr, h1, h2⟩ := hH
  have x0 := (hB 0 _ rfl).1
  have K1 := Lib.hid (takeNum_any r w hr)
  have htk : tkm m p = if p.is = false ∨ (Dm.tnum p.rest).2.2 ≠ 0 ∨ m < (Dm.tnum p.rest).1 then pz else ⟨(Dm.tnum p.rest).1, [], (Dm.tnum p.rest).2.1, true⟩ := rfl
  have hlen := Dm.tnum_len r.data.toList
  have hle := Dm.tnum_le r.data.toList
  have hrd : p.is = true → Dm.tnum p.rest = Dm.tnum r.data.toList := fun h => by rw [(h1 h).1, ba_data]
  generalize Dm.tnum r.data.toList = x at K1 hlen hle hrd
  obtain ⟨v, rs, er⟩ := x
  have hrs : (⟨rs.toArray⟩ : ByteArray).size ≤ maxLen := by
    show rs.toArray.size ≤ maxLen
    rw [List.size_toArray]
    have : r.data.toList.length = r.size := Rn.size_data r
    simp only at hlen; omega
  have K2 := Lib.hid (fun (right : Bool) W (q : Q w W) => step_any a c b r E fld ⟨rs.toArray⟩ p.is right W (hS.q q) (hB.q q) (fun h => (h1 h).2) h2)
  have HE : Hid (tkm m p = if p.is && (decide (er = 0) && decide (v ≤ m)) then ⟨v, [], rs, true⟩ else pz) := Lib.hid (by
    cases hp : p.is with
    | false => rw [htk, if_pos (.inl hp)]; rfl
    | true =>
      rw [htk, hrd hp]
      by_cases he : er = 0
      · by_cases hv : v ≤ m
        · rw [if_neg (by simp only [not_or, Decidable.not_not, ne_eq, hp]; exact ⟨by simp, he, by omega⟩), if_pos (by simp [he, hv])]
        · rw [if_pos (.inr (.inr (by simp only; omega))), if_neg (by simp [hv])]
      · rw [if_pos (.inr (.inl he)), if_neg (by simp [he])])
  simp only at hle
  have hvu : v ≤ 18446744073709551615 := hle
  have hrest : (⟨rs.toArray⟩ : ByteArray) = ba rs := rfl
  generalize hX : (⟨rs.toArray⟩ : ByteArray) = RS at K2 hrs hrest
  have K1' : Hid (Calls Tryd.prog 78 #[.string r] w fun e w' => e = .returned (.tuple #[.int .u64 (v : Int), .string RS, .int .i64 (er : Int)]) ∧ Q w w') := by subst hX; exact K1
  have HR := Lib.hid hrs
  have HQ := Lib.hid hrest
  generalize p.is = is at K2 HE
  generalize tkm m p = pt at HE ⊢
  clear K1 hX hrs hrest hle hlen hrd h1 h2 hB hS htk hr
  by_cases he : er = 0
  · subst he
    by_cases hv : v ≤ m
    · have hvi : (v : Int) ≤ (m : Int) := by omega
      have hE : pt = if is then ⟨v, [], rs, true⟩ else pz := by rw [HE.out]; simp [hv]
      have K3 := Lib.hid (fun W q => K2.out true W q)
      simp only [Bool.and_true] at K3
      replace HE := Lib.hid hE
      clear hE K2
      have hwr : IntKind.i64.wrap (v : Int) = v := by rw [IntKind.wrap_i64]; omega
      cases is with
      | true =>
        go_enter Tryd.func59, Tryd.ntmps59
        go_wp2_with fail
        refine K1'.out.mono ?_
        rintro e w1 ⟨rfl, q1⟩
        go_wp2_with fail
        refine (K3.out w1 q1).mono ?_
        rintro e w2 ⟨rfl, ⟨E', B', e1, e2⟩, g⟩
        have G := Lib.hid (And.intro B' ((only_q q1).trans g))
        clear B' g q1
        go_wp2
        go_ret
        rw [HE.out]
        exact ⟨rfl, ⟨RS, E', G.out.1, HR.out, fun _ => ⟨HQ.out, e1 (by simp)⟩, fun h => (by cases h)⟩, G.out.2⟩
      | false =>
        go_enter Tryd.func59, Tryd.ntmps59
        go_wp2_with fail
        refine K1'.out.mono ?_
        rintro e w1 ⟨rfl, q1⟩
        go_wp2_with fail
        refine (K3.out w1 q1).mono ?_
        rintro e w2 ⟨rfl, ⟨E', B', e1, e2⟩, g⟩
        have G := Lib.hid (And.intro B' ((only_q q1).trans g))
        clear B' g q1
        go_wp2
        go_ret
        rw [HE.out]
        exact ⟨rfl, ⟨RS, E', G.out.1, HR.out, fun h => (by cases h), fun _ => e2 (by simp)⟩, G.out.2⟩
    · have hvi : ¬ (v : Int) ≤ (m : Int) := by omega
      have hE : pt = pz := by rw [HE.out, if_neg (by simp [hv])]
      have K3 := Lib.hid (fun W q => K2.out false W q)
      simp only [Bool.and_false] at K3
      replace HE := Lib.hid hE
      clear hE K2
      go_enter Tryd.func59, Tryd.ntmps59
      go_wp2_with fail
      refine K1'.out.mono ?_
      rintro e w1 ⟨rfl, q1⟩
      go_wp2_with fail
      refine (K3.out w1 q1).mono ?_
      rintro e w2 ⟨rfl, ⟨E', B', e1, e2⟩, g⟩
      have G := Lib.hid (And.intro B' ((only_q q1).trans g))
      clear B' g q1
      go_wp2
      go_ret
      rw [HE.out]
      exact ⟨rfl, ⟨RS, E', G.out.1, HR.out, fun h => (by cases h), fun _ => e2 (by simp)⟩, G.out.2⟩
  · have hei : ¬ (er : Int) = 0 := by omega
    have hb0 : ((er : Int) == 0) = false := by simpa using hei
    have hE : pt = pz := by rw [HE.out, if_neg (by simp [he])]
    have K3 := Lib.hid (fun W q => K2.out false W q)
    simp only [Bool.and_false] at K3
    replace HE := Lib.hid hE
    clear hE K2
    go_enter Tryd.func59, Tryd.ntmps59
    go_wp2_with fail
    refine K1'.out.mono ?_
    rintro e w1 ⟨rfl, q1⟩
    go_wp2_with fail
    refine (K3.out w1 q1).mono ?_
    rintro e w2 ⟨rfl, ⟨E', B', e1, e2⟩, g⟩
    have G := Lib.hid (And.intro B' ((only_q q1).trans g))
    clear B' g q1
    go_wp2
    go_ret
    rw [HE.out]
    exact ⟨rfl, ⟨RS, E', G.out.1, HR.out, fun h => (by cases h), fun _ => e2 (by simp)⟩, G.out.2⟩

theorem ttext_len (l : List UInt8) (m : Int) : (Dm.ttext l m).2.1.length ≤ l.length := by
  have h := Dm.tnum_len l
  unfold Dm.ttext
  split <;> (try split) <;> (try split) <;> simp only [List.length_nil, List.length_drop] <;> omega
set_option maxHeartbeats 2000000 in
theorem htext_any (a c : Addr) (b : Nat) (m : Int) (fld : ByteArray) (p : Pt) (w : World) (hS : Sen w a c) (hH : Hd a w b p) (hm0 : 0 ≤ m) (hm : m ≤ 1000) :
    Calls Tryd.prog 60 #[.pointer (some ⟨b, 0, none⟩), .string fld, .int .i64 m] w fun e w' => e = .returned (.string (ba (tkt m p).t)) ∧ Hd a w' b (tkt m p) ∧ w.grownBy w' (some b) := by
  obtain ⟨r, E, hB, hr, h1, h2⟩ := hH
  have x0 := (hB 0 _ rfl).1
  have K1 := Lib.hid (takeText_any r m w hr (by omega) (by omega))
  have htk : tkt m p = if p.is = false ∨ (Dm.ttext p.rest m).2.2 ≠ 0 then pz else ⟨0, (Dm.ttext p.rest m).1, (Dm.ttext p.rest m).2.1, true⟩ := rfl
  have hlen := ttext_len r.data.toList m
  have hrd : p.is = true → Dm.ttext p.rest m = Dm.ttext r.data.toList m := fun h => by rw [(h1 h).1, ba_data]
  generalize Dm.ttext r.data.toList m = x at K1 hlen hrd
  obtain ⟨v, rs, er⟩ := x
  have hrs : (⟨rs.toArray⟩ : ByteArray).size ≤ maxLen := by
    show rs.toArray.size ≤ maxLen
    rw [List.size_toArray]
    have : r.data.toList.length = r.size := Rn.size_data r
    simp only at hlen; omega
  have K2 := Lib.hid (fun (right : Bool) W (q : Q w W) => step_any a c b r E fld ⟨rs.toArray⟩ p.is right W (hS.q q) (hB.q q) (fun h => (h1 h).2) h2)
  have HE : Hid (tkt m p = if p.is && decide (er = 0) then ⟨0, v, rs, true⟩ else pz) := Lib.hid (by
    cases hp : p.is with
    | false => rw [htk, if_pos (.inl hp)]; rfl
    | true =>
      rw [htk, hrd hp]
      by_cases he : er = 0
      · rw [if_neg (by simp only [not_or, Decidable.not_not, ne_eq, hp]; exact ⟨by simp, he⟩), if_pos (by simp [he])]
      · rw [if_pos (.inr he), if_neg (by simp [he])])
  have hrest : (⟨rs.toArray⟩ : ByteArray) = ba rs := rfl
  generalize hX : (⟨rs.toArray⟩ : ByteArray) = RS at K2 hrs hrest
  have K1' : Hid (Calls Tryd.prog 79 #[.string r, .int .i64 m] w fun e w' => e = .returned (.tuple #[.string (ba v), .string RS, .int .i64 (er : Int)]) ∧ Q w w') := by subst hX; exact K1
  have HR := Lib.hid hrs
  have HQ := Lib.hid hrest
  generalize p.is = is at K2 HE
  generalize tkt m p = pt at HE ⊢
  clear K1 hX hrs hrest hlen hrd h1 h2 hB hS htk hr
  by_cases he : er = 0
  · subst he
    have hE : pt = if is then ⟨0, v, rs, true⟩ else pz := by rw [HE.out]; simp
    have K3 := Lib.hid (fun W q => K2.out true W q)
    simp only [Bool.and_true] at K3
    replace HE := Lib.hid hE
    clear hE K2
    cases is with
    | true =>
      go_enter Tryd.func60, Tryd.ntmps60
      go_wp2_with fail
      refine K1'.out.mono ?_
      rintro e w1 ⟨rfl, q1⟩
      go_wp2_with fail
      refine (K3.out w1 q1).mono ?_
      rintro e w2 ⟨rfl, ⟨E', B', e1, e2⟩, g⟩
      have G := Lib.hid (And.intro B' ((only_q q1).trans g))
      clear B' g q1
      go_wp2
      go_ret
      rw [HE.out]
      exact ⟨rfl, ⟨RS, E', G.out.1, HR.out, fun _ => ⟨HQ.out, e1 (by simp)⟩, fun h => (by cases h)⟩, G.out.2⟩
    | false =>
      go_enter Tryd.func60, Tryd.ntmps60
      go_wp2_with fail
      refine K1'.out.mono ?_
      rintro e w1 ⟨rfl, q1⟩
      go_wp2_with fail
      refine (K3.out w1 q1).mono ?_
      rintro e w2 ⟨rfl, ⟨E', B', e1, e2⟩, g⟩
      have G := Lib.hid (And.intro B' ((only_q q1).trans g))
      clear B' g q1
      go_wp2
      go_ret
      rw [HE.out]
      exact ⟨rfl, ⟨RS, E', G.out.1, HR.out, fun h => (by cases h), fun _ => e2 (by simp)⟩, G.out.2⟩
  · have hei : ¬ (er : Int) = 0 := by omega
    have hb0 : ((er : Int) == 0) = false := by simpa using hei
    have hE : pt = pz := by rw [HE.out, if_neg (by simp [he])]
    have K3 := Lib.hid (fun W q => K2.out false W q)
    simp only [Bool.and_false] at K3
    replace HE := Lib.hid hE
    clear hE K2
    go_enter Tryd.func60, Tryd.ntmps60
    go_wp2_with fail
    refine K1'.out.mono ?_
    rintro e w1 ⟨rfl, q1⟩
    go_wp2_with fail
    refine (K3.out w1 q1).mono ?_
    rintro e w2 ⟨rfl, ⟨E', B', e1, e2⟩, g⟩
    have G := Lib.hid (And.intro B' ((only_q q1).trans g))
    clear B' g q1
    go_wp2
    go_ret
    rw [HE.out]
    exact ⟨rfl, ⟨RS, E', G.out.1, HR.out, fun h => (by cases h), fun _ => e2 (by simp)⟩, G.out.2⟩

theorem q_only {w0 w w' : World} {b : Nat} (q : Q w0 w) (g : w.grownBy w' (some b)) (hb : w0.heap.size ≤ b) : Q w0 w' := Below.trans q (only_below g hb q.size)
set_option maxHeartbeats 2000000 in
/-- the fault in bytes of which all fields were taken. -/
theorem hend_any (a c : Addr) (b : Nat) (whole : ByteArray) (mb : Bool) (p : Pt) (w0 w : World) (hS : Sen w0 a c) (q0 : Q w0 w) (hb : w0.heap.size ≤ b) (hH : Hd a w b p) :
    Calls Tryd.prog 47 #[.pointer (some ⟨b, 0, none⟩), .string whole, .bool mb] w fun e w' =>
      (∃ E, e = .returned E ∧ ((p.is = true ∧ p.rest = [] ∧ mb = true) → E = .nilIface) ∧ (¬ (p.is = true ∧ p.rest = [] ∧ mb = true) → ∃ f, E = fltV a f)) ∧ w.grownBy w' (some b) := by
  obtain ⟨r, E, hB, hr, h1, h2⟩ := hH
  have x0 := (hB 0 _ rfl).1
  have hP : (p.is = true ∧ p.rest = [] ∧ mb = true) ↔ (p.is && decide (r = ⟨#[]⟩) && mb) = true := by
    cases hp : p.is with
    | false => simp
    | true =>
      have hz : p.rest = [] ↔ r = ⟨#[]⟩ := by
        rw [(h1 hp).1]
        constructor
        · intro h; rw [h]; rfl
        · intro h
          have := congrArg ByteArray.size h
          rw [ba_size] at this
          exact List.eq_nil_of_length_eq_zero this
      simp [hz]
  have hcmp : (r.toList == (⟨#[]⟩ : ByteArray).toList) = decide (r = ⟨#[]⟩) := same_str _ _
  have K1 := Lib.hid (fun b1 => step_any a c b r E ⟨#[101, 110, 100]⟩ ⟨#[]⟩ p.is b1 w (hS.q q0) hB (fun h => (h1 h).2) h2)
  have K2 := Lib.hid (fun W E1 (is : Bool) (q : Q w0 W) (hB2 : Bx W b [.string ⟨#[]⟩, E1]) f1 f2 => step_any a c b ⟨#[]⟩ E1 whole ⟨#[]⟩ is mb W (hS.q q) hB2 f1 f2)
  have hnil : (⟨#[]⟩ : ByteArray).toList = [] := by rw [ByteArray.toList_eq]
  have hcmp2 : (r.toList == []) = decide (r = ⟨#[]⟩) := by rw [← hcmp, hnil]
  clear hnil
  have HP := Lib.hid hP
  have Q0 := Lib.hid q0
  generalize decide (r = ⟨#[]⟩) = b1 at hcmp hcmp2 HP
  generalize p.is = is at K1 HP
  generalize p.rest = rs at HP
  clear h1 h2 hB hr hS hP q0
  go_enter Tryd.func47, Tryd.ntmps47
  go_wp2_with fail
  refine (K1.out b1).mono ?_
  rintro e w1 ⟨rfl, ⟨E1, B1, e1, e2⟩, g1⟩
  have X1 := Lib.hid (And.intro B1 (And.intro g1 (q_only Q0.out g1 hb)))
  have F1 := Lib.hid (And.intro e1 e2)
  clear B1 g1 e1 e2
  go_wp2_with fail
  refine (K2.out w1 E1 (is && b1) X1.out.2.2 X1.out.1 F1.out.1 F1.out.2).mono ?_
  rintro e w2 ⟨rfl, ⟨E2, B2, e1, e2⟩, g2⟩
  have X2 := Lib.hid (And.intro B2 (X1.out.2.1.trans g2))
  have F2 := Lib.hid (And.intro e1 e2)
  have y1 := (B2 1 _ rfl).1
  clear B2 g2 e1 e2
  go_wp2
  go_ret
  refine ⟨⟨E2, rfl, fun h => F2.out.1 (HP.out.1 h), fun h => F2.out.2 (by rw [HP.out] at h; simpa using h)⟩, X2.out.2⟩

theorem number_nil (w : World) : Calls Tryd.prog 26 #[.nilIface] w fun ev w' => ev = .returned (.int .i64 0) ∧ Q w w' := by
  have B := Lib.hid (Bx.new w [.nilIface, .string ⟨#[]⟩] 87)
  have QA := Lib.hid ((Q.refl w).alloc (.cells #[.nilIface, .string ⟨#[]⟩] 87))
  go_enter Tryd.func26, Tryd.ntmps26
  go_upto_region 2 with (fail)
  generalize w.alloc (.cells #[.nilIface, .string ⟨#[]⟩] 87) = w1 at B QA ⊢
  go_wp2_with fail
  refine (kas_nil _ _).mono ?_
  rintro ev w2 ⟨rfl, rfl⟩
  go_wp2
  go_ret
  exact ⟨rfl, QA.out⟩
theorem number_flt (is : Bool) (a c : Addr) (f : ByteArray) (w : World) (hT : ErrT w) (hS : Sen w a c) (hne : is = false → c ≠ a) :
    Calls Tryd.prog 26 #[fltV (if is then a else c) f] w fun ev w' => ev = .returned (.int .i64 (if is then 3 else 4)) ∧ Q w w' := by
  have B := Lib.hid (Bx.new w [.nilIface, .string ⟨#[]⟩] 87)
  have QA := Lib.hid ((Q.refl w).alloc (.cells #[.nilIface, .string ⟨#[]⟩] 87))
  have K1 := Lib.hid (fun W (q : Q w W) b hb => kas_flt 157 (.pointer (some (if is then a else c))) f b .nilIface (.string ⟨#[]⟩) W (hT.q q) hb)
  have K2 : Hid (∀ W, Q w W → Calls Tryd.prog 49 #[fltV (if is then a else c) f, .iface 157 (.pointer (some a))] W fun ev w' => ev = .returned (.bool is) ∧ Q W w') := Lib.hid (fun W q => by
    cases is with
    | true => exact (kis_same a f W).mono fun ev w' h => ⟨h.1, by rw [h.2]; exact (Q.refl _).alloc _⟩
    | false => exact (kis_other a c f W (hS.q q) (hne rfl)).mono fun ev w' h => ⟨h.1, by rw [h.2]; exact (Q.refl _).alloc _⟩)
  have HG := Lib.hid (fun W (q : Q w W) => (hS.q q).ga)
  generalize (if is then a else c) = d at K1 K2 ⊢
  clear hT hS hne
  go_enter Tryd.func26, Tryd.ntmps26
  go_upto_region 2 with (fail)
  generalize w.alloc (.cells #[.nilIface, .string ⟨#[]⟩] 87) = w1 at B QA ⊢
  go_wp2_with fail
  refine (K1.out w1 QA.out w.heap.size B.out).mono ?_
  rintro ev w2 ⟨rfl, w3, q3, rfl⟩
  have B3 := ((B.out.q q3).set (k := 0) (by simp) (.iface 157 (.pointer (some d)))).set (k := 1) (by simp) (.string f)
  have h0 := (B3 0 _ rfl).1
  have h1 := (B3 1 _ rfl).1
  have Q3 := Lib.hid (((QA.out.trans q3).setCell (p := ⟨w.heap.size, 0, none⟩) (Nat.le_refl _) (.iface 157 (.pointer (some d)))).setCell (p := ⟨w.heap.size, 1, none⟩) (Nat.le_refl _) (.string f))
  have hga := HG.out _ Q3.out
  clear B3 q3
  generalize (w3.setCell ⟨w.heap.size, 0, none⟩ (.iface 157 (.pointer (some d)))).setCell ⟨w.heap.size, 1, none⟩ (.string f) = w4 at h0 h1 Q3 hga ⊢
  go_wp2_with fail
  refine (K2.out w4 Q3.out).mono ?_
  rintro ev w5 ⟨rfl, q5⟩
  have Q5 := Lib.hid (Q3.out.trans q5)
  clear q5
  cases is with
  | true =>
    go_wp2
    go_ret
    exact ⟨rfl, Q5.out⟩
  | false =>
    go_wp2
    go_ret
    exact ⟨rfl, Q5.out⟩
end Wi
end Go.Proofs.YtdipikdebapmlaaDoor

/- Boxes of any size: written anew; what lies elsewhere stays. -/
namespace Go.Proofs.YtdipikdebapmlaaDoor
set_option maxRecDepth 100000
open Go.RowKit
set_option linter.unusedVariables false

theorem Bx.puts {b : Nat} : ∀ (us vs pre : List Value) {w : World}, Bx w b (pre ++ vs) → us.length = vs.length → Bx (w.setCells b pre.length us) b (pre ++ us)
  | [], [], _, w, h, _ => h
  | u :: us, v :: vs, pre, w, h, hl => by
    have h2 := h.set (k := pre.length) (by simp) u
    rw [show (pre ++ v :: vs).set pre.length u = (pre ++ [u]) ++ vs by simp] at h2
    have h3 := Bx.puts us vs (pre ++ [u]) h2 (by simpa using hl)
    rw [show (pre ++ [u]).length = pre.length + 1 by simp, show (pre ++ [u]) ++ us = pre ++ u :: us by simp] at h3
    exact h3
  | [], _ :: _, _, _, _, hl => by simp at hl
  | _ :: _, [], _, _, _, hl => by simp at hl
theorem Bx.fars {b c : Nat} (hc : c ≠ b) {vs : List Value} : ∀ (us : List Value) (o : Nat) {w : World}, Bx w b vs → Bx (w.setCells c o us) b vs
  | [], _, _, h => h
  | u :: us, o, w, h => Bx.fars hc us (o + 1) (h.far (p := ⟨c, o, none⟩) hc u)
theorem Q.sets {a : World} {b : Nat} (hb : a.heap.size ≤ b) : ∀ (us : List Value) (o : Nat) {w : World}, Q a w → Q a (w.setCells b o us)
  | [], _, _, h => h
  | u :: us, o, w, h => Q.sets hb us (o + 1) (h.setCell (p := ⟨b, o, none⟩) hb u)
theorem OwnK.sets {α : Type} {K : Kind α} {base n c b : Nat} {A : Option Addr} {l : List α} (hb : b < base) : ∀ (us : List Value) (o : Nat) {w : World}, OwnK K w base A n c l → OwnK K (w.setCells b o us) base A n c l
  | [], _, _, h => h
  | u :: us, o, w, h => OwnK.sets hb us (o + 1) (h.setCell (p := ⟨b, o, none⟩) hb u)
end Go.Proofs.YtdipikdebapmlaaDoor

/- Contracts: a hand's op, req, row. -/
namespace Go.Proofs.YtdipikdebapmlaaDoor
set_option maxRecDepth 100000
open Go.RowKit
set_option linter.unusedVariables false
set_option linter.unusedSimpArgs false
namespace Wi

theorem Hd.far {a : Addr} {w : World} {b : Nat} {P : Pt} (h : Hd a w b P) {p : Addr} (hp : p.block ≠ b) (u : Value) : Hd a (w.setCell p u) b P := by
  obtain ⟨r, E, hB, h1, h2, h3⟩ := h
  exact ⟨r, E, hB.far hp u, h1, h2, h3⟩
/-- a walk with a hand in block b, a box of its own in bo, the answer's box in br. -/
structure Hw (a : Addr) (w0 w W : World) (b bo br : Nat) (P : Pt) (cs zs : List Value) : Prop where
  h : Hd a W b P
  x : Bx W bo cs
  r : Bx W br zs
  q : Q w0 W
  g : w.grownBy W (some b)
  e : w0.heap.size ≤ b ∧ b < w.heap.size ∧ w.heap.size ≤ br ∧ br < bo
theorem Hw.call {a : Addr} {w0 w W W' : World} {b bo br : Nat} {P P' : Pt} {cs zs : List Value} (H : Hw a w0 w W b bo br P cs zs) (hd : Hd a W' b P') (g : W.grownBy W' (some b)) : Hw a w0 w W' b bo br P' cs zs := by
  have e := H.e
  exact ⟨hd, bx_only H.x g (by omega), bx_only H.r g (by omega), q_only H.q g e.1, H.g.trans g, e⟩
theorem Hw.put {a : Addr} {w0 w W : World} {b bo br : Nat} {P : Pt} {cs zs : List Value} (H : Hw a w0 w W b bo br P cs zs) (k : Nat) (hk : k < cs.length) (v : Value) : Hw a w0 w (W.setCell ⟨bo, k, none⟩ v) b bo br P (cs.set k v) zs := by
  have e := H.e
  exact ⟨H.h.far (p := ⟨bo, k, none⟩) (by show bo ≠ b; omega) v, H.x.set hk v, H.r.far (p := ⟨bo, k, none⟩) (by show bo ≠ br; omega) v, H.q.setCell (p := ⟨bo, k, none⟩) (by show w0.heap.size ≤ bo; omega) v, only_new H.g (p := ⟨bo, k, none⟩) (by show w.heap.size ≤ bo; omega) v, e⟩
theorem Hw.putR {a : Addr} {w0 w W : World} {b bo br : Nat} {P : Pt} {cs zs : List Value} (H : Hw a w0 w W b bo br P cs zs) (k : Nat) (hk : k < zs.length) (v : Value) : Hw a w0 w (W.setCell ⟨br, k, none⟩ v) b bo br P cs (zs.set k v) := by
  have e := H.e
  exact ⟨H.h.far (p := ⟨br, k, none⟩) (by show br ≠ b; omega) v, H.x.far (p := ⟨br, k, none⟩) (by show br ≠ bo; omega) v, H.r.set hk v, H.q.setCell (p := ⟨br, k, none⟩) (by show w0.heap.size ≤ br; omega) v, only_new H.g (p := ⟨br, k, none⟩) (by show w.heap.size ≤ br; omega) v, e⟩
theorem Hw.start {a : Addr} {w0 w : World} {b : Nat} {P : Pt} (cs zs : List Value) (t u : TypeId) (hH : Hd a w b P) (q : Q w0 w) (hb : w0.heap.size ≤ b) :
    Hw a w0 w ((w.alloc (.cells zs.toArray u)).alloc (.cells cs.toArray t)) b (w.heap.size + 1) w.heap.size P cs zs := by
  have q1 := (Q.refl w).alloc (.cells zs.toArray u)
  have q2 := (Q.refl (w.alloc (.cells zs.toArray u))).alloc (.cells cs.toArray t)
  have hl := hH.lt
  refine ⟨(hH.q q1).q q2, ?_, (Bx.new w zs u).q q2, (q.trans q1).trans q2, (only_q q1).trans (only_q q2), hb, hl, Nat.le_refl _, Nat.lt_succ_self _⟩
  have := Bx.new (w.alloc (.cells zs.toArray u)) cs t
  simpa using this

set_option maxRecDepth 100000 in
set_option maxHeartbeats 4000000 in
theorem hop_any (a c : Addr) (b : Nat) (P : Pt) (w0 w : World) (hS : Sen w0 a c) (q0 : Q w0 w) (hb : w0.heap.size ≤ b) (hH : Hd a w b P) :
    Calls Tryd.prog 61 #[.pointer (some ⟨b, 0, none⟩)] w fun e w' => e = .returned (.agg #[.int .i64 (opH P).kind, .string (opH P).key, .string (opH P).val, .string (opH P).lo, .string (opH P).hi, .int .i64 (opH P).most]) ∧ Hd a w' b (g6 P) ∧ w.grownBy w' (some b) := by
  have KN6 : Hid (∀ W, Q w0 W → ∀ P P', tkm 6 P = P' → Hd a W b P → ∀ fld, Calls Tryd.prog 59 #[.pointer (some ⟨b, 0, none⟩), .string fld, .int .u64 6] W fun e w' => e = .returned (.int .i64 (P'.n : Int)) ∧ Hd a w' b P' ∧ W.grownBy w' (some b)) := Lib.hid (fun W q P P' hp h fld => by subst hp; exact hnum_any a c b 6 fld P W (hS.q q) h (by omega))
  have KNM : Hid (∀ W, Q w0 W → ∀ P P', tkm 1073741824 P = P' → Hd a W b P → ∀ fld, Calls Tryd.prog 59 #[.pointer (some ⟨b, 0, none⟩), .string fld, .int .u64 1073741824] W fun e w' => e = .returned (.int .i64 (P'.n : Int)) ∧ Hd a w' b P' ∧ W.grownBy w' (some b)) := Lib.hid (fun W q P P' hp h fld => by subst hp; exact hnum_any a c b 1073741824 fld P W (hS.q q) h (by omega))
  have KT32 : Hid (∀ W, Q w0 W → ∀ P P', tkt 32 P = P' → Hd a W b P → ∀ fld, Calls Tryd.prog 60 #[.pointer (some ⟨b, 0, none⟩), .string fld, .int .i64 32] W fun e w' => e = .returned (.string (ba P'.t)) ∧ Hd a w' b P' ∧ W.grownBy w' (some b)) := Lib.hid (fun W q P P' hp h fld => by subst hp; exact htext_any a c b 32 fld P W (hS.q q) h (by omega) (by omega))
  have KT64 : Hid (∀ W, Q w0 W → ∀ P P', tkt 64 P = P' → Hd a W b P → ∀ fld, Calls Tryd.prog 60 #[.pointer (some ⟨b, 0, none⟩), .string fld, .int .i64 64] W fun e w' => e = .returned (.string (ba P'.t)) ∧ Hd a w' b P' ∧ W.grownBy w' (some b)) := Lib.hid (fun W q P P' hp h fld => by subst hp; exact htext_any a c b 64 fld P W (hS.q q) h (by omega) (by omega))
  have H0 := Lib.hid (Hw.start [.int .i64 0, .string ⟨#[]⟩, .string ⟨#[]⟩, .string ⟨#[]⟩, .string ⟨#[]⟩, .int .i64 0] [.int .i64 0, .string ⟨#[]⟩, .string ⟨#[]⟩, .string ⟨#[]⟩, .string ⟨#[]⟩, .int .i64 0] 23 23 hH q0 hb)
  clear hS hH
  go_enter Tryd.func61, Tryd.ntmps61
  go_upto_region 2 with (fail)
  change Hid (Hw a w0 w ((w.alloc (.cells #[.int .i64 0, .string ⟨#[]⟩, .string ⟨#[]⟩, .string ⟨#[]⟩, .string ⟨#[]⟩, .int .i64 0] 23)).alloc (.cells #[.int .i64 0, .string ⟨#[]⟩, .string ⟨#[]⟩, .string ⟨#[]⟩, .string ⟨#[]⟩, .int .i64 0] 23)) b (w.heap.size + 1) w.heap.size _ _ _) at H0
  generalize (w.alloc (.cells #[.int .i64 0, .string ⟨#[]⟩, .string ⟨#[]⟩, .string ⟨#[]⟩, .string ⟨#[]⟩, .int .i64 0] 23)).alloc (.cells #[.int .i64 0, .string ⟨#[]⟩, .string ⟨#[]⟩, .string ⟨#[]⟩, .string ⟨#[]⟩, .int .i64 0] 23) = W0 at H0 ⊢
  generalize w.heap.size + 1 = bo at H0 ⊢
  generalize w.heap.size = br at H0 ⊢
  change Hid (Hw a w0 w W0 b bo br P [.int .i64 0, .string ⟨#[]⟩, .string ⟨#[]⟩, .string ⟨#[]⟩, .string ⟨#[]⟩, .int .i64 0] [.int .i64 0, .string ⟨#[]⟩, .string ⟨#[]⟩, .string ⟨#[]⟩, .string ⟨#[]⟩, .int .i64 0]) at H0
  go_wp2_with fail
  refine (KN6.out W0 H0.out.q P (g1 P) rfl H0.out.h _).mono ?_
  rintro e1 v1 ⟨rfl, hd1, ge1⟩
  have J1 : Hid (Hw a w0 w v1 b bo br (g1 P) [.int .i64 0, .string ⟨#[]⟩, .string ⟨#[]⟩, .string ⟨#[]⟩, .string ⟨#[]⟩, .int .i64 0] [.int .i64 0, .string ⟨#[]⟩, .string ⟨#[]⟩, .string ⟨#[]⟩, .string ⟨#[]⟩, .int .i64 0]) := Lib.hid (H0.out.call hd1 ge1)
  clear hd1 ge1 H0
  have y0 := (J1.out.x 0 _ rfl).1
  have f0 := (J1.out.x 0 _ rfl).2
  have H1 : Hid (Hw a w0 w (v1.setCell ⟨bo, 0, none⟩ (.int .i64 ((g1 P).n : Int))) b bo br (g1 P) [.int .i64 ((g1 P).n : Int), .string ⟨#[]⟩, .string ⟨#[]⟩, .string ⟨#[]⟩, .string ⟨#[]⟩, .int .i64 0] [.int .i64 0, .string ⟨#[]⟩, .string ⟨#[]⟩, .string ⟨#[]⟩, .string ⟨#[]⟩, .int .i64 0]) := Lib.hid ((J1.out.put 0 (by simp) (.int .i64 ((g1 P).n : Int))))
  clear J1
  go_upto_region 3 with (fail)
  generalize (v1.setCell ⟨bo, 0, none⟩ (.int .i64 ((g1 P).n : Int))) = W1 at H1 ⊢
  clear y0 f0
  go_wp2_with fail
  refine (KT32.out W1 H1.out.q (g1 P) (g2 P) rfl H1.out.h _).mono ?_
  rintro e2 v2 ⟨rfl, hd2, ge2⟩
  have J2 : Hid (Hw a w0 w v2 b bo br (g2 P) [.int .i64 ((g1 P).n : Int), .string ⟨#[]⟩, .string ⟨#[]⟩, .string ⟨#[]⟩, .string ⟨#[]⟩, .int .i64 0] [.int .i64 0, .string ⟨#[]⟩, .string ⟨#[]⟩, .string ⟨#[]⟩, .string ⟨#[]⟩, .int .i64 0]) := Lib.hid (H1.out.call hd2 ge2)
  clear hd2 ge2 H1
  have y0 := (J2.out.x 1 _ rfl).1
  have f0 := (J2.out.x 1 _ rfl).2
  have H2 : Hid (Hw a w0 w (v2.setCell ⟨bo, 1, none⟩ (.string (ba (g2 P).t))) b bo br (g2 P) [.int .i64 ((g1 P).n : Int), .string (ba (g2 P).t), .string ⟨#[]⟩, .string ⟨#[]⟩, .string ⟨#[]⟩, .int .i64 0] [.int .i64 0, .string ⟨#[]⟩, .string ⟨#[]⟩, .string ⟨#[]⟩, .string ⟨#[]⟩, .int .i64 0]) := Lib.hid ((J2.out.put 1 (by simp) (.string (ba (g2 P).t))))
  clear J2
  go_upto_region 4 with (fail)
  generalize (v2.setCell ⟨bo, 1, none⟩ (.string (ba (g2 P).t))) = W2 at H2 ⊢
  clear y0 f0
  go_wp2_with fail
  refine (KT64.out W2 H2.out.q (g2 P) (g3 P) rfl H2.out.h _).mono ?_
  rintro e3 v3 ⟨rfl, hd3, ge3⟩
  have J3 : Hid (Hw a w0 w v3 b bo br (g3 P) [.int .i64 ((g1 P).n : Int), .string (ba (g2 P).t), .string ⟨#[]⟩, .string ⟨#[]⟩, .string ⟨#[]⟩, .int .i64 0] [.int .i64 0, .string ⟨#[]⟩, .string ⟨#[]⟩, .string ⟨#[]⟩, .string ⟨#[]⟩, .int .i64 0]) := Lib.hid (H2.out.call hd3 ge3)
  clear hd3 ge3 H2
  have y0 := (J3.out.x 2 _ rfl).1
  have f0 := (J3.out.x 2 _ rfl).2
  have H3 : Hid (Hw a w0 w (v3.setCell ⟨bo, 2, none⟩ (.string (ba (g3 P).t))) b bo br (g3 P) [.int .i64 ((g1 P).n : Int), .string (ba (g2 P).t), .string (ba (g3 P).t), .string ⟨#[]⟩, .string ⟨#[]⟩, .int .i64 0] [.int .i64 0, .string ⟨#[]⟩, .string ⟨#[]⟩, .string ⟨#[]⟩, .string ⟨#[]⟩, .int .i64 0]) := Lib.hid ((J3.out.put 2 (by simp) (.string (ba (g3 P).t))))
  clear J3
  go_upto_region 5 with (fail)
  generalize (v3.setCell ⟨bo, 2, none⟩ (.string (ba (g3 P).t))) = W3 at H3 ⊢
  clear y0 f0
  go_wp2_with fail
  refine (KT32.out W3 H3.out.q (g3 P) (g4 P) rfl H3.out.h _).mono ?_
  rintro e4 v4 ⟨rfl, hd4, ge4⟩
  have J4 : Hid (Hw a w0 w v4 b bo br (g4 P) [.int .i64 ((g1 P).n : Int), .string (ba (g2 P).t), .string (ba (g3 P).t), .string ⟨#[]⟩, .string ⟨#[]⟩, .int .i64 0] [.int .i64 0, .string ⟨#[]⟩, .string ⟨#[]⟩, .string ⟨#[]⟩, .string ⟨#[]⟩, .int .i64 0]) := Lib.hid (H3.out.call hd4 ge4)
  clear hd4 ge4 H3
  have y0 := (J4.out.x 3 _ rfl).1
  have f0 := (J4.out.x 3 _ rfl).2
  have H4 : Hid (Hw a w0 w (v4.setCell ⟨bo, 3, none⟩ (.string (ba (g4 P).t))) b bo br (g4 P) [.int .i64 ((g1 P).n : Int), .string (ba (g2 P).t), .string (ba (g3 P).t), .string (ba (g4 P).t), .string ⟨#[]⟩, .int .i64 0] [.int .i64 0, .string ⟨#[]⟩, .string ⟨#[]⟩, .string ⟨#[]⟩, .string ⟨#[]⟩, .int .i64 0]) := Lib.hid ((J4.out.put 3 (by simp) (.string (ba (g4 P).t))))
  clear J4
  go_upto_region 6 with (fail)
  generalize (v4.setCell ⟨bo, 3, none⟩ (.string (ba (g4 P).t))) = W4 at H4 ⊢
  clear y0 f0
  go_wp2_with fail
  refine (KT32.out W4 H4.out.q (g4 P) (g5 P) rfl H4.out.h _).mono ?_
  rintro e5 v5 ⟨rfl, hd5, ge5⟩
  have J5 : Hid (Hw a w0 w v5 b bo br (g5 P) [.int .i64 ((g1 P).n : Int), .string (ba (g2 P).t), .string (ba (g3 P).t), .string (ba (g4 P).t), .string ⟨#[]⟩, .int .i64 0] [.int .i64 0, .string ⟨#[]⟩, .string ⟨#[]⟩, .string ⟨#[]⟩, .string ⟨#[]⟩, .int .i64 0]) := Lib.hid (H4.out.call hd5 ge5)
  clear hd5 ge5 H4
  have y0 := (J5.out.x 4 _ rfl).1
  have f0 := (J5.out.x 4 _ rfl).2
  have H5 : Hid (Hw a w0 w (v5.setCell ⟨bo, 4, none⟩ (.string (ba (g5 P).t))) b bo br (g5 P) [.int .i64 ((g1 P).n : Int), .string (ba (g2 P).t), .string (ba (g3 P).t), .string (ba (g4 P).t), .string (ba (g5 P).t), .int .i64 0] [.int .i64 0, .string ⟨#[]⟩, .string ⟨#[]⟩, .string ⟨#[]⟩, .string ⟨#[]⟩, .int .i64 0]) := Lib.hid ((J5.out.put 4 (by simp) (.string (ba (g5 P).t))))
  clear J5
  go_upto_region 7 with (fail)
  generalize (v5.setCell ⟨bo, 4, none⟩ (.string (ba (g5 P).t))) = W5 at H5 ⊢
  clear y0 f0
  go_wp2_with fail
  refine (KNM.out W5 H5.out.q (g5 P) (g6 P) rfl H5.out.h _).mono ?_
  rintro e6 v6 ⟨rfl, hd6, ge6⟩
  have J6 : Hid (Hw a w0 w v6 b bo br (g6 P) [.int .i64 ((g1 P).n : Int), .string (ba (g2 P).t), .string (ba (g3 P).t), .string (ba (g4 P).t), .string (ba (g5 P).t), .int .i64 0] [.int .i64 0, .string ⟨#[]⟩, .string ⟨#[]⟩, .string ⟨#[]⟩, .string ⟨#[]⟩, .int .i64 0]) := Lib.hid (H5.out.call hd6 ge6)
  clear hd6 ge6 H5
  have y0 := (J6.out.x 5 _ rfl).1
  have f0 := (J6.out.x 5 _ rfl).2
  have H6 : Hid (Hw a w0 w (v6.setCell ⟨bo, 5, none⟩ (.int .i64 ((g6 P).n : Int))) b bo br (g6 P) [.int .i64 ((g1 P).n : Int), .string (ba (g2 P).t), .string (ba (g3 P).t), .string (ba (g4 P).t), .string (ba (g5 P).t), .int .i64 ((g6 P).n : Int)] [.int .i64 0, .string ⟨#[]⟩, .string ⟨#[]⟩, .string ⟨#[]⟩, .string ⟨#[]⟩, .int .i64 0]) := Lib.hid ((J6.out.put 5 (by simp) (.int .i64 ((g6 P).n : Int))))
  clear J6
  go_upto_region 8 with (fail)
  generalize (v6.setCell ⟨bo, 5, none⟩ (.int .i64 ((g6 P).n : Int))) = W6 at H6 ⊢
  clear y0 f0
  have y0 := (H6.out.x 0 _ rfl).1
  have z0 := (H6.out.r 0 _ rfl).1
  have f0 := (H6.out.r 0 _ rfl).2
  have y1 := (H6.out.x 1 _ rfl).1
  have z1 := (H6.out.r 1 _ rfl).1
  have f1 := (H6.out.r 1 _ rfl).2
  have y2 := (H6.out.x 2 _ rfl).1
  have z2 := (H6.out.r 2 _ rfl).1
  have f2 := (H6.out.r 2 _ rfl).2
  have y3 := (H6.out.x 3 _ rfl).1
  have z3 := (H6.out.r 3 _ rfl).1
  have f3 := (H6.out.r 3 _ rfl).2
  have y4 := (H6.out.x 4 _ rfl).1
  have z4 := (H6.out.r 4 _ rfl).1
  have f4 := (H6.out.r 4 _ rfl).2
  have y5 := (H6.out.x 5 _ rfl).1
  have z5 := (H6.out.r 5 _ rfl).1
  have f5 := (H6.out.r 5 _ rfl).2
  have HZ : Hid (Hw a w0 w ((((((W6.setCell ⟨br, 0, none⟩ (.int .i64 ((g1 P).n : Int))).setCell ⟨br, 1, none⟩ (.string (ba (g2 P).t))).setCell ⟨br, 2, none⟩ (.string (ba (g3 P).t))).setCell ⟨br, 3, none⟩ (.string (ba (g4 P).t))).setCell ⟨br, 4, none⟩ (.string (ba (g5 P).t))).setCell ⟨br, 5, none⟩ (.int .i64 ((g6 P).n : Int))) b bo br (g6 P) [.int .i64 ((g1 P).n : Int), .string (ba (g2 P).t), .string (ba (g3 P).t), .string (ba (g4 P).t), .string (ba (g5 P).t), .int .i64 ((g6 P).n : Int)] [.int .i64 ((g1 P).n : Int), .string (ba (g2 P).t), .string (ba (g3 P).t), .string (ba (g4 P).t), .string (ba (g5 P).t), .int .i64 ((g6 P).n : Int)]) := Lib.hid (((((((H6.out.putR 0 (by simp) (.int .i64 ((g1 P).n : Int))).putR 1 (by simp) (.string (ba (g2 P).t))).putR 2 (by simp) (.string (ba (g3 P).t))).putR 3 (by simp) (.string (ba (g4 P).t))).putR 4 (by simp) (.string (ba (g5 P).t))).putR 5 (by simp) (.int .i64 ((g6 P).n : Int))))
  go_wp2
  generalize ((((((W6.setCell ⟨br, 0, none⟩ (.int .i64 ((g1 P).n : Int))).setCell ⟨br, 1, none⟩ (.string (ba (g2 P).t))).setCell ⟨br, 2, none⟩ (.string (ba (g3 P).t))).setCell ⟨br, 3, none⟩ (.string (ba (g4 P).t))).setCell ⟨br, 4, none⟩ (.string (ba (g5 P).t))).setCell ⟨br, 5, none⟩ (.int .i64 ((g6 P).n : Int))) = W99 at HZ ⊢
  have r0 := (HZ.out.r 0 _ rfl).1
  have r1 := (HZ.out.r 1 _ rfl).1
  have r2 := (HZ.out.r 2 _ rfl).1
  have r3 := (HZ.out.r 3 _ rfl).1
  have r4 := (HZ.out.r 4 _ rfl).1
  have r5 := (HZ.out.r 5 _ rfl).1
  refine bodyPost_ret (v := .agg #[.int .i64 ((g1 P).n : Int), .string (ba (g2 P).t), .string (ba (g3 P).t), .string (ba (g4 P).t), .string (ba (g5 P).t), .int .i64 ((g6 P).n : Int)]) (by simp [results, Tryd.results61, go_sem, r0, r1, r2, r3, r4, r5]) rfl ?_
  exact ⟨rfl, HZ.out.h, HZ.out.g⟩

set_option maxRecDepth 100000 in
set_option maxHeartbeats 8000000 in
theorem hreq_any (a c : Addr) (b : Nat) (s : List UInt8) (w0 w : World) (hS : Sen w0 a c) (q0 : Q w0 w) (hb : w0.heap.size ≤ b) (hH : Hd a w b (p0 s)) :
    Calls Tryd.prog 46 #[.pointer (some ⟨b, 0, none⟩)] w fun e w' => e = .returned (rqV (hOf s)) ∧ Hd a w' b (lastH s) ∧ w.grownBy w' (some b) := by
  have KN6 : Hid (∀ W, Q w0 W → ∀ P P', tkm 6 P = P' → Hd a W b P → ∀ fld, Calls Tryd.prog 59 #[.pointer (some ⟨b, 0, none⟩), .string fld, .int .u64 6] W fun e w' => e = .returned (.int .i64 (P'.n : Int)) ∧ Hd a w' b P' ∧ W.grownBy w' (some b)) := Lib.hid (fun W q P P' hp h fld => by subst hp; exact hnum_any a c b 6 fld P W (hS.q q) h (by omega))
  have KNM : Hid (∀ W, Q w0 W → ∀ P P', tkm 1073741824 P = P' → Hd a W b P → ∀ fld, Calls Tryd.prog 59 #[.pointer (some ⟨b, 0, none⟩), .string fld, .int .u64 1073741824] W fun e w' => e = .returned (.int .i64 (P'.n : Int)) ∧ Hd a w' b P' ∧ W.grownBy w' (some b)) := Lib.hid (fun W q P P' hp h fld => by subst hp; exact hnum_any a c b 1073741824 fld P W (hS.q q) h (by omega))
  have KT16 : Hid (∀ W, Q w0 W → ∀ P P', tkt 16 P = P' → Hd a W b P → ∀ fld, Calls Tryd.prog 60 #[.pointer (some ⟨b, 0, none⟩), .string fld, .int .i64 16] W fun e w' => e = .returned (.string (ba P'.t)) ∧ Hd a w' b P' ∧ W.grownBy w' (some b)) := Lib.hid (fun W q P P' hp h fld => by subst hp; exact htext_any a c b 16 fld P W (hS.q q) h (by omega) (by omega))
  have KOP : Hid (∀ W, Q w0 W → Hd a W b (h5 s) → Calls Tryd.prog 61 #[.pointer (some ⟨b, 0, none⟩)] W fun e w' => e = .returned (.agg #[.int .i64 (opH (h5 s)).kind, .string (opH (h5 s)).key, .string (opH (h5 s)).val, .string (opH (h5 s)).lo, .string (opH (h5 s)).hi, .int .i64 (opH (h5 s)).most]) ∧ Hd a w' b (g6 (h5 s)) ∧ W.grownBy w' (some b)) := Lib.hid (fun W q h => hop_any a c b (h5 s) w0 W hS q hb h)
  by_cases h5n : (h1 s).n = 5
  · have HL := Lib.hid (show lastH s = g6 (h5 s) by unfold lastH; rw [if_pos h5n])
    have HV : Hid (Ending.returned (rqV ⟨(5 : Int), ((h2 s).n : Int), ((h3 s).n : Int), ((h4 s).n : Int), ba (h5 s).t, opH (h5 s)⟩) = .returned (rqV (hOf s))) := Lib.hid (by unfold hOf; rw [if_pos h5n, h5n]; rfl)
    have HK := Lib.hid h5n
    generalize opH (h5 s) = o at KOP HV
    clear h5n
    have H0 := Lib.hid (Hw.start [.int .i64 0, .int .i64 0, .int .i64 0, .int .i64 0, .string ⟨#[]⟩, .int .i64 0, .string ⟨#[]⟩, .string ⟨#[]⟩, .string ⟨#[]⟩, .string ⟨#[]⟩, .int .i64 0] [.int .i64 0, .int .i64 0, .int .i64 0, .int .i64 0, .string ⟨#[]⟩, .int .i64 0, .string ⟨#[]⟩, .string ⟨#[]⟩, .string ⟨#[]⟩, .string ⟨#[]⟩, .int .i64 0] 25 25 hH q0 hb)
    clear hS hH
    go_enter Tryd.func46, Tryd.ntmps46
    go_upto_region 2 with (fail)
    change Hid (Hw a w0 w ((w.alloc (.cells #[.int .i64 0, .int .i64 0, .int .i64 0, .int .i64 0, .string ⟨#[]⟩, .int .i64 0, .string ⟨#[]⟩, .string ⟨#[]⟩, .string ⟨#[]⟩, .string ⟨#[]⟩, .int .i64 0] 25)).alloc (.cells #[.int .i64 0, .int .i64 0, .int .i64 0, .int .i64 0, .string ⟨#[]⟩, .int .i64 0, .string ⟨#[]⟩, .string ⟨#[]⟩, .string ⟨#[]⟩, .string ⟨#[]⟩, .int .i64 0] 25)) b (w.heap.size + 1) w.heap.size _ _ _) at H0
    generalize (w.alloc (.cells #[.int .i64 0, .int .i64 0, .int .i64 0, .int .i64 0, .string ⟨#[]⟩, .int .i64 0, .string ⟨#[]⟩, .string ⟨#[]⟩, .string ⟨#[]⟩, .string ⟨#[]⟩, .int .i64 0] 25)).alloc (.cells #[.int .i64 0, .int .i64 0, .int .i64 0, .int .i64 0, .string ⟨#[]⟩, .int .i64 0, .string ⟨#[]⟩, .string ⟨#[]⟩, .string ⟨#[]⟩, .string ⟨#[]⟩, .int .i64 0] 25) = W0 at H0 ⊢
    generalize w.heap.size + 1 = bo at H0 ⊢
    generalize w.heap.size = br at H0 ⊢
    change Hid (Hw a w0 w W0 b bo br (p0 s) [.int .i64 0, .int .i64 0, .int .i64 0, .int .i64 0, .string ⟨#[]⟩, .int .i64 0, .string ⟨#[]⟩, .string ⟨#[]⟩, .string ⟨#[]⟩, .string ⟨#[]⟩, .int .i64 0] [.int .i64 0, .int .i64 0, .int .i64 0, .int .i64 0, .string ⟨#[]⟩, .int .i64 0, .string ⟨#[]⟩, .string ⟨#[]⟩, .string ⟨#[]⟩, .string ⟨#[]⟩, .int .i64 0]) at H0
    go_wp2_with fail
    refine (KN6.out W0 H0.out.q (p0 s) (h1 s) rfl H0.out.h _).mono ?_
    rintro e1 v1 ⟨rfl, hd1, ge1⟩
    rw [show ((h1 s).n : Int) = 5 from by rw [HK.out]; rfl]
    have J1 : Hid (Hw a w0 w v1 b bo br (h1 s) [.int .i64 0, .int .i64 0, .int .i64 0, .int .i64 0, .string ⟨#[]⟩, .int .i64 0, .string ⟨#[]⟩, .string ⟨#[]⟩, .string ⟨#[]⟩, .string ⟨#[]⟩, .int .i64 0] [.int .i64 0, .int .i64 0, .int .i64 0, .int .i64 0, .string ⟨#[]⟩, .int .i64 0, .string ⟨#[]⟩, .string ⟨#[]⟩, .string ⟨#[]⟩, .string ⟨#[]⟩, .int .i64 0]) := Lib.hid (H0.out.call hd1 ge1)
    clear hd1 ge1 H0
    have y0 := (J1.out.x 0 _ rfl).1
    have f0 := (J1.out.x 0 _ rfl).2
    have H1 : Hid (Hw a w0 w (v1.setCell ⟨bo, 0, none⟩ (.int .i64 5)) b bo br (h1 s) [.int .i64 5, .int .i64 0, .int .i64 0, .int .i64 0, .string ⟨#[]⟩, .int .i64 0, .string ⟨#[]⟩, .string ⟨#[]⟩, .string ⟨#[]⟩, .string ⟨#[]⟩, .int .i64 0] [.int .i64 0, .int .i64 0, .int .i64 0, .int .i64 0, .string ⟨#[]⟩, .int .i64 0, .string ⟨#[]⟩, .string ⟨#[]⟩, .string ⟨#[]⟩, .string ⟨#[]⟩, .int .i64 0]) := Lib.hid ((J1.out.put 0 (by simp) (.int .i64 5)))
    clear J1
    go_upto_region 3 with (fail)
    generalize (v1.setCell ⟨bo, 0, none⟩ (.int .i64 5)) = W1 at H1 ⊢
    clear y0 f0
    go_wp2_with fail
    refine (KNM.out W1 H1.out.q (h1 s) (h2 s) rfl H1.out.h _).mono ?_
    rintro e2 v2 ⟨rfl, hd2, ge2⟩
    have J2 : Hid (Hw a w0 w v2 b bo br (h2 s) [.int .i64 5, .int .i64 0, .int .i64 0, .int .i64 0, .string ⟨#[]⟩, .int .i64 0, .string ⟨#[]⟩, .string ⟨#[]⟩, .string ⟨#[]⟩, .string ⟨#[]⟩, .int .i64 0] [.int .i64 0, .int .i64 0, .int .i64 0, .int .i64 0, .string ⟨#[]⟩, .int .i64 0, .string ⟨#[]⟩, .string ⟨#[]⟩, .string ⟨#[]⟩, .string ⟨#[]⟩, .int .i64 0]) := Lib.hid (H1.out.call hd2 ge2)
    clear hd2 ge2 H1
    have y0 := (J2.out.x 1 _ rfl).1
    have f0 := (J2.out.x 1 _ rfl).2
    have H2 : Hid (Hw a w0 w (v2.setCell ⟨bo, 1, none⟩ (.int .i64 ((h2 s).n : Int))) b bo br (h2 s) [.int .i64 5, .int .i64 ((h2 s).n : Int), .int .i64 0, .int .i64 0, .string ⟨#[]⟩, .int .i64 0, .string ⟨#[]⟩, .string ⟨#[]⟩, .string ⟨#[]⟩, .string ⟨#[]⟩, .int .i64 0] [.int .i64 0, .int .i64 0, .int .i64 0, .int .i64 0, .string ⟨#[]⟩, .int .i64 0, .string ⟨#[]⟩, .string ⟨#[]⟩, .string ⟨#[]⟩, .string ⟨#[]⟩, .int .i64 0]) := Lib.hid ((J2.out.put 1 (by simp) (.int .i64 ((h2 s).n : Int))))
    clear J2
    go_upto_region 4 with (fail)
    generalize (v2.setCell ⟨bo, 1, none⟩ (.int .i64 ((h2 s).n : Int))) = W2 at H2 ⊢
    clear y0 f0
    go_wp2_with fail
    refine (KNM.out W2 H2.out.q (h2 s) (h3 s) rfl H2.out.h _).mono ?_
    rintro e3 v3 ⟨rfl, hd3, ge3⟩
    have J3 : Hid (Hw a w0 w v3 b bo br (h3 s) [.int .i64 5, .int .i64 ((h2 s).n : Int), .int .i64 0, .int .i64 0, .string ⟨#[]⟩, .int .i64 0, .string ⟨#[]⟩, .string ⟨#[]⟩, .string ⟨#[]⟩, .string ⟨#[]⟩, .int .i64 0] [.int .i64 0, .int .i64 0, .int .i64 0, .int .i64 0, .string ⟨#[]⟩, .int .i64 0, .string ⟨#[]⟩, .string ⟨#[]⟩, .string ⟨#[]⟩, .string ⟨#[]⟩, .int .i64 0]) := Lib.hid (H2.out.call hd3 ge3)
    clear hd3 ge3 H2
    have y0 := (J3.out.x 2 _ rfl).1
    have f0 := (J3.out.x 2 _ rfl).2
    have H3 : Hid (Hw a w0 w (v3.setCell ⟨bo, 2, none⟩ (.int .i64 ((h3 s).n : Int))) b bo br (h3 s) [.int .i64 5, .int .i64 ((h2 s).n : Int), .int .i64 ((h3 s).n : Int), .int .i64 0, .string ⟨#[]⟩, .int .i64 0, .string ⟨#[]⟩, .string ⟨#[]⟩, .string ⟨#[]⟩, .string ⟨#[]⟩, .int .i64 0] [.int .i64 0, .int .i64 0, .int .i64 0, .int .i64 0, .string ⟨#[]⟩, .int .i64 0, .string ⟨#[]⟩, .string ⟨#[]⟩, .string ⟨#[]⟩, .string ⟨#[]⟩, .int .i64 0]) := Lib.hid ((J3.out.put 2 (by simp) (.int .i64 ((h3 s).n : Int))))
    clear J3
    go_upto_region 5 with (fail)
    generalize (v3.setCell ⟨bo, 2, none⟩ (.int .i64 ((h3 s).n : Int))) = W3 at H3 ⊢
    clear y0 f0
    go_wp2_with fail
    refine (KNM.out W3 H3.out.q (h3 s) (h4 s) rfl H3.out.h _).mono ?_
    rintro e4 v4 ⟨rfl, hd4, ge4⟩
    have J4 : Hid (Hw a w0 w v4 b bo br (h4 s) [.int .i64 5, .int .i64 ((h2 s).n : Int), .int .i64 ((h3 s).n : Int), .int .i64 0, .string ⟨#[]⟩, .int .i64 0, .string ⟨#[]⟩, .string ⟨#[]⟩, .string ⟨#[]⟩, .string ⟨#[]⟩, .int .i64 0] [.int .i64 0, .int .i64 0, .int .i64 0, .int .i64 0, .string ⟨#[]⟩, .int .i64 0, .string ⟨#[]⟩, .string ⟨#[]⟩, .string ⟨#[]⟩, .string ⟨#[]⟩, .int .i64 0]) := Lib.hid (H3.out.call hd4 ge4)
    clear hd4 ge4 H3
    have y0 := (J4.out.x 3 _ rfl).1
    have f0 := (J4.out.x 3 _ rfl).2
    have H4 : Hid (Hw a w0 w (v4.setCell ⟨bo, 3, none⟩ (.int .i64 ((h4 s).n : Int))) b bo br (h4 s) [.int .i64 5, .int .i64 ((h2 s).n : Int), .int .i64 ((h3 s).n : Int), .int .i64 ((h4 s).n : Int), .string ⟨#[]⟩, .int .i64 0, .string ⟨#[]⟩, .string ⟨#[]⟩, .string ⟨#[]⟩, .string ⟨#[]⟩, .int .i64 0] [.int .i64 0, .int .i64 0, .int .i64 0, .int .i64 0, .string ⟨#[]⟩, .int .i64 0, .string ⟨#[]⟩, .string ⟨#[]⟩, .string ⟨#[]⟩, .string ⟨#[]⟩, .int .i64 0]) := Lib.hid ((J4.out.put 3 (by simp) (.int .i64 ((h4 s).n : Int))))
    clear J4
    go_upto_region 6 with (fail)
    generalize (v4.setCell ⟨bo, 3, none⟩ (.int .i64 ((h4 s).n : Int))) = W4 at H4 ⊢
    clear y0 f0
    go_wp2_with fail
    refine (KT16.out W4 H4.out.q (h4 s) (h5 s) rfl H4.out.h _).mono ?_
    rintro e5 v5 ⟨rfl, hd5, ge5⟩
    have J5 : Hid (Hw a w0 w v5 b bo br (h5 s) [.int .i64 5, .int .i64 ((h2 s).n : Int), .int .i64 ((h3 s).n : Int), .int .i64 ((h4 s).n : Int), .string ⟨#[]⟩, .int .i64 0, .string ⟨#[]⟩, .string ⟨#[]⟩, .string ⟨#[]⟩, .string ⟨#[]⟩, .int .i64 0] [.int .i64 0, .int .i64 0, .int .i64 0, .int .i64 0, .string ⟨#[]⟩, .int .i64 0, .string ⟨#[]⟩, .string ⟨#[]⟩, .string ⟨#[]⟩, .string ⟨#[]⟩, .int .i64 0]) := Lib.hid (H4.out.call hd5 ge5)
    clear hd5 ge5 H4
    have y0 := (J5.out.x 4 _ rfl).1
    have f0 := (J5.out.x 4 _ rfl).2
    have H5 : Hid (Hw a w0 w (v5.setCell ⟨bo, 4, none⟩ (.string (ba (h5 s).t))) b bo br (h5 s) [.int .i64 5, .int .i64 ((h2 s).n : Int), .int .i64 ((h3 s).n : Int), .int .i64 ((h4 s).n : Int), .string (ba (h5 s).t), .int .i64 0, .string ⟨#[]⟩, .string ⟨#[]⟩, .string ⟨#[]⟩, .string ⟨#[]⟩, .int .i64 0] [.int .i64 0, .int .i64 0, .int .i64 0, .int .i64 0, .string ⟨#[]⟩, .int .i64 0, .string ⟨#[]⟩, .string ⟨#[]⟩, .string ⟨#[]⟩, .string ⟨#[]⟩, .int .i64 0]) := Lib.hid ((J5.out.put 4 (by simp) (.string (ba (h5 s).t))))
    clear J5
    go_upto_region 7 with (fail)
    generalize (v5.setCell ⟨bo, 4, none⟩ (.string (ba (h5 s).t))) = W5 at H5 ⊢
    clear y0 f0
    have y0 := (H5.out.x 0 _ rfl).1
    go_upto_region 8 with (fail)
    clear y0
    go_wp2_with fail
    refine (KOP.out W5 H5.out.q H5.out.h).mono ?_
    rintro e6 v6 ⟨rfl, hd6, ge6⟩
    have J6 : Hid (Hw a w0 w v6 b bo br (g6 (h5 s)) [.int .i64 5, .int .i64 ((h2 s).n : Int), .int .i64 ((h3 s).n : Int), .int .i64 ((h4 s).n : Int), .string (ba (h5 s).t), .int .i64 0, .string ⟨#[]⟩, .string ⟨#[]⟩, .string ⟨#[]⟩, .string ⟨#[]⟩, .int .i64 0] [.int .i64 0, .int .i64 0, .int .i64 0, .int .i64 0, .string ⟨#[]⟩, .int .i64 0, .string ⟨#[]⟩, .string ⟨#[]⟩, .string ⟨#[]⟩, .string ⟨#[]⟩, .int .i64 0]) := Lib.hid (H5.out.call hd6 ge6)
    clear hd6 ge6 H5
    have y0 := (J6.out.x 5 _ rfl).1
    have f0 := (J6.out.x 5 _ rfl).2
    have y1 := (J6.out.x 6 _ rfl).1
    have f1 := (J6.out.x 6 _ rfl).2
    have y2 := (J6.out.x 7 _ rfl).1
    have f2 := (J6.out.x 7 _ rfl).2
    have y3 := (J6.out.x 8 _ rfl).1
    have f3 := (J6.out.x 8 _ rfl).2
    have y4 := (J6.out.x 9 _ rfl).1
    have f4 := (J6.out.x 9 _ rfl).2
    have y5 := (J6.out.x 10 _ rfl).1
    have f5 := (J6.out.x 10 _ rfl).2
    have H6 : Hid (Hw a w0 w ((((((v6.setCell ⟨bo, 5, none⟩ (.int .i64 o.kind)).setCell ⟨bo, 6, none⟩ (.string o.key)).setCell ⟨bo, 7, none⟩ (.string o.val)).setCell ⟨bo, 8, none⟩ (.string o.lo)).setCell ⟨bo, 9, none⟩ (.string o.hi)).setCell ⟨bo, 10, none⟩ (.int .i64 o.most)) b bo br (g6 (h5 s)) [.int .i64 5, .int .i64 ((h2 s).n : Int), .int .i64 ((h3 s).n : Int), .int .i64 ((h4 s).n : Int), .string (ba (h5 s).t), .int .i64 o.kind, .string o.key, .string o.val, .string o.lo, .string o.hi, .int .i64 o.most] [.int .i64 0, .int .i64 0, .int .i64 0, .int .i64 0, .string ⟨#[]⟩, .int .i64 0, .string ⟨#[]⟩, .string ⟨#[]⟩, .string ⟨#[]⟩, .string ⟨#[]⟩, .int .i64 0]) := Lib.hid (((((((J6.out.put 5 (by simp) (.int .i64 o.kind)).put 6 (by simp) (.string o.key)).put 7 (by simp) (.string o.val)).put 8 (by simp) (.string o.lo)).put 9 (by simp) (.string o.hi)).put 10 (by simp) (.int .i64 o.most)))
    clear J6
    go_upto_region 9 with (fail)
    generalize ((((((v6.setCell ⟨bo, 5, none⟩ (.int .i64 o.kind)).setCell ⟨bo, 6, none⟩ (.string o.key)).setCell ⟨bo, 7, none⟩ (.string o.val)).setCell ⟨bo, 8, none⟩ (.string o.lo)).setCell ⟨bo, 9, none⟩ (.string o.hi)).setCell ⟨bo, 10, none⟩ (.int .i64 o.most)) = W6 at H6 ⊢
    clear y0 f0 y1 f1 y2 f2 y3 f3 y4 f4 y5 f5
    have y0 := (H6.out.x 0 _ rfl).1
    have z0 := (H6.out.r 0 _ rfl).1
    have f0 := (H6.out.r 0 _ rfl).2
    have y1 := (H6.out.x 1 _ rfl).1
    have z1 := (H6.out.r 1 _ rfl).1
    have f1 := (H6.out.r 1 _ rfl).2
    have y2 := (H6.out.x 2 _ rfl).1
    have z2 := (H6.out.r 2 _ rfl).1
    have f2 := (H6.out.r 2 _ rfl).2
    have y3 := (H6.out.x 3 _ rfl).1
    have z3 := (H6.out.r 3 _ rfl).1
    have f3 := (H6.out.r 3 _ rfl).2
    have y4 := (H6.out.x 4 _ rfl).1
    have z4 := (H6.out.r 4 _ rfl).1
    have f4 := (H6.out.r 4 _ rfl).2
    have y5 := (H6.out.x 5 _ rfl).1
    have z5 := (H6.out.r 5 _ rfl).1
    have f5 := (H6.out.r 5 _ rfl).2
    have y6 := (H6.out.x 6 _ rfl).1
    have z6 := (H6.out.r 6 _ rfl).1
    have f6 := (H6.out.r 6 _ rfl).2
    have y7 := (H6.out.x 7 _ rfl).1
    have z7 := (H6.out.r 7 _ rfl).1
    have f7 := (H6.out.r 7 _ rfl).2
    have y8 := (H6.out.x 8 _ rfl).1
    have z8 := (H6.out.r 8 _ rfl).1
    have f8 := (H6.out.r 8 _ rfl).2
    have y9 := (H6.out.x 9 _ rfl).1
    have z9 := (H6.out.r 9 _ rfl).1
    have f9 := (H6.out.r 9 _ rfl).2
    have y10 := (H6.out.x 10 _ rfl).1
    have z10 := (H6.out.r 10 _ rfl).1
    have f10 := (H6.out.r 10 _ rfl).2
    have HZ : Hid (Hw a w0 w (((((((((((W6.setCell ⟨br, 0, none⟩ (.int .i64 5)).setCell ⟨br, 1, none⟩ (.int .i64 ((h2 s).n : Int))).setCell ⟨br, 2, none⟩ (.int .i64 ((h3 s).n : Int))).setCell ⟨br, 3, none⟩ (.int .i64 ((h4 s).n : Int))).setCell ⟨br, 4, none⟩ (.string (ba (h5 s).t))).setCell ⟨br, 5, none⟩ (.int .i64 o.kind)).setCell ⟨br, 6, none⟩ (.string o.key)).setCell ⟨br, 7, none⟩ (.string o.val)).setCell ⟨br, 8, none⟩ (.string o.lo)).setCell ⟨br, 9, none⟩ (.string o.hi)).setCell ⟨br, 10, none⟩ (.int .i64 o.most)) b bo br (g6 (h5 s)) [.int .i64 5, .int .i64 ((h2 s).n : Int), .int .i64 ((h3 s).n : Int), .int .i64 ((h4 s).n : Int), .string (ba (h5 s).t), .int .i64 o.kind, .string o.key, .string o.val, .string o.lo, .string o.hi, .int .i64 o.most] [.int .i64 5, .int .i64 ((h2 s).n : Int), .int .i64 ((h3 s).n : Int), .int .i64 ((h4 s).n : Int), .string (ba (h5 s).t), .int .i64 o.kind, .string o.key, .string o.val, .string o.lo, .string o.hi, .int .i64 o.most]) := Lib.hid ((((((((((((H6.out.putR 0 (by simp) (.int .i64 5)).putR 1 (by simp) (.int .i64 ((h2 s).n : Int))).putR 2 (by simp) (.int .i64 ((h3 s).n : Int))).putR 3 (by simp) (.int .i64 ((h4 s).n : Int))).putR 4 (by simp) (.string (ba (h5 s).t))).putR 5 (by simp) (.int .i64 o.kind)).putR 6 (by simp) (.string o.key)).putR 7 (by simp) (.string o.val)).putR 8 (by simp) (.string o.lo)).putR 9 (by simp) (.string o.hi)).putR 10 (by simp) (.int .i64 o.most)))
    go_wp2
    generalize (((((((((((W6.setCell ⟨br, 0, none⟩ (.int .i64 5)).setCell ⟨br, 1, none⟩ (.int .i64 ((h2 s).n : Int))).setCell ⟨br, 2, none⟩ (.int .i64 ((h3 s).n : Int))).setCell ⟨br, 3, none⟩ (.int .i64 ((h4 s).n : Int))).setCell ⟨br, 4, none⟩ (.string (ba (h5 s).t))).setCell ⟨br, 5, none⟩ (.int .i64 o.kind)).setCell ⟨br, 6, none⟩ (.string o.key)).setCell ⟨br, 7, none⟩ (.string o.val)).setCell ⟨br, 8, none⟩ (.string o.lo)).setCell ⟨br, 9, none⟩ (.string o.hi)).setCell ⟨br, 10, none⟩ (.int .i64 o.most)) = W99 at HZ ⊢
    have r0 := (HZ.out.r 0 _ rfl).1
    have r1 := (HZ.out.r 1 _ rfl).1
    have r2 := (HZ.out.r 2 _ rfl).1
    have r3 := (HZ.out.r 3 _ rfl).1
    have r4 := (HZ.out.r 4 _ rfl).1
    have r5 := (HZ.out.r 5 _ rfl).1
    have r6 := (HZ.out.r 6 _ rfl).1
    have r7 := (HZ.out.r 7 _ rfl).1
    have r8 := (HZ.out.r 8 _ rfl).1
    have r9 := (HZ.out.r 9 _ rfl).1
    have r10 := (HZ.out.r 10 _ rfl).1
    refine bodyPost_ret (v := .agg #[.int .i64 5, .int .i64 ((h2 s).n : Int), .int .i64 ((h3 s).n : Int), .int .i64 ((h4 s).n : Int), .string (ba (h5 s).t), .int .i64 o.kind, .string o.key, .string o.val, .string o.lo, .string o.hi, .int .i64 o.most]) (by simp [results, Tryd.results46, go_sem, r0, r1, r2, r3, r4, r5, r6, r7, r8, r9, r10]) rfl ?_
    exact ⟨HV.out, by rw [HL.out]; exact HZ.out.h, HZ.out.g⟩
  · have HL := Lib.hid (show lastH s = h5 s by unfold lastH; rw [if_neg h5n])
    have HV : Hid (Ending.returned (rqV ⟨((h1 s).n : Int), ((h2 s).n : Int), ((h3 s).n : Int), ((h4 s).n : Int), ba (h5 s).t, op0⟩) = .returned (rqV (hOf s))) := Lib.hid (by unfold hOf; rw [if_neg h5n])
    have hki : ¬ ((h1 s).n : Int) = 5 := by omega
    have hkb : (((h1 s).n : Int) == 5) = false := by simpa using hki
    clear KOP h5n
    have H0 := Lib.hid (Hw.start [.int .i64 0, .int .i64 0, .int .i64 0, .int .i64 0, .string ⟨#[]⟩, .int .i64 0, .string ⟨#[]⟩, .string ⟨#[]⟩, .string ⟨#[]⟩, .string ⟨#[]⟩, .int .i64 0] [.int .i64 0, .int .i64 0, .int .i64 0, .int .i64 0, .string ⟨#[]⟩, .int .i64 0, .string ⟨#[]⟩, .string ⟨#[]⟩, .string ⟨#[]⟩, .string ⟨#[]⟩, .int .i64 0] 25 25 hH q0 hb)
    clear hS hH
    go_enter Tryd.func46, Tryd.ntmps46
    go_upto_region 2 with (fail)
    change Hid (Hw a w0 w ((w.alloc (.cells #[.int .i64 0, .int .i64 0, .int .i64 0, .int .i64 0, .string ⟨#[]⟩, .int .i64 0, .string ⟨#[]⟩, .string ⟨#[]⟩, .string ⟨#[]⟩, .string ⟨#[]⟩, .int .i64 0] 25)).alloc (.cells #[.int .i64 0, .int .i64 0, .int .i64 0, .int .i64 0, .string ⟨#[]⟩, .int .i64 0, .string ⟨#[]⟩, .string ⟨#[]⟩, .string ⟨#[]⟩, .string ⟨#[]⟩, .int .i64 0] 25)) b (w.heap.size + 1) w.heap.size _ _ _) at H0
    generalize (w.alloc (.cells #[.int .i64 0, .int .i64 0, .int .i64 0, .int .i64 0, .string ⟨#[]⟩, .int .i64 0, .string ⟨#[]⟩, .string ⟨#[]⟩, .string ⟨#[]⟩, .string ⟨#[]⟩, .int .i64 0] 25)).alloc (.cells #[.int .i64 0, .int .i64 0, .int .i64 0, .int .i64 0, .string ⟨#[]⟩, .int .i64 0, .string ⟨#[]⟩, .string ⟨#[]⟩, .string ⟨#[]⟩, .string ⟨#[]⟩, .int .i64 0] 25) = W0 at H0 ⊢
    generalize w.heap.size + 1 = bo at H0 ⊢
    generalize w.heap.size = br at H0 ⊢
    change Hid (Hw a w0 w W0 b bo br (p0 s) [.int .i64 0, .int .i64 0, .int .i64 0, .int .i64 0, .string ⟨#[]⟩, .int .i64 0, .string ⟨#[]⟩, .string ⟨#[]⟩, .string ⟨#[]⟩, .string ⟨#[]⟩, .int .i64 0] [.int .i64 0, .int .i64 0, .int .i64 0, .int .i64 0, .string ⟨#[]⟩, .int .i64 0, .string ⟨#[]⟩, .string ⟨#[]⟩, .string ⟨#[]⟩, .string ⟨#[]⟩, .int .i64 0]) at H0
    go_wp2_with fail
    refine (KN6.out W0 H0.out.q (p0 s) (h1 s) rfl H0.out.h _).mono ?_
    rintro e1 v1 ⟨rfl, hd1, ge1⟩
    have J1 : Hid (Hw a w0 w v1 b bo br (h1 s) [.int .i64 0, .int .i64 0, .int .i64 0, .int .i64 0, .string ⟨#[]⟩, .int .i64 0, .string ⟨#[]⟩, .string ⟨#[]⟩, .string ⟨#[]⟩, .string ⟨#[]⟩, .int .i64 0] [.int .i64 0, .int .i64 0, .int .i64 0, .int .i64 0, .string ⟨#[]⟩, .int .i64 0, .string ⟨#[]⟩, .string ⟨#[]⟩, .string ⟨#[]⟩, .string ⟨#[]⟩, .int .i64 0]) := Lib.hid (H0.out.call hd1 ge1)
    clear hd1 ge1 H0
    have y0 := (J1.out.x 0 _ rfl).1
    have f0 := (J1.out.x 0 _ rfl).2
    have H1 : Hid (Hw a w0 w (v1.setCell ⟨bo, 0, none⟩ (.int .i64 ((h1 s).n : Int))) b bo br (h1 s) [.int .i64 ((h1 s).n : Int), .int .i64 0, .int .i64 0, .int .i64 0, .string ⟨#[]⟩, .int .i64 0, .string ⟨#[]⟩, .string ⟨#[]⟩, .string ⟨#[]⟩, .string ⟨#[]⟩, .int .i64 0] [.int .i64 0, .int .i64 0, .int .i64 0, .int .i64 0, .string ⟨#[]⟩, .int .i64 0, .string ⟨#[]⟩, .string ⟨#[]⟩, .string ⟨#[]⟩, .string ⟨#[]⟩, .int .i64 0]) := Lib.hid ((J1.out.put 0 (by simp) (.int .i64 ((h1 s).n : Int))))
    clear J1
    go_upto_region 3 with (fail)
    generalize (v1.setCell ⟨bo, 0, none⟩ (.int .i64 ((h1 s).n : Int))) = W1 at H1 ⊢
    clear y0 f0
    go_wp2_with fail
    refine (KNM.out W1 H1.out.q (h1 s) (h2 s) rfl H1.out.h _).mono ?_
    rintro e2 v2 ⟨rfl, hd2, ge2⟩
    have J2 : Hid (Hw a w0 w v2 b bo br (h2 s) [.int .i64 ((h1 s).n : Int), .int .i64 0, .int .i64 0, .int .i64 0, .string ⟨#[]⟩, .int .i64 0, .string ⟨#[]⟩, .string ⟨#[]⟩, .string ⟨#[]⟩, .string ⟨#[]⟩, .int .i64 0] [.int .i64 0, .int .i64 0, .int .i64 0, .int .i64 0, .string ⟨#[]⟩, .int .i64 0, .string ⟨#[]⟩, .string ⟨#[]⟩, .string ⟨#[]⟩, .string ⟨#[]⟩, .int .i64 0]) := Lib.hid (H1.out.call hd2 ge2)
    clear hd2 ge2 H1
    have y0 := (J2.out.x 1 _ rfl).1
    have f0 := (J2.out.x 1 _ rfl).2
    have H2 : Hid (Hw a w0 w (v2.setCell ⟨bo, 1, none⟩ (.int .i64 ((h2 s).n : Int))) b bo br (h2 s) [.int .i64 ((h1 s).n : Int), .int .i64 ((h2 s).n : Int), .int .i64 0, .int .i64 0, .string ⟨#[]⟩, .int .i64 0, .string ⟨#[]⟩, .string ⟨#[]⟩, .string ⟨#[]⟩, .string ⟨#[]⟩, .int .i64 0] [.int .i64 0, .int .i64 0, .int .i64 0, .int .i64 0, .string ⟨#[]⟩, .int .i64 0, .string ⟨#[]⟩, .string ⟨#[]⟩, .string ⟨#[]⟩, .string ⟨#[]⟩, .int .i64 0]) := Lib.hid ((J2.out.put 1 (by simp) (.int .i64 ((h2 s).n : Int))))
    clear J2
    go_upto_region 4 with (fail)
    generalize (v2.setCell ⟨bo, 1, none⟩ (.int .i64 ((h2 s).n : Int))) = W2 at H2 ⊢
    clear y0 f0
    go_wp2_with fail
    refine (KNM.out W2 H2.out.q (h2 s) (h3 s) rfl H2.out.h _).mono ?_
    rintro e3 v3 ⟨rfl, hd3, ge3⟩
    have J3 : Hid (Hw a w0 w v3 b bo br (h3 s) [.int .i64 ((h1 s).n : Int), .int .i64 ((h2 s).n : Int), .int .i64 0, .int .i64 0, .string ⟨#[]⟩, .int .i64 0, .string ⟨#[]⟩, .string ⟨#[]⟩, .string ⟨#[]⟩, .string ⟨#[]⟩, .int .i64 0] [.int .i64 0, .int .i64 0, .int .i64 0, .int .i64 0, .string ⟨#[]⟩, .int .i64 0, .string ⟨#[]⟩, .string ⟨#[]⟩, .string ⟨#[]⟩, .string ⟨#[]⟩, .int .i64 0]) := Lib.hid (H2.out.call hd3 ge3)
    clear hd3 ge3 H2
    have y0 := (J3.out.x 2 _ rfl).1
    have f0 := (J3.out.x 2 _ rfl).2
    have H3 : Hid (Hw a w0 w (v3.setCell ⟨bo, 2, none⟩ (.int .i64 ((h3 s).n : Int))) b bo br (h3 s) [.int .i64 ((h1 s).n : Int), .int .i64 ((h2 s).n : Int), .int .i64 ((h3 s).n : Int), .int .i64 0, .string ⟨#[]⟩, .int .i64 0, .string ⟨#[]⟩, .string ⟨#[]⟩, .string ⟨#[]⟩, .string ⟨#[]⟩, .int .i64 0] [.int .i64 0, .int .i64 0, .int .i64 0, .int .i64 0, .string ⟨#[]⟩, .int .i64 0, .string ⟨#[]⟩, .string ⟨#[]⟩, .string ⟨#[]⟩, .string ⟨#[]⟩, .int .i64 0]) := Lib.hid ((J3.out.put 2 (by simp) (.int .i64 ((h3 s).n : Int))))
    clear J3
    go_upto_region 5 with (fail)
    generalize (v3.setCell ⟨bo, 2, none⟩ (.int .i64 ((h3 s).n : Int))) = W3 at H3 ⊢
    clear y0 f0
    go_wp2_with fail
    refine (KNM.out W3 H3.out.q (h3 s) (h4 s) rfl H3.out.h _).mono ?_
    rintro e4 v4 ⟨rfl, hd4, ge4⟩
    have J4 : Hid (Hw a w0 w v4 b bo br (h4 s) [.int .i64 ((h1 s).n : Int), .int .i64 ((h2 s).n : Int), .int .i64 ((h3 s).n : Int), .int .i64 0, .string ⟨#[]⟩, .int .i64 0, .string ⟨#[]⟩, .string ⟨#[]⟩, .string ⟨#[]⟩, .string ⟨#[]⟩, .int .i64 0] [.int .i64 0, .int .i64 0, .int .i64 0, .int .i64 0, .string ⟨#[]⟩, .int .i64 0, .string ⟨#[]⟩, .string ⟨#[]⟩, .string ⟨#[]⟩, .string ⟨#[]⟩, .int .i64 0]) := Lib.hid (H3.out.call hd4 ge4)
    clear hd4 ge4 H3
    have y0 := (J4.out.x 3 _ rfl).1
    have f0 := (J4.out.x 3 _ rfl).2
    have H4 : Hid (Hw a w0 w (v4.setCell ⟨bo, 3, none⟩ (.int .i64 ((h4 s).n : Int))) b bo br (h4 s) [.int .i64 ((h1 s).n : Int), .int .i64 ((h2 s).n : Int), .int .i64 ((h3 s).n : Int), .int .i64 ((h4 s).n : Int), .string ⟨#[]⟩, .int .i64 0, .string ⟨#[]⟩, .string ⟨#[]⟩, .string ⟨#[]⟩, .string ⟨#[]⟩, .int .i64 0] [.int .i64 0, .int .i64 0, .int .i64 0, .int .i64 0, .string ⟨#[]⟩, .int .i64 0, .string ⟨#[]⟩, .string ⟨#[]⟩, .string ⟨#[]⟩, .string ⟨#[]⟩, .int .i64 0]) := Lib.hid ((J4.out.put 3 (by simp) (.int .i64 ((h4 s).n : Int))))
    clear J4
    go_upto_region 6 with (fail)
    generalize (v4.setCell ⟨bo, 3, none⟩ (.int .i64 ((h4 s).n : Int))) = W4 at H4 ⊢
    clear y0 f0
    go_wp2_with fail
    refine (KT16.out W4 H4.out.q (h4 s) (h5 s) rfl H4.out.h _).mono ?_
    rintro e5 v5 ⟨rfl, hd5, ge5⟩
    have J5 : Hid (Hw a w0 w v5 b bo br (h5 s) [.int .i64 ((h1 s).n : Int), .int .i64 ((h2 s).n : Int), .int .i64 ((h3 s).n : Int), .int .i64 ((h4 s).n : Int), .string ⟨#[]⟩, .int .i64 0, .string ⟨#[]⟩, .string ⟨#[]⟩, .string ⟨#[]⟩, .string ⟨#[]⟩, .int .i64 0] [.int .i64 0, .int .i64 0, .int .i64 0, .int .i64 0, .string ⟨#[]⟩, .int .i64 0, .string ⟨#[]⟩, .string ⟨#[]⟩, .string ⟨#[]⟩, .string ⟨#[]⟩, .int .i64 0]) := Lib.hid (H4.out.call hd5 ge5)
    clear hd5 ge5 H4
    have y0 := (J5.out.x 4 _ rfl).1
    have f0 := (J5.out.x 4 _ rfl).2
    have H5 : Hid (Hw a w0 w (v5.setCell ⟨bo, 4, none⟩ (.string (ba (h5 s).t))) b bo br (h5 s) [.int .i64 ((h1 s).n : Int), .int .i64 ((h2 s).n : Int), .int .i64 ((h3 s).n : Int), .int .i64 ((h4 s).n : Int), .string (ba (h5 s).t), .int .i64 0, .string ⟨#[]⟩, .string ⟨#[]⟩, .string ⟨#[]⟩, .string ⟨#[]⟩, .int .i64 0] [.int .i64 0, .int .i64 0, .int .i64 0, .int .i64 0, .string ⟨#[]⟩, .int .i64 0, .string ⟨#[]⟩, .string ⟨#[]⟩, .string ⟨#[]⟩, .string ⟨#[]⟩, .int .i64 0]) := Lib.hid ((J5.out.put 4 (by simp) (.string (ba (h5 s).t))))
    clear J5
    go_upto_region 7 with (fail)
    generalize (v5.setCell ⟨bo, 4, none⟩ (.string (ba (h5 s).t))) = W5 at H5 ⊢
    clear y0 f0
    have y0 := (H5.out.x 0 _ rfl).1
    go_upto_region 9 with (fail)
    clear y0
    have y0 := (H5.out.x 0 _ rfl).1
    have z0 := (H5.out.r 0 _ rfl).1
    have f0 := (H5.out.r 0 _ rfl).2
    have y1 := (H5.out.x 1 _ rfl).1
    have z1 := (H5.out.r 1 _ rfl).1
    have f1 := (H5.out.r 1 _ rfl).2
    have y2 := (H5.out.x 2 _ rfl).1
    have z2 := (H5.out.r 2 _ rfl).1
    have f2 := (H5.out.r 2 _ rfl).2
    have y3 := (H5.out.x 3 _ rfl).1
    have z3 := (H5.out.r 3 _ rfl).1
    have f3 := (H5.out.r 3 _ rfl).2
    have y4 := (H5.out.x 4 _ rfl).1
    have z4 := (H5.out.r 4 _ rfl).1
    have f4 := (H5.out.r 4 _ rfl).2
    have y5 := (H5.out.x 5 _ rfl).1
    have z5 := (H5.out.r 5 _ rfl).1
    have f5 := (H5.out.r 5 _ rfl).2
    have y6 := (H5.out.x 6 _ rfl).1
    have z6 := (H5.out.r 6 _ rfl).1
    have f6 := (H5.out.r 6 _ rfl).2
    have y7 := (H5.out.x 7 _ rfl).1
    have z7 := (H5.out.r 7 _ rfl).1
    have f7 := (H5.out.r 7 _ rfl).2
    have y8 := (H5.out.x 8 _ rfl).1
    have z8 := (H5.out.r 8 _ rfl).1
    have f8 := (H5.out.r 8 _ rfl).2
    have y9 := (H5.out.x 9 _ rfl).1
    have z9 := (H5.out.r 9 _ rfl).1
    have f9 := (H5.out.r 9 _ rfl).2
    have y10 := (H5.out.x 10 _ rfl).1
    have z10 := (H5.out.r 10 _ rfl).1
    have f10 := (H5.out.r 10 _ rfl).2
    have HZ : Hid (Hw a w0 w (((((((((((W5.setCell ⟨br, 0, none⟩ (.int .i64 ((h1 s).n : Int))).setCell ⟨br, 1, none⟩ (.int .i64 ((h2 s).n : Int))).setCell ⟨br, 2, none⟩ (.int .i64 ((h3 s).n : Int))).setCell ⟨br, 3, none⟩ (.int .i64 ((h4 s).n : Int))).setCell ⟨br, 4, none⟩ (.string (ba (h5 s).t))).setCell ⟨br, 5, none⟩ (.int .i64 0)).setCell ⟨br, 6, none⟩ (.string ⟨#[]⟩)).setCell ⟨br, 7, none⟩ (.string ⟨#[]⟩)).setCell ⟨br, 8, none⟩ (.string ⟨#[]⟩)).setCell ⟨br, 9, none⟩ (.string ⟨#[]⟩)).setCell ⟨br, 10, none⟩ (.int .i64 0)) b bo br (h5 s) [.int .i64 ((h1 s).n : Int), .int .i64 ((h2 s).n : Int), .int .i64 ((h3 s).n : Int), .int .i64 ((h4 s).n : Int), .string (ba (h5 s).t), .int .i64 0, .string ⟨#[]⟩, .string ⟨#[]⟩, .string ⟨#[]⟩, .string ⟨#[]⟩, .int .i64 0] [.int .i64 ((h1 s).n : Int), .int .i64 ((h2 s).n : Int), .int .i64 ((h3 s).n : Int), .int .i64 ((h4 s).n : Int), .string (ba (h5 s).t), .int .i64 0, .string ⟨#[]⟩, .string ⟨#[]⟩, .string ⟨#[]⟩, .string ⟨#[]⟩, .int .i64 0]) := Lib.hid ((((((((((((H5.out.putR 0 (by simp) (.int .i64 ((h1 s).n : Int))).putR 1 (by simp) (.int .i64 ((h2 s).n : Int))).putR 2 (by simp) (.int .i64 ((h3 s).n : Int))).putR 3 (by simp) (.int .i64 ((h4 s).n : Int))).putR 4 (by simp) (.string (ba (h5 s).t))).putR 5 (by simp) (.int .i64 0)).putR 6 (by simp) (.string ⟨#[]⟩)).putR 7 (by simp) (.string ⟨#[]⟩)).putR 8 (by simp) (.string ⟨#[]⟩)).putR 9 (by simp) (.string ⟨#[]⟩)).putR 10 (by simp) (.int .i64 0)))
    go_wp2
    generalize (((((((((((W5.setCell ⟨br, 0, none⟩ (.int .i64 ((h1 s).n : Int))).setCell ⟨br, 1, none⟩ (.int .i64 ((h2 s).n : Int))).setCell ⟨br, 2, none⟩ (.int .i64 ((h3 s).n : Int))).setCell ⟨br, 3, none⟩ (.int .i64 ((h4 s).n : Int))).setCell ⟨br, 4, none⟩ (.string (ba (h5 s).t))).setCell ⟨br, 5, none⟩ (.int .i64 0)).setCell ⟨br, 6, none⟩ (.string ⟨#[]⟩)).setCell ⟨br, 7, none⟩ (.string ⟨#[]⟩)).setCell ⟨br, 8, none⟩ (.string ⟨#[]⟩)).setCell ⟨br, 9, none⟩ (.string ⟨#[]⟩)).setCell ⟨br, 10, none⟩ (.int .i64 0)) = W99 at HZ ⊢
    have r0 := (HZ.out.r 0 _ rfl).1
    have r1 := (HZ.out.r 1 _ rfl).1
    have r2 := (HZ.out.r 2 _ rfl).1
    have r3 := (HZ.out.r 3 _ rfl).1
    have r4 := (HZ.out.r 4 _ rfl).1
    have r5 := (HZ.out.r 5 _ rfl).1
    have r6 := (HZ.out.r 6 _ rfl).1
    have r7 := (HZ.out.r 7 _ rfl).1
    have r8 := (HZ.out.r 8 _ rfl).1
    have r9 := (HZ.out.r 9 _ rfl).1
    have r10 := (HZ.out.r 10 _ rfl).1
    refine bodyPost_ret (v := .agg #[.int .i64 ((h1 s).n : Int), .int .i64 ((h2 s).n : Int), .int .i64 ((h3 s).n : Int), .int .i64 ((h4 s).n : Int), .string (ba (h5 s).t), .int .i64 0, .string ⟨#[]⟩, .string ⟨#[]⟩, .string ⟨#[]⟩, .string ⟨#[]⟩, .int .i64 0]) (by simp [results, Tryd.results46, go_sem, r0, r1, r2, r3, r4, r5, r6, r7, r8, r9, r10]) rfl ?_
    exact ⟨HV.out, by rw [HL.out]; exact HZ.out.h, HZ.out.g⟩

set_option maxRecDepth 100000 in
set_option maxHeartbeats 4000000 in
theorem hrow_any (a c : Addr) (b : Nat) (P : Pt) (w0 w : World) (hS : Sen w0 a c) (q0 : Q w0 w) (hb : w0.heap.size ≤ b) (hH : Hd a w b P) :
    Calls Tryd.prog 76 #[.pointer (some ⟨b, 0, none⟩)] w fun e w' => e = .returned (.agg #[.string (ba (tkt 32 P).t), .string (ba (tkt 64 (tkt 32 P)).t)]) ∧ Hd a w' b (tkt 64 (tkt 32 P)) ∧ w.grownBy w' (some b) := by
  have KT32 : Hid (∀ W, Q w0 W → ∀ P P', tkt 32 P = P' → Hd a W b P → ∀ fld, Calls Tryd.prog 60 #[.pointer (some ⟨b, 0, none⟩), .string fld, .int .i64 32] W fun e w' => e = .returned (.string (ba P'.t)) ∧ Hd a w' b P' ∧ W.grownBy w' (some b)) := Lib.hid (fun W q P P' hp h fld => by subst hp; exact htext_any a c b 32 fld P W (hS.q q) h (by omega) (by omega))
  have KT64 : Hid (∀ W, Q w0 W → ∀ P P', tkt 64 P = P' → Hd a W b P → ∀ fld, Calls Tryd.prog 60 #[.pointer (some ⟨b, 0, none⟩), .string fld, .int .i64 64] W fun e w' => e = .returned (.string (ba P'.t)) ∧ Hd a w' b P' ∧ W.grownBy w' (some b)) := Lib.hid (fun W q P P' hp h fld => by subst hp; exact htext_any a c b 64 fld P W (hS.q q) h (by omega) (by omega))
  have q1 := (Q.refl w).alloc (.cells #[.string ⟨#[]⟩, .string ⟨#[]⟩] 70)
  have X0 : Hid (Bx (w.alloc (.cells #[.string ⟨#[]⟩, .string ⟨#[]⟩] 70)) w.heap.size [.string ⟨#[]⟩, .string ⟨#[]⟩]) := Lib.hid (Bx.new w [.string ⟨#[]⟩, .string ⟨#[]⟩] 70)
  have H0 := Lib.hid (hH.q q1)
  have Q0 := Lib.hid (q0.trans q1)
  have G0 := Lib.hid (only_q (g := b) q1)
  have hl := hH.lt
  clear hS hH q1
  go_enter Tryd.func76, Tryd.ntmps76
  go_upto_region 1 with (fail)
  generalize w.alloc (.cells #[.string ⟨#[]⟩, .string ⟨#[]⟩] 70) = W0 at X0 H0 Q0 G0 ⊢
  generalize hbr : w.heap.size = br at X0 ⊢
  have HBR := Lib.hid hbr
  have hne := Lib.hid (show b ≠ br by omega)
  clear hbr hl
  go_wp2_with fail
  refine (KT32.out W0 Q0.out P _ rfl H0.out _).mono ?_
  rintro e1 v1 ⟨rfl, hd1, g1⟩
  have X1 := Lib.hid (bx_only X0.out g1 hne.out.symm)
  have Q1 := Lib.hid (q_only Q0.out g1 hb)
  have G1 := Lib.hid (G0.out.trans g1)
  have H1 := Lib.hid hd1
  clear hd1 g1 X0 Q0 G0 H0
  go_wp2_with fail
  refine (KT64.out v1 Q1.out _ _ rfl H1.out _).mono ?_
  rintro e2 v2 ⟨rfl, hd2, g2⟩
  have X2 := Lib.hid (bx_only X1.out g2 hne.out.symm)
  have G2 := Lib.hid (G1.out.trans g2)
  have H2 := Lib.hid hd2
  clear hd2 g2 X1 Q1 G1 H1
  have y0 := (X2.out 0 _ rfl).1
  have f0 := (X2.out 0 _ rfl).2
  have y1 := (X2.out 1 _ rfl).1
  have f1 := (X2.out 1 _ rfl).2
  have X3 : Hid (Bx ((v2.setCell ⟨br, 0, none⟩ (.string (ba (tkt 32 P).t))).setCell ⟨br, 1, none⟩ (.string (ba (tkt 64 (tkt 32 P)).t))) br [.string (ba (tkt 32 P).t), .string (ba (tkt 64 (tkt 32 P)).t)]) := Lib.hid ((X2.out.set (k := 0) (by simp) (.string (ba (tkt 32 P).t))).set (k := 1) (by simp) (.string (ba (tkt 64 (tkt 32 P)).t)))
  have G3 := Lib.hid (only_new (only_new G2.out (p := ⟨br, 0, none⟩) (Nat.le_of_eq HBR.out) (.string (ba (tkt 32 P).t))) (p := ⟨br, 1, none⟩) (Nat.le_of_eq HBR.out) (.string (ba (tkt 64 (tkt 32 P)).t)))
  have H3 := Lib.hid ((H2.out.far (p := ⟨br, 0, none⟩) hne.out.symm (.string (ba (tkt 32 P).t))).far (p := ⟨br, 1, none⟩) hne.out.symm (.string (ba (tkt 64 (tkt 32 P)).t)))
  go_wp2
  generalize (v2.setCell ⟨br, 0, none⟩ (.string (ba (tkt 32 P).t))).setCell ⟨br, 1, none⟩ (.string (ba (tkt 64 (tkt 32 P)).t)) = W9 at X3 G3 H3 ⊢
  have r0 := (X3.out 0 _ rfl).1
  have r1 := (X3.out 1 _ rfl).1
  refine bodyPost_ret (v := .agg #[.string (ba (tkt 32 P).t), .string (ba (tkt 64 (tkt 32 P)).t)]) (by simp [results, Tryd.results76, go_sem, r0, r1]) rfl ?_
  exact ⟨rfl, H3.out, G3.out⟩
end Wi
end Go.Proofs.YtdipikdebapmlaaDoor
