/- KvErr, KvIs, BatchMay, Bx2, BatchDo, KvBox, Builder, BatchBytes: merged. -/
import Derived.Test.YtccoknaaofmbcaaGreatDoorO2
import Derived.LaidEql
import Derived.Stop.Asserts
import Derived.RowKitTokens
import Derived.Stop.LaidTwo
import Derived.Test.YtccoknaaofmbcaaGreatDoorO8
import Derived.Deep.RegionHeld3
import Derived.Deep.DeepCutAuto
import Derived.Test.YtccoknaaofmbcaaGreatDoorO4
import Derived.Test.YtccoknaaofmbcaaGreatDoorO7
import Derived.Test.YtccoknaaofmbcaaGreatDoorO6
import Derived.Test.YtccoknaaofmbcaaGreatDoorO5
import Derived.Test.YtccoknaaofmbcaaGreatDoorO1
import Derived.Test.YtccoknaaofmbcaaGreatDoorShelfC
import Derived.Lib.Builder
import Derived.Lib.AppendStr
import Derived.OwnWalk
set_option linter.unusedVariables false
set_option linter.unusedSimpArgs false
set_option maxRecDepth 100000
set_option maxHeartbeats 16000000
open Go.Lib (hid)
namespace Go.Proofs.YtccoknaaofmbcaaGreatDoor
section
open Go.RowKit Go.Extern.Stop Go.Stop Go.Extern
abbrev fltV (a:Addr)(e:Int):Value:=.iface 136 (.agg #[.iface 322 (.pointer (some a)),.int .i64 e])
abbrev fltW (T:TypeId)(v:Value)(e:Int):Value:=.iface 136 (.agg #[.iface T v,.int .i64 e])
theorem kas_nil (t:Value)(w:World) :
  Calls Tryz.prog 73 #[.nilIface,t] w fun e w'=>e=.returned (.bool false)∧w'=w:=by
 go_enter Tryz.func73,Tryz.ntmps73
 go_wp2
 go_ret
 exact⟨rfl,rfl⟩
theorem kvOfP (t:Addr)(w:World):(ReflectliteValue.unpack (.iface 138 (.pointer (some t)))).run Tryz.prog w
 = .ok (.agg #[.pointer (some ⟨8, 138,none⟩),.pointer (some ⟨w.heap.size,0,none⟩),.int .u64 150]) (w.alloc (.cells #[.pointer (some t)] 138)):=by kernel_rfl
theorem kvTyP (a:Addr)(w:World):(ReflectliteValue.methodAny (ReflectliteValue.valueError "reflectlite.Value.Type" 0) (fun t _ _ _=>ReflectliteType.toType t) #[.agg #[.pointer (some ⟨8, 138,none⟩),.pointer (some a),.int .u64 150]]).run Tryz.prog w
    = .ok (.iface 230 (.agg #[.pointer (some ⟨8, 138,none⟩)])) w:=by kernel_rfl
theorem kvMeKind (h:Value)(w:World):(Go.method 455 230 (.agg #[h]) "Kind").run Tryz.prog w=.ok (268,h) w:=by kernel_rfl
theorem kvKindP (w:World):((ReflectliteType.abiMethod fun t=>(fun a:Nat=>Value.int IntKind.u8 (a:Int)) <$> Rtype.kind t) #[.pointer (some ⟨8, 138,none⟩)]).run Tryz.prog w=.ok (.int .u8 22) w:=by kernel_rfl
theorem kvKindF (w:World):((ReflectliteType.abiMethod fun t=>(fun a:Nat=>Value.int IntKind.u8 (a:Int)) <$> Rtype.kind t) #[.pointer (some ⟨8, 136,none⟩)]).run Tryz.prog w=.ok (.int .u8 25) w:=by kernel_rfl
theorem kvRlm (z:Sem Value)(f:TypeId→Addr→Nat→Nat→Sem Value)(v:Value) :
 ReflectliteValue.method z f #[v]=(do match ←ReflectliteValue.parts v with | none=>z | some (t,a,fl)=>f t a fl (fl % 32)):=rfl
theorem kvPartsP (a:Addr)(w:World):(ReflectliteValue.parts (.agg #[.pointer (some ⟨8, 138,none⟩),.pointer (some a),.int .u64 150])).run Tryz.prog w=.ok (some (138,a,150)) w:=by kernel_rfl
theorem kvIsNil (a p:Addr)(W:World)(ha:W.cell? a=some (.pointer (some p))) :
  (ReflectliteValue.method (ReflectliteValue.valueError "reflectlite.Value.IsNil" 0) ReflectliteValue.isNil #[.agg #[.pointer (some ⟨8, 138,none⟩),.pointer (some a),.int .u64 150]]).run Tryz.prog W=.ok (.bool false) W:=by
 rw[kvRlm]
 simp only[Sem.run_bind,kvPartsP,Result.andThen]
 simp[ReflectliteValue.isNil,loadVar,isAgg,underlying,Tryz.underlying138,ha,Result.andThen]
theorem kvMeElem (h:Value)(w:World):(Go.method 455 230 (.agg #[h]) "Elem").run Tryz.prog w=.ok (281,.agg #[h]) w:=by kernel_rfl
theorem kvMeImpl (h:Value)(w:World):(Go.method 455 230 (.agg #[h]) "Implements").run Tryz.prog w=.ok (282,.agg #[h]) w:=by kernel_rfl
theorem kvMeAssi (h:Value)(w:World):(Go.method 455 230 (.agg #[h]) "AssignableTo").run Tryz.prog w=.ok (279,.agg #[h]) w:=by kernel_rfl
theorem kvElemP (w:World):(ReflectliteType.method ReflectliteType.elem #[.agg #[.pointer (some ⟨8, 138,none⟩)]]).run Tryz.prog w=.ok (.iface 230 (.agg #[.pointer (some ⟨8, 136,none⟩)])) w:=by kernel_rfl
theorem kvImplF (w:World):(ReflectliteType.relation "Implements" ReflectliteType.implements_ #[.agg #[.pointer (some ⟨8, 136,none⟩)],.iface 230 (.agg #[.pointer (some ⟨8, 77,none⟩)])]).run Tryz.prog w=.ok (.bool true) w:=by kernel_rfl
theorem kvTypeOfF (v:Value)(w:World):(ReflectliteType.typeOf #[.iface 136 v]).run Tryz.prog w=.ok (.iface 230 (.agg #[.pointer (some ⟨8, 136,none⟩)])) w:=by kernel_rfl
theorem kvAssiF (w:World):(ReflectliteType.relation "AssignableTo" ReflectliteType.assignableTo #[.agg #[.pointer (some ⟨8, 136,none⟩)],.iface 230 (.agg #[.pointer (some ⟨8, 136,none⟩)])]).run Tryz.prog w=.ok (.bool true) w:=by kernel_rfl
theorem kvOfF (T:TypeId)(v:Value)(e:Int)(w:World):(ReflectliteValue.unpack (.iface 136 (.agg #[.iface T v,.int .i64 e]))).run Tryz.prog w
 = .ok (.agg #[.pointer (some ⟨8, 136,none⟩),.pointer (some ⟨w.heap.size,0,none⟩),.int .u64 153]) (w.alloc (.cells #[.iface T v,.int .i64 e] 136)):=by kernel_rfl
theorem kvElemOfP (w:World):(Rtype.elem? 138).run Tryz.prog w=.ok (some 136) w:=by kernel_rfl
theorem kvMkF (p:Addr)(w:World):(ReflectliteValue.mk 136 p ReflectliteValue.flagAddr).run Tryz.prog w=.ok (.agg #[.pointer (some ⟨8, 136,none⟩),.pointer (some p),.int .u64 409]) w:=by kernel_rfl
theorem kvElemV (a p:Addr)(W:World)(ha:W.cell? a=some (.pointer (some p))) :
  (ReflectliteValue.method (ReflectliteValue.valueError "reflectlite.Value.Elem" 0) ReflectliteValue.elem #[.agg #[.pointer (some ⟨8, 138,none⟩),.pointer (some a),.int .u64 150]]).run Tryz.prog W
    = .ok (.agg #[.pointer (some ⟨8, 136,none⟩),.pointer (some p),.int .u64 409]) W:=by
 rw[kvRlm]
 simp only[Sem.run_bind,kvPartsP,Result.andThen]
 simp[ReflectliteValue.elem,loadVar,isAgg,underlying,Tryz.underlying138,ha,Result.andThen,kvElemOfP,kvMkF]
theorem kvRls (v x:Value):ReflectliteValue.set #[v,x]=(do
 let (some (dst,a,fl),some (src,b,_)):=(←ReflectliteValue.parts v,←ReflectliteValue.parts x)
   | unsupported (.noEntry "extern/(internal/reflectlite.Value).Set.zeroValue")
 if fl / ReflectliteValue.flagAddr % 2 == 0 then unsupported (.noEntry "extern/(internal/reflectlite.Value).Set.unaddressable")
 let val ←loadVar src b
 if ←Rtype.directlyAssignable dst src then storeVar dst a val
 else if ←Rtype.implements dst src then
  if (←Rtype.kind src) == 20 then
   match val with
   | .nilIface=>unsupported (.noEntry "extern/reflectlite: a nil value of one interface type handed on as a value of another")
   | _=>storeVar dst a val
  else storeVar dst a (.iface src val)
 else panicString ("reflectlite.Set: value of type " ++ (←Rtype.spelt src) ++ " is not assignable to type " ++ (←Rtype.spelt dst))
 pure (.tuple #[])):=rfl
theorem kvPartsA (a:Addr)(w:World):(ReflectliteValue.parts (.agg #[.pointer (some ⟨8, 136,none⟩),.pointer (some a),.int .u64 409])).run Tryz.prog w=.ok (some (136,a,409)) w:=by kernel_rfl
theorem kvPartsB (a:Addr)(w:World):(ReflectliteValue.parts (.agg #[.pointer (some ⟨8, 136,none⟩),.pointer (some a),.int .u64 153])).run Tryz.prog w=.ok (some (136,a,153)) w:=by kernel_rfl
theorem kvDirect (w:World):(Rtype.directlyAssignable 136 136).run Tryz.prog w=.ok true w:=by kernel_rfl
theorem kvSizeF (w:World):(sizeOf 136).run Tryz.prog w=.ok 2 w:=by kernel_rfl
theorem kvLoadF {b:Nat}{T:TypeId}{v:Value}{e:Int}{W:World}(h:Bx W b [.iface T v,.int .i64 e]):(loadVar 136 ⟨b,0,none⟩).run Tryz.prog W=.ok (.agg #[.iface T v,.int .i64 e]) W:=by
 have h0:=(h 0 _ rfl).1
 have h1:=(h 1 _ rfl).1
 simp[loadVar,isAgg,underlying,Tryz.underlying136,kvSizeF,loadCells,loadCellsFrom,Addr.add,h0,h1,Result.andThen]
theorem kvStoreF {b:Nat}{o0 o1:Value}(T:TypeId)(v:Value)(e:Int){W:World}(h:Bx W b [o0,o1]):(storeVar 136 ⟨b,0,none⟩ (.agg #[.iface T v,.int .i64 e])).run Tryz.prog W=.ok () ((W.setCell ⟨b,0,none⟩ (.iface T v)).setCell ⟨b,1,none⟩ (.int .i64 e)):=by
 have h0:=h 0 _ rfl
 have h1:=(h.set (k:=0) (by simp) (.iface T v)) 1 _ rfl
 have e0:(store (Addr.add ⟨b,0,none⟩ 0) (.iface T v)).run Tryz.prog W=.ok () (W.setCell ⟨b,0,none⟩ (.iface T v)):=by
  rw[run_store Tryz.prog W _ _ _ (by rfl)]
  simp[Addr.add,h0.1,h0.2]
 have e1:(store (Addr.add ⟨b,0,none⟩ 1) (.int .i64 e)).run Tryz.prog (W.setCell ⟨b,0,none⟩ (.iface T v))=.ok () ((W.setCell ⟨b,0,none⟩ (.iface T v)).setCell ⟨b,1,none⟩ (.int .i64 e)):=by
  rw[run_store Tryz.prog _ _ _ _ (by rfl)]
  simp[Addr.add,h1.1,h1.2]
 simp[storeVar,kvSizeF,Value.cells,storeCells,e0,e1,Result.andThen]
theorem kvSet {b t:Nat}{o0 o1:Value}(T:TypeId)(v:Value)(e:Int){W:World}(hb:Bx W b [.iface T v,.int .i64 e])(ht:Bx W t [o0,o1]) :
  (ReflectliteValue.set #[.agg #[.pointer (some ⟨8, 136,none⟩),.pointer (some ⟨t,0,none⟩),.int .u64 409],.agg #[.pointer (some ⟨8, 136,none⟩),.pointer (some ⟨b,0,none⟩),.int .u64 153]]).run Tryz.prog W
    = .ok (.tuple #[]) ((W.setCell ⟨t,0,none⟩ (.iface T v)).setCell ⟨t,1,none⟩ (.int .i64 e)):=by
 rw[kvRls]
 simp only[Sem.run_bind,kvPartsA,kvPartsB,Result.andThen]
 simp[ReflectliteValue.flagAddr,kvLoadF hb,kvDirect,kvStoreF T v e ht,Result.andThen]
def ErrT (w:World):Prop:=w.cell? ⟨2,0,none⟩=some (.iface 230 (.agg #[.pointer (some ⟨8, 77,none⟩)]))
theorem kas_flt (T:TypeId)(v:Value)(e:Int)(t:Nat)(o0 o1:Value)(w:World)(hg:ErrT w)(hb:Bx w t [o0,o1]) :
  Calls Tryz.prog 73 #[fltW T v e,.iface 138 (.pointer (some ⟨t,0,none⟩))] w fun ev w'=>ev=.returned (.bool true)∧∃ w1,Q w w1∧w'=(w1.setCell ⟨t,0,none⟩ (.iface T v)).setCell ⟨t,1,none⟩ (.int .i64 e):=by
 have xValueOf:=@run_callFunc_extern Tryz.prog 125 _ (fun args=>ReflectliteValue.unpack (args.getD 0 (.tuple #[]))) Tryz.func125 (by kernel_rfl) (by kernel_rfl) (by kernel_rfl) (by kernel_rfl)
 have xType:=@run_callFunc_extern Tryz.prog 126 _ (ReflectliteValue.methodAny (ReflectliteValue.valueError "reflectlite.Value.Type" 0) (fun t _ _ _=>ReflectliteType.toType t)) Tryz.func126 (by kernel_rfl) (by kernel_rfl) (by kernel_rfl) (by kernel_rfl)
 have xIsNil:=@run_callFunc_extern Tryz.prog 127 _ (ReflectliteValue.method (ReflectliteValue.valueError "reflectlite.Value.IsNil" 0) ReflectliteValue.isNil) Tryz.func127 (by kernel_rfl) (by kernel_rfl) (by kernel_rfl) (by kernel_rfl)
 have xKind:=@run_callFunc_extern Tryz.prog 268 _ (ReflectliteType.abiMethod fun t=>do pure (.int .u8 (←Rtype.kind t))) Tryz.func268 (by kernel_rfl) (by kernel_rfl) (by kernel_rfl) (by kernel_rfl)
 have xElem:=@run_callFunc_extern Tryz.prog 281 _ (ReflectliteType.method ReflectliteType.elem) Tryz.func281 (by kernel_rfl) (by kernel_rfl) (by kernel_rfl) (by kernel_rfl)
 have xImpl:=@run_callFunc_extern Tryz.prog 282 _ (ReflectliteType.relation "Implements" ReflectliteType.implements_) Tryz.func282 (by kernel_rfl) (by kernel_rfl) (by kernel_rfl) (by kernel_rfl)
 have xTypeOf:=@run_callFunc_extern Tryz.prog 135 _ ReflectliteType.typeOf Tryz.func135 (by kernel_rfl) (by kernel_rfl) (by kernel_rfl) (by kernel_rfl)
 have xAssi:=@run_callFunc_extern Tryz.prog 279 _ (ReflectliteType.relation "AssignableTo" ReflectliteType.assignableTo) Tryz.func279 (by kernel_rfl) (by kernel_rfl) (by kernel_rfl) (by kernel_rfl)
 have xVElem:=@run_callFunc_extern Tryz.prog 163 _ (ReflectliteValue.method (ReflectliteValue.valueError "reflectlite.Value.Elem" 0) ReflectliteValue.elem) Tryz.func163 (by kernel_rfl) (by kernel_rfl) (by kernel_rfl) (by kernel_rfl)
 have xSet:=@run_callFunc_extern Tryz.prog 164 _ ReflectliteValue.set Tryz.func164 (by kernel_rfl) (by kernel_rfl) (by kernel_rfl) (by kernel_rfl)
 have tO:=kvTypeOfF
 have mA:=kvMeAssi
 have aF:=kvAssiF
 have vF:=kvOfF
 have f6:=kvOfP
 have f7:=kvTyP
 have mK:=kvMeKind
 have mE:=kvMeElem
 have mI:=kvMeImpl
 have kP:=kvKindP
 have kF:=kvKindF
 have eP:=kvElemP
 have iF:=kvImplF
 have n8:=kvIsNil ⟨w.heap.size,0,none⟩ ⟨t,0,none⟩ ((w.alloc (.cells #[.pointer (some ⟨t,0,none⟩)] 138)).alloc (.cells #[.pointer (some ⟨8, 138,none⟩),.pointer (some ⟨w.heap.size,0,none⟩),.int .u64 150] 186)) (by simp)
 have hlt:2 < w.heap.size:=block_lt_of_cell hg
 have htl:t<w.heap.size:=hb.lt
 have hg2:((w.alloc (.cells #[.pointer (some ⟨t,0,none⟩)] 138)).alloc (.cells #[.pointer (some ⟨8, 138,none⟩),.pointer (some ⟨w.heap.size,0,none⟩),.int .u64 150] 186)).cell? ⟨2,0,none⟩=some (.iface 230 (.agg #[.pointer (some ⟨8, 77,none⟩)])):=by
  rw[World.cell?_alloc_lt _ _ ⟨2,0,none⟩ (by simp;omega),World.cell?_alloc_lt _ _ ⟨2,0,none⟩ hlt];exact hg
 have el:=kvElemV ⟨w.heap.size,0,none⟩ ⟨t,0,none⟩ (((w.alloc (.cells #[.pointer (some ⟨t,0,none⟩)] 138)).alloc (.cells #[.pointer (some ⟨8, 138,none⟩),.pointer (some ⟨w.heap.size,0,none⟩),.int .u64 150] 186)).alloc (.cells #[.pointer (some ⟨8, 138,none⟩),.pointer (some ⟨w.heap.size,0,none⟩),.int .u64 150] 186)) (by rw[World.cell?_alloc_lt _ _ ⟨w.heap.size,0,none⟩ (by simp;omega)];simp)
 have st:=kvSet (b:=w.heap.size+1+1+1) (t:=t) T v e (W:=(((w.alloc (.cells #[.pointer (some ⟨t,0,none⟩)] 138)).alloc (.cells #[.pointer (some ⟨8, 138,none⟩),.pointer (some ⟨w.heap.size,0,none⟩),.int .u64 150] 186)).alloc (.cells #[.pointer (some ⟨8, 138,none⟩),.pointer (some ⟨w.heap.size,0,none⟩),.int .u64 150] 186)).alloc (.cells #[.iface T v,.int .i64 e] 136))
   (by have:=Bx.new (((w.alloc (.cells #[.pointer (some ⟨t,0,none⟩)] 138)).alloc (.cells #[.pointer (some ⟨8, 138,none⟩),.pointer (some ⟨w.heap.size,0,none⟩),.int .u64 150] 186)).alloc (.cells #[.pointer (some ⟨8, 138,none⟩),.pointer (some ⟨w.heap.size,0,none⟩),.int .u64 150] 186)) [.iface T v,.int .i64 e] 136;simpa using this)
   ((((hb.alloc _).alloc _).alloc _).alloc _)
 have QQ:=hid ((((Q.refl w).alloc (.cells #[.pointer (some ⟨t,0,none⟩)] 138)).alloc (.cells #[.pointer (some ⟨8, 138,none⟩),.pointer (some ⟨w.heap.size,0,none⟩),.int .u64 150] 186)).alloc (.cells #[.pointer (some ⟨8, 138,none⟩),.pointer (some ⟨w.heap.size,0,none⟩),.int .u64 150] 186) |>.alloc (.cells #[.iface T v,.int .i64 e] 136))
 clear hb
 go_enter Tryz.func73,Tryz.ntmps73
 go_wp2
 refine wp_loop_rounds 1 ?_
 rw[rounds_succ]
 go_wp2
 go_ret
 exact⟨rfl,_,QQ.out,rfl⟩
end
section
open Go.RowKit Go.Extern.Stop Go.Stop Go.Extern
structure Sen (w:World) (a b:Addr):Prop where
 ga:w.cell? ⟨0,0,none⟩=some (.iface 322 (.pointer (some a)))
 gb:w.cell? ⟨1,0,none⟩=some (.iface 322 (.pointer (some b)))
 ne:a≠b
 ha:∃ c t,w.heap[a.block]? = some (.cells c t (0,0))
 hb:∃ c t,w.heap[b.block]? = some (.cells c t (0,0))
theorem lt_of_some {w:World}{k:Nat}{o:Obj}(h:w.heap[k]? = some o):k<w.heap.size:=(Array.getElem?_eq_some_iff.1 h).1
theorem Sen.q {w w':World}{a b:Addr}(h:Sen w a b)(hq:Q w w'):Sen w' a b:=by
 obtain⟨g1,g2,hne,⟨c1,t1,h1⟩,c2,t2,h2⟩:=h
 exact⟨(hq.below.cell (block_lt_of_cell g1)).trans g1,(hq.below.cell (block_lt_of_cell g2)).trans g2,hne,⟨c1,t1,(hq.below.block _ (lt_of_some h1)).trans h1⟩,c2,t2,(hq.below.block _ (lt_of_some h2)).trans h2⟩
theorem ErrT.q {w w':World}(h:ErrT w)(hq:Q w w'):ErrT w':=(hq.below.cell (block_lt_of_cell h)).trans h
structure Kt (w:World) (a b:Addr):Prop where
 tab:Tab w
 typ:ErrT w
 sen:Sen w a b
theorem Kt.q {w w':World}{a b:Addr}(h:Kt w a b)(hq:Q w w'):Kt w' a b:=⟨h.tab.q hq,h.typ.q hq,h.sen.q hq⟩
def errV (a b:Addr)(e:Int):Value:=if e=0 then .nilIface else fltV (if e=6 then a else b) e
theorem errV_nil (a b:Addr):errV a b 0=.nilIface:=if_pos rfl
theorem errV_six (a b:Addr):errV a b 6=fltV a 6:=by unfold errV;rw[if_neg (by decide),if_pos rfl]
theorem errV_oth (a b:Addr){e:Int}(h0:e≠0)(h6:e≠6):errV a b e=fltV b e:=by unfold errV;rw[if_neg h0,if_neg h6]
theorem kwrong_any (e:Int)(a b:Addr)(w:World)(hS:Sen w a b) :
  Calls Tryz.prog 71 #[.int .i64 e] w fun ev w'=>ev=.returned (errV a b e)∧w'=w:=by
 obtain⟨g1,g2,_⟩:=hS
 by_cases h0:e=0
 · subst h0
   go_enter Tryz.func71,Tryz.ntmps71
   go_wp2
   go_ret
   exact⟨by rw[errV_nil];rfl,rfl⟩
 · by_cases h6:e=6
   · subst h6
     go_enter Tryz.func71,Tryz.ntmps71
     go_wp2
     go_ret
     exact⟨by rw[errV_six];rfl,rfl⟩
   · have H:=hid (errV_oth a b h0 h6)
     have b0:(e == 0)=false:=by simpa using h0
     have b6:(e == 6)=false:=by simpa using h6
     clear h0 h6
     go_enter Tryz.func71,Tryz.ntmps71
     go_wp2
     go_ret
     exact⟨by rw[H.out];rfl,rfl⟩
def Er (v:Value)(n:Int):Prop:=v=.nilIface∧n=0∨∃ T u,v=fltW T u n
theorem er_wrong (a b:Addr)(e:Int):Er (errV a b e) e:=by
 by_cases h:e=0
 · subst h;exact .inl ⟨errV_nil a b,rfl⟩
 · unfold errV;rw[if_neg h];exact .inr ⟨_,_,rfl⟩
def unfV (a b:Addr)(e:Int):Value:=if e=0 then .nilIface else fltW 136 (.agg #[.iface 322 (.pointer (some (if e=6 then a else b))),.int .i64 e]) 3
theorem kunf_any (e:Int)(a b:Addr)(w:World)(hS:Sen w a b) :
  Calls Tryz.prog 116 #[.int .i64 e] w fun ev w'=>ev=.returned (unfV a b e)∧w'=w:=by
 have K:=hid (kwrong_any e a b w hS)
 clear hS
 by_cases h0:e=0
 · subst h0
   go_enter Tryz.func116,Tryz.ntmps116
   go_wp2
   go_ret
   exact⟨by unfold unfV;rw[if_pos rfl];rfl,rfl⟩
 · have H:=hid (show unfV a b e=fltW 136 (.agg #[.iface 322 (.pointer (some (if e=6 then a else b))),.int .i64 e]) 3 by unfold unfV;rw[if_neg h0])
   have K2:Hid (Calls Tryz.prog 71 #[.int .i64 e] w fun ev w'=>ev=.returned (fltV (if e=6 then a else b) e)∧w'=w):=by
    have:=K.out
    unfold errV at this
    rw[if_neg h0] at this
    exact hid this
   have b0:(e == 0)=false:=by simpa using h0
   clear h0 K
   generalize (if e=6 then a else b)=c at H K2
   go_enter Tryz.func116,Tryz.ntmps116
   go_wp2_with fail
   refine K2.out.mono ?_
   rintro ev w2 ⟨rfl,rfl⟩
   go_wp2
   go_ret
   exact⟨by rw[H.out];rfl,rfl⟩
theorem unf_nil {a b:Addr}{e:Int}:unfV a b e=.nilIface↔e=0:=by
 unfold unfV
 by_cases h:e=0
 · simp[h]
 · simp[h]
theorem knum_any (v:Value)(n:Int)(w:World)(hv:Er v n)(hT:ErrT w) :
  Calls Tryz.prog 30 #[v] w fun ev w'=>ev=.returned (.int .i64 n)∧Q w w':=by
 rcases hv with ⟨rfl,rfl⟩ | ⟨T,u,rfl⟩
 · have B:=hid (Bx.new w [.nilIface,.int .i64 0] 136)
   have QA:=hid ((Q.refl w).alloc (.cells #[.nilIface,.int .i64 0] 136))
   go_enter Tryz.func30,Tryz.ntmps30
   go_upto_region 2 with (fail)
   generalize w.alloc (.cells #[.nilIface,.int .i64 0] 136)=w1 at B QA ⊢
   have h1:=(B.out 1 _ rfl).1
   go_wp2_with fail
   refine(kas_nil _ _).mono ?_
   rintro ev w2 ⟨rfl,rfl⟩
   go_wp2
   go_ret
   exact⟨rfl,QA.out⟩
 · have B:=hid (Bx.new w [.nilIface,.int .i64 0] 136)
   have QA:=hid ((Q.refl w).alloc (.cells #[.nilIface,.int .i64 0] 136))
   have HT:=hid (hT.q QA.out)
   clear hT
   go_enter Tryz.func30,Tryz.ntmps30
   go_upto_region 2 with (fail)
   generalize w.alloc (.cells #[.nilIface,.int .i64 0] 136)=w1 at B QA HT ⊢
   go_wp2_with fail
   refine(kas_flt T u n w.heap.size .nilIface (.int .i64 0) w1 HT.out B.out).mono ?_
   rintro ev w2 ⟨rfl,w3,q3,rfl⟩
   have B3:=((B.out.q q3).set (k:=0) (by simp) (.iface T u)).set (k:=1) (by simp) (.int .i64 n)
   have h1:=(B3 1 _ rfl).1
   have Q3:=hid (((QA.out.trans q3).setCell (p:=⟨w.heap.size,0,none⟩) (Nat.le_refl _) (.iface T u)).setCell (p:=⟨w.heap.size,1,none⟩) (Nat.le_refl _) (.int .i64 n))
   clear B3 q3
   generalize (w3.setCell ⟨w.heap.size,0,none⟩ (.iface T u)).setCell ⟨w.heap.size,1,none⟩ (.int .i64 n)=w4 at h1 Q3 ⊢
   go_wp2
   go_ret
   exact⟨rfl,Q3.out⟩
theorem kvIsTypeOf (v:Value)(w:World):(Extern.ReflectliteType.typeOf #[.iface 322 v]).run Tryz.prog w=.ok (.iface 230 (.agg #[.pointer (some ⟨8, 322,none⟩)])) w:=by kernel_rfl
noncomputable def kvCmpE:Array Value→Sem Value:=Extern.ReflectliteType.method fun t=>do Extern.Rtype.noPackHeld "Comparable" t;pure (.bool (←typeInfo t).comparable)
theorem kvIsCmp (w:World):(kvCmpE #[.agg #[.pointer (some ⟨8, 322,none⟩)]]).run Tryz.prog w=.ok (.bool true) w:=by kernel_rfl
theorem kvMeCmp (v:Value)(w:World):(Go.method 455 230 v "Comparable").run Tryz.prog w=.ok (280,v) w:=by kernel_rfl
theorem kvCmp:(Tryz.prog.info? 322).map (·.comparable)=some true:=by kernel_rfl
theorem kvSizeE:(Tryz.prog.info? 324).map (·.size)=some 1:=by kernel_rfl
theorem kvNoIsE (v:Value)(xT:TypeId)(w:World):(Instr.typeAssert (.iface 322 v) xT 248 true).run Tryz.prog w=.ok (.tuple #[.nilIface,.bool false]) w:=run_typeAssert_lacksB Tryz.underlying248 (by kernel_rfl) (by kernel_rfl) v xT w
theorem kvNoUnwE (v:Value)(xT:TypeId)(w:World):(Instr.typeAssert (.iface 322 v) xT 237 true).run Tryz.prog w=.ok (.tuple #[.nilIface,.bool false]) w:=run_typeAssert_lacksB Tryz.underlying237 (by kernel_rfl) (by kernel_rfl) v xT w
theorem kvNoUnwsE (v:Value)(xT:TypeId)(w:World):(Instr.typeAssert (.iface 322 v) xT 239 true).run Tryz.prog w=.ok (.tuple #[.nilIface,.bool false]) w:=run_typeAssert_lacksB Tryz.underlying239 (by kernel_rfl) (by kernel_rfl) v xT w
theorem kvNoIsF (v:Value)(xT:TypeId)(w:World):(Instr.typeAssert (.iface 136 v) xT 248 true).run Tryz.prog w=.ok (.tuple #[.nilIface,.bool false]) w:=run_typeAssert_lacksB Tryz.underlying248 (by kernel_rfl) (by kernel_rfl) v xT w
theorem kvUnwF (v:Value)(xT:TypeId)(w:World):(Instr.typeAssert (.iface 136 v) xT 237 true).run Tryz.prog w=.ok (.tuple #[.iface 136 v,.bool true]) w:=run_typeAssert_hasB Tryz.underlying237 (by kernel_rfl) v xT w
theorem kvMeUnw (v:Value)(w:World):(Go.method 455 136 v "Unwrap").run Tryz.prog w=.ok (272,v) w:=by kernel_rfl
theorem kis_nil (a:Addr)(w:World) :
  Calls Tryz.prog 89 #[.nilIface,.iface 322 (.pointer (some a))] w fun e w'=>e=.returned (.bool false)∧w'=w:=by
 have hn:=run_eql_iface_nil_left (P:=Tryz.prog) w 322 (.pointer (some a)) Tryz.underlying77
 go_enter Tryz.func89,Tryz.ntmps89
 go_wp2
 go_ret
 exact⟨rfl,rfl⟩
theorem kis_same (a:Addr)(e:Int)(w:World) :
  Calls Tryz.prog 89 #[fltV a e,.iface 322 (.pointer (some a))] w fun ev w'=>ev=.returned (.bool true)∧w'=w.alloc (.cells #[.iface 322 (.pointer (some a)),.int .i64 e] 136):=by
 obtain⟨i,hi,hcmp⟩:=Option.map_eq_some_iff.1 kvCmp
 obtain⟨j,hj,hjs⟩:=Option.map_eq_some_iff.1 kvSizeE
 have xT:=@run_callFunc_extern Tryz.prog 135 _ Extern.ReflectliteType.typeOf Tryz.func135 (by kernel_rfl) (by kernel_rfl) (by kernel_rfl) (by kernel_rfl)
 have xC:=@run_callFunc_extern Tryz.prog 280 _ kvCmpE Tryz.func280 (by kernel_rfl) (by kernel_rfl) (by kernel_rfl) (by kernel_rfl)
 have tT:=kvIsTypeOf
 have cT:=kvIsCmp
 have mR:=kvMeCmp
 have nF:=kvNoIsF
 have uF:=kvUnwF
 have mU:=kvMeUnw
 have heq:=fun W=>run_eql_iface_ptr_same (P:=Tryz.prog) W a Tryz.underlying77 Tryz.underlying322 hi hcmp hj
 have hty:=run_eql_iface_types (P:=Tryz.prog) 136 322 (.agg #[.iface 322 (.pointer (some a)),.int .i64 e]) (.pointer (some a)) Tryz.underlying77 (by decide) w
 go_enter Tryz.func89,Tryz.ntmps89
 go_wp2
 refine wp_loop_rounds 2 ?_
 rw[rounds_succ]
 go_wp2
 rw[rounds_succ]
 go_wp2
 go_ret
 exact⟨rfl,rfl⟩
theorem kis_other (a b:Addr)(e:Int)(w:World)(hS:Sen w a b) :
  Calls Tryz.prog 89 #[fltV b e,.iface 322 (.pointer (some a))] w fun ev w'=>ev=.returned (.bool false)∧w'=w.alloc (.cells #[.iface 322 (.pointer (some b)),.int .i64 e] 136):=by
 obtain⟨i,hi,hcmp⟩:=Option.map_eq_some_iff.1 kvCmp
 obtain⟨j,hj,hjs⟩:=Option.map_eq_some_iff.1 kvSizeE
 have xT:=@run_callFunc_extern Tryz.prog 135 _ Extern.ReflectliteType.typeOf Tryz.func135 (by kernel_rfl) (by kernel_rfl) (by kernel_rfl) (by kernel_rfl)
 have xC:=@run_callFunc_extern Tryz.prog 280 _ kvCmpE Tryz.func280 (by kernel_rfl) (by kernel_rfl) (by kernel_rfl) (by kernel_rfl)
 have tT:=kvIsTypeOf
 have cT:=kvIsCmp
 have mR:=kvMeCmp
 have nE:=kvNoIsE
 have uE:=kvNoUnwE
 have vE:=kvNoUnwsE
 have nF:=kvNoIsF
 have uF:=kvUnwF
 have mU:=kvMeUnw
 have hS2:=hS.q ((Q.refl w).alloc (.cells #[.iface 322 (.pointer (some b)),.int .i64 e] 136))
 have hne:=hS.ne
 obtain⟨_,_,_,⟨c1,t1,h1⟩,c2,t2,h2⟩:=hS2
 have heq:=run_eql_iface_ptr_other (P:=Tryz.prog) (w.alloc (.cells #[.iface 322 (.pointer (some b)),.int .i64 e] 136)) Tryz.underlying77 Tryz.underlying322 hi hcmp hj (by rw[hjs];decide) hne.symm h2 h1
 have hty:=run_eql_iface_types (P:=Tryz.prog) 136 322 (.agg #[.iface 322 (.pointer (some b)),.int .i64 e]) (.pointer (some a)) Tryz.underlying77 (by decide) w
 clear h1 h2 hne hS
 go_enter Tryz.func89,Tryz.ntmps89
 go_wp2
 refine wp_loop_rounds 2 ?_
 rw[rounds_succ]
 go_wp2
 rw[rounds_succ]
 go_wp2
 go_ret
 exact⟨rfl,rfl⟩
theorem kis_any (a b:Addr)(e:Int)(w:World)(hS:Sen w a b) :
  Calls Tryz.prog 89 #[errV a b e,.iface 322 (.pointer (some a))] w fun ev w'=>ev=.returned (.bool (decide (e=6)))∧Q w w':=by
 by_cases h0:e=0
 · subst h0
   rw[errV_nil]
   exact(kis_nil a w).mono fun ev w' h=>⟨h.1,by rw[h.2];exact Q.refl _⟩
 · by_cases h6:e=6
   · subst h6
     rw[errV_six]
     exact(kis_same a 6 w).mono fun ev w' h=>⟨h.1,by rw[h.2];exact(Q.refl _).alloc _⟩
   · rw[errV_oth a b h0 h6]
     exact(kis_other a b e w hS).mono fun ev w' h=>⟨by rw[h.1,decide_eq_false h6],by rw[h.2];exact(Q.refl _).alloc _⟩
end
section
open Go.RowKit Prm
abbrev batV (k:Int)(tok:ByteArray)(A:Option Addr)(n c:Nat):Value:=.agg #[.int .i64 k,.string tok,.slice A n c]
theorem wrong_any (x:Wr)(w:World):Calls Tryz.prog 171 #[x.v] w fun e w'=>e=.returned (.bool (Bm.wrong x))∧Q w w':=by
 obtain⟨a,b,d⟩:=x
 cases d
 · by_cases h1:(a.size:Int)<1
   · have hr:Bm.wrong ⟨a,b,false⟩=true:=Bm.wrong_t (by simp only[Bool.false_eq_true,if_false,if_true];omega)
     have HR:=hid hr
     clear hr
     go_enter Tryz.func171,Tryz.ntmps171
     go_wp2
     go_ret
     exact⟨ret_bool (by rw[HR.out]<;>first | rfl | exact decide_eq_true (by omega) | exact decide_eq_false (by omega)),(Q.refl _).alloc _⟩
   · by_cases h2:(32:Int)<(a.size:Int)
     · have hr:Bm.wrong ⟨a,b,false⟩=true:=Bm.wrong_t (by simp only[Bool.false_eq_true,if_false,if_true];omega)
       have HR:=hid hr
       clear hr
       go_enter Tryz.func171,Tryz.ntmps171
       go_wp2
       go_ret
       exact⟨ret_bool (by rw[HR.out]<;>first | rfl | exact decide_eq_true (by omega) | exact decide_eq_false (by omega)),(Q.refl _).alloc _⟩
     · by_cases h3:(64:Int)<(b.size:Int)
       · have hr:Bm.wrong ⟨a,b,false⟩=true:=Bm.wrong_t (by simp only[Bool.false_eq_true,if_false,if_true];omega)
         have HR:=hid hr
         clear hr
         go_enter Tryz.func171,Tryz.ntmps171
         go_wp2
         go_ret
         exact⟨ret_bool (by rw[HR.out]<;>first | rfl | exact decide_eq_true (by omega) | exact decide_eq_false (by omega)),(Q.refl _).alloc _⟩
       · have hr:Bm.wrong ⟨a,b,false⟩=false:=Bm.wrong_f (by simp only[Bool.false_eq_true,if_false,if_true];omega)
         have HR:=hid hr
         clear hr
         go_enter Tryz.func171,Tryz.ntmps171
         go_wp2
         go_ret
         exact⟨ret_bool (by rw[HR.out]<;>first | rfl | exact decide_eq_true (by omega) | exact decide_eq_false (by omega)),(Q.refl _).alloc _⟩
 · by_cases h1:(a.size:Int)<1
   · have hr:Bm.wrong ⟨a,b,true⟩=true:=Bm.wrong_t (by simp only[Bool.false_eq_true,if_false,if_true];omega)
     have HR:=hid hr
     clear hr
     go_enter Tryz.func171,Tryz.ntmps171
     go_wp2
     go_ret
     exact⟨ret_bool (by rw[HR.out]<;>first | rfl | exact decide_eq_true (by omega) | exact decide_eq_false (by omega)),(Q.refl _).alloc _⟩
   · by_cases h2:(32:Int)<(a.size:Int)
     · have hr:Bm.wrong ⟨a,b,true⟩=true:=Bm.wrong_t (by simp only[Bool.false_eq_true,if_false,if_true];omega)
       have HR:=hid hr
       clear hr
       go_enter Tryz.func171,Tryz.ntmps171
       go_wp2
       go_ret
       exact⟨ret_bool (by rw[HR.out]<;>first | rfl | exact decide_eq_true (by omega) | exact decide_eq_false (by omega)),(Q.refl _).alloc _⟩
     · by_cases h3:(0:Int)<(b.size:Int)
       · have hr:Bm.wrong ⟨a,b,true⟩=true:=Bm.wrong_t (by simp only[Bool.false_eq_true,if_false,if_true];omega)
         have HR:=hid hr
         clear hr
         go_enter Tryz.func171,Tryz.ntmps171
         go_wp2
         go_ret
         exact⟨ret_bool (by rw[HR.out]<;>first | rfl | exact decide_eq_true (by omega) | exact decide_eq_false (by omega)),(Q.refl _).alloc _⟩
       · have hr:Bm.wrong ⟨a,b,true⟩=false:=Bm.wrong_f (by simp only[Bool.false_eq_true,if_false,if_true];omega)
         have HR:=hid hr
         clear hr
         go_enter Tryz.func171,Tryz.ntmps171
         go_wp2
         go_ret
         exact⟨ret_bool (by rw[HR.out]<;>first | rfl | exact decide_eq_true (by omega) | exact decide_eq_false (by omega)),(Q.refl _).alloc _⟩
theorem indexWrong (A:Option Addr)(n c:Nat)(l:List Wr)(w:World)(hf:Lst writeK w A n l)(hn:n≤maxLen) :
  Calls Tryz.prog 197 #[.slice A n c,.func (.func 171) #[] #[]] w fun e w'=>e=.returned (.int .i64 (idx Bm.wrong l 0))∧Q w w':=by
 unfold maxLen at hn
 have HF:=hid hf
 clear hf
 go_enter Tryz.func197,Tryz.ntmps197
 go_wp2
 go_loopw [8] (fun i wr=>∃ k:Nat,k≤n∧i=.int .i64 k∧Q w wr∧idx Bm.wrong l 0=idx Bm.wrong (l.drop k) k) (fun i _=>n - (intOf i).toNat)
 case atStart=>exact⟨0,Nat.zero_le _,rfl,Q.refl _,rfl⟩
 case round =>
  obtain⟨k,hk,rfl,hq,hp⟩:=hrel
  have HP:=hid hp
  clear hp
  by_cases hlt:k<n
  · have hlen:=HF.out.len
    have hkl:k<l.length:=by omega
    obtain⟨ad,rfl,hb,c0,c1,c2⟩:=load_write (HF.out.q hq) hlt hkl
    clear hlen
    go_wp2_with fail
    refine(wrong_any l[k] _).mono ?_
    rintro e w1 ⟨rfl,q1⟩
    by_cases hh:Bm.wrong l[k]=true
    · go_wp2
      go_ret
      exact⟨ret_int (by rw[HP.out,idx_drop _ _ hkl,if_pos hh]),hq.trans q1⟩
    · have hd:Bm.wrong l[k]=false:=by simpa using hh
      go_wp2
      go_roundw
      case rel=>exact⟨k+1,by omega,by go_num,hq.trans q1,by rw[HP.out,idx_drop _ _ hkl,if_neg hh]⟩
      case measure=>simp[intOf];omega
  · have hlen:=HF.out.len
    have HL:=hid hlen
    clear hlen
    go_wp2
    go_ret
    exact⟨ret_int (by rw[HP.out,idx_end _ _ (by have:=HL.out;omega)]),hq⟩
theorem containsWrong (A:Option Addr)(n c:Nat)(l:List Wr)(w:World)(hf:Lst writeK w A n l)(hn:n≤maxLen) :
  Calls Tryz.prog 170 #[.slice A n c,.func (.func 171) #[] #[]] w fun e w'=>e=.returned (.bool (l.any Bm.wrong))∧Q w w':=by
 have K:=hid (indexWrong A n c l w hf hn)
 rcases idx_cases Bm.wrong l 0 with ⟨hp,hall⟩ | ⟨k,hk,hp,hkn,hfirst⟩
 · have hr:l.any Bm.wrong=false:=by rw[List.any_eq_false];intro x hx;simp[hall x hx]
   have HR:=hid hr
   have HP:=hid hp
   clear hr hp hall hf
   go_enter Tryz.func170,Tryz.ntmps170
   go_wp2_with fail
   refine K.out.mono ?_
   rintro e w1 ⟨rfl,q1⟩
   rw[HP.out]
   go_wp2
   go_ret
   exact⟨ret_bool HR.out.symm,q1⟩
 · have hr:l.any Bm.wrong=true:=List.any_eq_true.2 ⟨_,List.getElem_mem hk,hkn⟩
   have HR:=hid hr
   have HP:=hid (hp.trans (by simp:((0+k:Nat):Int)=(k:Int)))
   clear hr hp hfirst hf hkn
   have h0:(0:Int)≤(k:Int):=by omega
   go_enter Tryz.func170,Tryz.ntmps170
   go_wp2_with fail
   refine K.out.mono ?_
   rintro e w1 ⟨rfl,q1⟩
   rw[HP.out]
   go_wp2
   go_ret
   exact⟨ret_bool HR.out.symm,q1⟩
theorem rise_any (A:Option Addr)(n c:Nat)(l:List Wr)(w:World)(hf:Lst writeK w A n l)(hn:n≤24) :
  Calls Tryz.prog 169 #[.slice A n c] w fun e w'=>e=.returned (.bool (Bm.rise l))∧Q w w':=by
 have HF:=hid hf
 have HL:=hid hf.len
 clear hf
 go_enter Tryz.func169,Tryz.ntmps169
 go_wp2
 go_loopw [3,8] (fun s3 i wr=>∃ (k:Nat) (B:Option Addr) (d:Nat),k≤n∧i=.int .i64 k∧s3=.slice B k d∧OwnK pairK wr w.heap.size B k d (Bm.keys (l.take k))∧Q w wr) (fun _ i _=>n - (intOf i).toNat)
 case atStart=>exact⟨0,none,0,Nat.zero_le _,rfl,rfl,OwnK.nil_ _ _ _,Q.refl _⟩
 case round =>
  obtain⟨k,B,d,hk,rfl,rfl,o1,q1⟩:=hrel
  have HO:=hid o1
  have HQ:=hid q1
  clear o1 q1
  by_cases hlt:k<n
  · have hkl : k < l.length:=by have:=HL.out;omega
    have HN:=hid (show Bm.keys (l.take (k+1))=Bm.keys (l.take k)++[⟨l[k].key,⟨#[]⟩⟩] by unfold Bm.keys;rw[List.take_succ_eq_append_getElem hkl,List.map_append];rfl)
    obtain⟨ad,rfl,hab,x0,x1,x2⟩:=load_write (HF.out.q HQ.out) hlt hkl
    generalize l[k]=x at x0 x1 x2 HN
    generalize Bm.keys (l.take k)=ks at HO HN
    go_wp2_with (at_builtin
                 refine wpl_appK pairK rfl (.tmp 12) (.tmp 16) 28 rfl rfl w.heap.size B k d ks rfl ((HO.out.alloc _).alloc _) (some ⟨wr.heap.size+1,0,none⟩) 1 1 [⟨x.key,⟨#[]⟩⟩] rfl (by have:=lit_pair (wr.alloc (.cells #[.string x.key,.string x.val,.bool x.del] 73)) ⟨x.key,⟨#[]⟩⟩;simpa using this) (fun e=>by cases e) (by show (k+1)*32≤_;omega) (by have:=HQ.out.size;simp;omega) ?_
                 intro A5 c5 w5 o5 b5
                 have O5:=hid o5
                 have Q5:=hid (show Q w w5 from ((HQ.out.alloc _).alloc _).below.trans b5)
                 clear o5 b5)
    go_roundw
    case rel=>exact⟨k+1,A5,c5,by omega,by go_num,rfl,by rw[HN.out];exact O5.out,Q5.out⟩
    case measure=>simp[intOf];omega
  · have hkn:k=n:=by omega
    have HR:=hid (show Bm.keys (l.take k)=Bm.keys l by rw[hkn,List.take_of_length_le (by have:=HL.out;omega)])
    clear hkn
    go_wp2_with fail
    refine(right_any B k d _ _ HO.out.lst (by unfold maxLen;omega)).mono ?_
    rintro e w6 ⟨rfl,q6⟩
    go_wp2_with fail
    go_ret
    exact⟨ret_bool (by rw[HR.out];rfl),HQ.out.trans q6⟩
namespace Bm
theorem may_t1 {b:Bt}(h:b.tok.size<1∨16<b.tok.size):may b=false:=by unfold may;rw[if_pos h]
theorem may_1 {b:Bt}(h:¬(b.tok.size<1∨16<b.tok.size))(h1:b.kind=1):may b=(decide (b.ws.length≤24)&&rise b.ws && !b.ws.any wrong):=by unfold may;rw[if_neg h,if_pos h1]
theorem may_2 {b:Bt}(h:¬(b.tok.size<1∨16<b.tok.size))(h1:b.kind=2):may b=decide (b.ws.length=0):=by unfold may;rw[if_neg h,if_neg (by omega),if_pos h1]
theorem may_3 {b:Bt}(h1:b.kind≠1)(h2:b.kind≠2):may b=false:=by unfold may;rw[if_neg h1,if_neg h2];split<;>rfl
end Bm
theorem may_any (k:Int)(tok:ByteArray)(A:Option Addr)(n c:Nat)(l:List Wr)(w:World)(hf:Lst writeK w A n l)(hn:n≤maxLen) :
  Calls Tryz.prog 137 #[batV k tok A n c] w fun e w'=>e=.returned (.bool (Bm.may ⟨k,tok,l⟩))∧Q w w':=by
 have hl:=hf.len
 by_cases h1:(tok.size:Int)<1
 · have HR:=hid (Bm.may_t1 (b:=⟨k,tok,l⟩) (.inl (by simp only;omega)))
   clear hf hl
   go_enter Tryz.func137,Tryz.ntmps137
   go_wp2
   go_ret
   exact⟨ret_bool HR.out.symm,(Q.refl _).alloc _⟩
 by_cases h2:(16:Int)<(tok.size:Int)
 · have HR:=hid (Bm.may_t1 (b:=⟨k,tok,l⟩) (.inr (by simp only;omega)))
   clear hf hl
   go_enter Tryz.func137,Tryz.ntmps137
   go_wp2
   go_ret
   exact⟨ret_bool HR.out.symm,(Q.refl _).alloc _⟩
 have HT:=hid (show ¬(tok.size<1∨16<tok.size) by omega)
 by_cases k1:k=1
 · subst k1
   have hm:=Bm.may_1 (b:=⟨1,tok,l⟩) HT.out rfl
   simp only at hm
   have HF:=hid hf
   by_cases h3:(n:Int)≤24
   · have KR:=hid (fun W q=>rise_any A n c l W (hf.q q) (by omega))
     have KC:=hid (fun W q=>containsWrong A n c l W (hf.q q) hn)
     have h3':decide (l.length≤24)=true:=by simp;omega
     rw[h3',Bool.true_and] at hm
     have HM:=hid hm
     clear hf hl hm h3'
     generalize hr:Bm.rise l=r at KR HM
     have HR:=hid hr
     clear hr
     cases r with
     | false =>
       go_enter Tryz.func137,Tryz.ntmps137
       go_wp2_with fail
       refine(KR.out _ ((Q.refl _).alloc _)).mono ?_
       rintro e w1 ⟨rfl,q1⟩
       have Q1:=hid (((Q.refl w).alloc _).trans q1)
       clear q1
       go_wp2_with fail
       go_ret
       exact⟨ret_bool (by rw[HM.out];rfl),Q1.out⟩
     | true =>
       go_enter Tryz.func137,Tryz.ntmps137
       go_wp2_with fail
       refine(KR.out _ ((Q.refl _).alloc _)).mono ?_
       rintro e w1 ⟨rfl,q1⟩
       have x0:=((Bx.new w [.int .i64 1,.string tok,.slice A n c] 48).q q1).get3.1
       obtain⟨x0,x1,x2⟩:=x0
       have Q1:=hid (((Q.refl w).alloc _).trans q1)
       clear q1
       go_wp2_with fail
       refine(KC.out _ Q1.out).mono ?_
       rintro e w2 ⟨rfl,q2⟩
       have Q2:=hid (Q1.out.trans q2)
       clear q2
       generalize l.any Bm.wrong=b at HM
       cases b
       all_goals
         go_wp2_with fail
         go_ret
         exact⟨ret_bool (by rw[HM.out];rfl),Q2.out⟩
   · have h3':decide (l.length≤24)=false:=by simp;omega
     rw[h3',Bool.false_and,Bool.false_and] at hm
     have HM:=hid hm
     clear hf hl hm h3'
     go_enter Tryz.func137,Tryz.ntmps137
     go_wp2
     go_ret
     exact⟨ret_bool (by rw[HM.out]),(Q.refl _).alloc _⟩
 by_cases k2:k=2
 · subst k2
   have hm:=Bm.may_2 (b:=⟨2,tok,l⟩) HT.out rfl
   simp only at hm
   rw[hl] at hm
   have HM:=hid hm
   clear hf hl hm k1
   by_cases h3:n=0
   · subst h3
     go_enter Tryz.func137,Tryz.ntmps137
     go_wp2
     go_ret
     exact⟨ret_bool (by rw[HM.out];rfl),(Q.refl _).alloc _⟩
   · have h4:((n:Int) == 0)=false:=by simp;omega
     have H3:=hid h3
     clear h3
     go_enter Tryz.func137,Tryz.ntmps137
     go_wp2
     go_ret
     exact⟨ret_bool (by rw[HM.out];have:=H3.out;simp[this]),(Q.refl _).alloc _⟩
 have HM:=hid (Bm.may_3 (b:=⟨k,tok,l⟩) k1 k2)
 have k1':(k == 1)=false:=by simpa using k1
 have k2':(k == 2)=false:=by simpa using k2
 clear hf hl k1 k2
 go_enter Tryz.func137,Tryz.ntmps137
 go_wp2
 go_ret
 exact⟨ret_bool HM.out.symm,(Q.refl _).alloc _⟩
end
section
open Go.RowKit
abbrev staV (A:Option Addr)(n c:Nat)(B:Option Addr)(m d:Nat):Value:=.agg #[.slice A n c,.slice B m d]
theorem Bx.get2 {w:World}{b:Nat}{x y:Value}(h:Bx w b [x,y]):(w.cell? ⟨b,0,none⟩=some x∧w.cell? ⟨b,1,none⟩=some y)∧w.frozen? ⟨b,0,none⟩=false∧w.frozen? ⟨b,1,none⟩=false:=
 ⟨⟨(h 0 _ rfl).1,(h 1 _ rfl).1⟩,(h 0 _ rfl).2,(h 1 _ rfl).2⟩
theorem Bx.set2 {w:World}{b:Nat}{x y:Value}(h:Bx w b [x,y])(x' y':Value):Bx ((w.setCell ⟨b,0,none⟩ x').setCell ⟨b,1,none⟩ y') b [x',y']:=
 (h.set (k:=0) (by simp) x').set (k:=1) (by simp) y'
theorem Bx.far2 {w:World}{b c:Nat}{vs:List Value}(h:Bx w b vs)(hc:c≠b)(x' y':Value):Bx ((w.setCell ⟨c,0,none⟩ x').setCell ⟨c,1,none⟩ y') b vs:=
 (h.far (p:=⟨c,0,none⟩) hc x').far (p:=⟨c,1,none⟩) hc y'
theorem Q.set2 {a w:World}(h:Q a w){b:Nat}(hb:a.heap.size≤b)(x y:Value):Q a ((w.setCell ⟨b,0,none⟩ x).setCell ⟨b,1,none⟩ y):=(h.setCell (p:=⟨b,0,none⟩) hb x).setCell (p:=⟨b,1,none⟩) hb y
theorem OwnK.set2 {α:Type}{K:Kind α}{w:World}{base n c:Nat}{A:Option Addr}{l:List α}(h:OwnK K w base A n c l){b:Nat}(hp:b<base)(x y:Value):OwnK K ((w.setCell ⟨b,0,none⟩ x).setCell ⟨b,1,none⟩ y) base A n c l:=
 (h.setCell (p:=⟨b,0,none⟩) hp x).setCell (p:=⟨b,1,none⟩) hp y
end
section
open Go.RowKit Prm
def RetSt (w:World)(s:Bm.Sta)(e:Ending)(w':World):Prop:=
 ∃ A c B d,e=.returned (staV A s.data.length c B s.toks.length d)∧OwnK pairK w' w.heap.size A s.data.length c s.data∧OwnK pairK w' w.heap.size B s.toks.length d s.toks∧Q w w'
def RetS (w:World)(s:Bm.Sta×Nat)(e:Ending)(w':World):Prop:=
 ∃ A c B d,e=.returned (.tuple #[staV A s.1.data.length c B s.1.toks.length d,.int .i64 (s.2:Int)])∧OwnK pairK w' w.heap.size A s.1.data.length c s.1.data∧OwnK pairK w' w.heap.size B s.1.toks.length d s.1.toks∧Q w w'
theorem word_any (k:Int)(w:World):Calls Tryz.prog 142 #[.int .i64 k] w fun e w'=>e=.returned (.string (Bm.word k))∧w'=w:=by
 by_cases h:k=1
 · subst h
   go_enter Tryz.func142,Tryz.ntmps142
   go_wp2
   go_ret
   exact⟨rfl,rfl⟩
 · have HW:=hid (show Bm.word k=⟨#[103]⟩ by unfold Bm.word;rw[if_neg h])
   have h':(k == 1)=false:=by simpa using h
   clear h
   go_enter Tryz.func142,Tryz.ntmps142
   go_wp2
   go_ret
   exact⟨by rw[HW.out];rfl,rfl⟩
theorem bown_any (A B:Option Addr)(n c m d:Nat)(l t:List Pr)(w:World)(hA:In_ pairK w A n c l)(hB:In_ pairK w B m d t) :
  Calls Tryz.prog 138 #[staV A n c B m d] w (RetSt w ⟨l,t⟩):=by
 have HA:=hid (fun W q=>clonePairs A n c l W (hA.q q))
 have HB:=hid (fun W q=>clonePairs B m d t W (hB.q q))
 have HN:=hid hA.len
 have HM:=hid hB.len
 clear hA hB
 go_enter Tryz.func138,Tryz.ntmps138
 go_upto_region 1 with (fail)
 have X:Hid (Bx ((w.alloc (.cells #[.slice A n c,.slice B m d] 30)).alloc (.cells #[.slice none 0 0,.slice none 0 0] 30)) w.heap.size [.slice A n c,.slice B m d] ∧
     Bx ((w.alloc (.cells #[.slice A n c,.slice B m d] 30)).alloc (.cells #[.slice none 0 0,.slice none 0 0] 30)) (w.heap.size+1) [.slice none 0 0,.slice none 0 0] ∧
     Q w ((w.alloc (.cells #[.slice A n c,.slice B m d] 30)).alloc (.cells #[.slice none 0 0,.slice none 0 0] 30))∧w.heap.size+1+1≤((w.alloc (.cells #[.slice A n c,.slice B m d] 30)).alloc (.cells #[.slice none 0 0,.slice none 0 0] 30)).heap.size):=by
   refine hid ⟨(Bx.new w [.slice A n c,.slice B m d] 30).alloc _,?_,((Q.refl w).alloc _).alloc _,by simp⟩
   have:=Bx.new (w.alloc (.cells #[.slice A n c,.slice B m d] 30)) [.slice none 0 0,.slice none 0 0] 30
   simpa using this
 generalize ((w.alloc (.cells #[.slice A n c,.slice B m d] 30)).alloc (.cells #[.slice none 0 0,.slice none 0 0] 30))=w2 at X ⊢
 obtain⟨⟨c0,c1⟩,_⟩:=X.out.1.get2
 go_wp2
 go_region_held3 (fun w'=>w'.cell? ⟨w.heap.size,0,none⟩=some (.slice A n c)∧w'.cell? ⟨w.heap.size,1,none⟩=some (.slice B m d))
   (first
     | go_keep
     | (go_split_ands
        (repeat' apply And.intro)<;>exact box_ ‹Q _ _› (by assumption)))
   (first
     | (go_at_call 95
        (with_reducible refine(HA.out _ X.out.2.2.1.drew).mono ?_)
        rintro e w3 ⟨A3,c3,rfl,o3,y3⟩)
     | (go_at_call 95
        (with_reducible refine(HB.out _ (X.out.2.2.1.drew.trans y3)).mono ?_)
        rintro e w4 ⟨A4,c4,rfl,o4,y4⟩
        obtain⟨⟨p0,p1⟩,p2,p3⟩:=(((X.out.2.1.q (Q.refl _).drew).q y3).q y4).get2))
 have HO3:=hid (o3.q y4)
 have HO4:=hid o4
 have HY:=hid ((X.out.2.2.1.drew.trans y3).trans y4)
 have HR:=hid ((((X.out.2.1.q (Q.refl _).drew).q y3).q y4).set2 (.slice A3 n c3) (.slice A4 m c4))
 have HS:=hid (show w.heap.size+1+1≤w3.heap.size from Nat.le_trans X.out.2.2.2 y3.size)
 clear o3 o4 y3 y4
 obtain⟨⟨r0,r1⟩,_⟩:=HR.out.get2
 go_wp2
 refine bodyPost_ret (v:=staV A3 n c3 A4 m c4) (by simp[results,Tryz.results138,go_sem,r0,r1]) rfl ?_
 refine⟨A3,c3,A4,c4,by rw[HN.out,HM.out],?_,?_,HY.out.set2 (by omega) _ _⟩
 · rw[HN.out];exact(HO3.out.set2 (b:=w.heap.size+1) (by have:=X.out.2.2.2;simp only[World.size_drew];omega) _ _).lower (by have:=X.out.2.2.2;simp only[World.size_drew];omega)
 · rw[HM.out];exact(HO4.out.set2 (b:=w.heap.size+1) (by have:=HS.out;omega) _ _).lower (by have:=HS.out;omega)
theorem decided_any (tok:ByteArray)(A B:Option Addr)(n c m d:Nat)(t:List Pr)(w:World)(hB:Lst pairK w B m t)(hm:m≤maxLen) :
  Calls Tryz.prog 139 #[staV A n c B m d,.string tok] w fun e w'=>e=.returned (.tuple #[.string (find tok t).1,.bool (find tok t).2])∧Q w w':=by
 have K:=hid (fun W q=>tfind_any tok B m d t W (hB.q q) hm)
 clear hB
 go_enter Tryz.func139,Tryz.ntmps139
 go_wp2_with fail
 refine(K.out _ ((Q.refl _).alloc _)).mono ?_
 rintro e w1 ⟨rfl,q1⟩
 have Q1:=hid (((Q.refl w).alloc _).trans q1)
 clear q1
 go_wp2
 go_ret2
 exact⟨rfl,Q1.out⟩
structure Ds (w:World) (A:Option Addr) (n c:Nat) (B:Option Addr) (m d:Nat) (k:Int) (tok:ByteArray) (C:Option Addr) (p q:Nat) (wi:World):Prop where
 b1:Bx wi w.heap.size [.slice A n c,.slice B m d]
 b2:Bx wi (w.heap.size+1) [.int .i64 k,.string tok,.slice C p q]
 b3:Bx wi (w.heap.size+1+1) [.slice none 0 0,.slice none 0 0]
 q:Q w wi
 l:w.heap.size+1+1+1≤wi.heap.size
theorem Ds.step {w wi wj:World}{A B C:Option Addr}{n c m d p q:Nat}{k:Int}{tok:ByteArray}(h:Ds w A n c B m d k tok C p q wi)(y:Q wi wj):Ds w A n c B m d k tok C p q wj:=
 ⟨h.b1.q y,h.b2.q y,h.b3.q y,h.q.trans y,Nat.le_trans h.l y.size⟩
theorem Ds.new (w:World)(A:Option Addr)(n c:Nat)(B:Option Addr)(m d:Nat)(k:Int)(tok:ByteArray)(C:Option Addr)(p q:Nat) :
  Ds w A n c B m d k tok C p q (((w.alloc (.cells #[.slice A n c,.slice B m d] 30)).alloc (.cells #[.int .i64 k,.string tok,.slice C p q] 48)).alloc (.cells #[.slice none 0 0,.slice none 0 0] 30)):=by
 refine⟨((Bx.new w [.slice A n c,.slice B m d] 30).alloc _).alloc _,?_,?_,(((Q.refl w).alloc _).alloc _).alloc _,by simp⟩
 · have:=(Bx.new (w.alloc (.cells #[.slice A n c,.slice B m d] 30)) [.int .i64 k,.string tok,.slice C p q] 48).alloc (.cells #[.slice none 0 0,.slice none 0 0] 30)
   simpa using this
 · have:=Bx.new ((w.alloc (.cells #[.slice A n c,.slice B m d] 30)).alloc (.cells #[.int .i64 k,.string tok,.slice C p q] 48)) [.slice none 0 0,.slice none 0 0] 30
   simpa using this
theorem Ds.get {w wi:World}{A B C:Option Addr}{n c m d p q:Nat}{k:Int}{tok:ByteArray}(h:Ds w A n c B m d k tok C p q wi) :
  (wi.cell? ⟨w.heap.size,0,none⟩=some (.slice A n c)∧wi.cell? ⟨w.heap.size,1,none⟩=some (.slice B m d))∧(wi.cell? ⟨w.heap.size+1,0,none⟩=some (.int .i64 k)∧wi.cell? ⟨w.heap.size+1,1,none⟩=some (.string tok)∧wi.cell? ⟨w.heap.size+1,2,none⟩=some (.slice C p q)):=
 ⟨h.b1.get2.1,h.b2.get3.1⟩
theorem bdo_any (k:Int)(tok:ByteArray)(A B C:Option Addr)(n c m d p q:Nat)(l t:List Pr)(ws:List Wr)(w:World)(hA:In_ pairK w A n c l)(hB:In_ pairK w B m d t)(hC:Lst writeK w C p ws)(hp:p≤maxLen)(hb:(n+24)*32≤140737488355328)(hb2:(m+1)*32≤140737488355328) :
  Calls Tryz.prog 90 #[staV A n c B m d,batV k tok C p q] w (RetS w (Bm.doo ⟨l,t⟩ ⟨k,tok,ws⟩)):=by
 have KM:=hid (fun W y=>may_any k tok C p q ws W (hC.q y) hp)
 have KD:=hid (fun W y=>decided_any tok A B n c m d t W (hB.lst.q y) hB.max)
 have KO:=hid (fun W y=>bown_any A B n c m d l t W (hA.q y) (hB.q y))
 have hn:=hA.len
 have hm:=hB.len
 have hpl:=hC.len
 cases hmay:Bm.may ⟨k,tok,ws⟩ with
 | false =>
   have HR:=hid (show Bm.doo ⟨l,t⟩ ⟨k,tok,ws⟩=(⟨l,t⟩,1) by unfold Bm.doo;rw[if_pos hmay])
   rw[hmay] at KM
   clear hA hB hC hmay hn hm hpl
   go_enter Tryz.func90,Tryz.ntmps90
   go_upto_region 1 with (fail)
   have X:=hid (Ds.new w A n c B m d k tok C p q)
   generalize (((w.alloc (.cells #[.slice A n c,.slice B m d] 30)).alloc (.cells #[.int .i64 k,.string tok,.slice C p q] 48)).alloc (.cells #[.slice none 0 0,.slice none 0 0] 30))=w2 at X ⊢
   obtain⟨⟨c0,c1⟩,d0,d1,d2⟩:=X.out.get
   go_wp2_with fail
   refine(KM.out _ X.out.q).mono ?_
   rintro e w3 ⟨rfl,q3⟩
   have X3:=hid (X.out.step q3)
   clear q3 X c0 c1 d0 d1 d2
   obtain⟨⟨c0,c1⟩,d0,d1,d2⟩:=X3.out.get
   go_wp2_with fail
   refine(KO.out _ X3.out.q).mono ?_
   rintro e w5 ⟨A5,c5,B5,d5,rfl,o5,t5,q5⟩
   have X5:=hid (X3.out.step q5)
   have HO:=hid o5
   have HT:=hid t5
   have HS:=hid X3.out.l
   clear q5 o5 t5 c0 c1 d0 d1 d2
   obtain⟨⟨p0,p1⟩,p2,p3⟩:=X5.out.b3.get2
   go_wp2
   obtain⟨⟨r0,r1⟩,_⟩:=(X5.out.b3.set2 (.slice A5 l.length c5) (.slice B5 t.length d5)).get2
   refine bodyPost_ret (v:=.tuple #[staV A5 l.length c5 B5 t.length d5,.int .i64 1]) (by simp[results,Tryz.results90,go_sem,r0,r1]) rfl ?_
   rw[HR.out]
   exact⟨A5,c5,B5,d5,rfl,(HO.out.set2 (b:=w.heap.size+1+1) (by have:=HS.out;omega) _ _).lower (by have:=HS.out;omega),(HT.out.set2 (b:=w.heap.size+1+1) (by have:=HS.out;omega) _ _).lower (by have:=HS.out;omega),X5.out.q.set2 (by omega) _ _⟩
 | true =>
   rw[hmay] at KM
   cases hf:(find tok t).2 with
   | true =>
     have HR:=hid (show Bm.doo ⟨l,t⟩ ⟨k,tok,ws⟩=(⟨l,t⟩,8) by unfold Bm.doo;rw[if_neg (by rw[hmay];simp),if_pos hf])
     rw[hf] at KD
     generalize (find tok t).1=fv at KD
     clear hA hB hC hmay hn hm hpl hf
     go_enter Tryz.func90,Tryz.ntmps90
     go_upto_region 1 with (fail)
     have X:=hid (Ds.new w A n c B m d k tok C p q)
     generalize (((w.alloc (.cells #[.slice A n c,.slice B m d] 30)).alloc (.cells #[.int .i64 k,.string tok,.slice C p q] 48)).alloc (.cells #[.slice none 0 0,.slice none 0 0] 30))=w2 at X ⊢
     obtain⟨⟨c0,c1⟩,d0,d1,d2⟩:=X.out.get
     go_wp2_with fail
     refine(KM.out _ X.out.q).mono ?_
     rintro e w3 ⟨rfl,q3⟩
     have X3:=hid (X.out.step q3)
     clear q3 X c0 c1 d0 d1 d2
     obtain⟨⟨c0,c1⟩,d0,d1,d2⟩:=X3.out.get
     go_wp2_with fail
     refine(KD.out _ X3.out.q).mono ?_
     rintro e w4 ⟨rfl,q4⟩
     have X4:=hid (X3.out.step q4)
     clear q4 X3 c0 c1 d0 d1 d2
     obtain⟨⟨c0,c1⟩,d0,d1,d2⟩:=X4.out.get
     go_wp2_with fail
     refine(KO.out _ X4.out.q).mono ?_
     rintro e w5 ⟨A5,c5,B5,d5,rfl,o5,t5,q5⟩
     have X5:=hid (X4.out.step q5)
     have HO:=hid o5
     have HT:=hid t5
     have HS:=hid X4.out.l
     clear q5 o5 t5 c0 c1 d0 d1 d2
     obtain⟨⟨p0,p1⟩,p2,p3⟩:=X5.out.b3.get2
     go_wp2
     obtain⟨⟨r0,r1⟩,_⟩:=(X5.out.b3.set2 (.slice A5 l.length c5) (.slice B5 t.length d5)).get2
     refine bodyPost_ret (v:=.tuple #[staV A5 l.length c5 B5 t.length d5,.int .i64 8]) (by simp[results,Tryz.results90,go_sem,r0,r1]) rfl ?_
     rw[HR.out]
     exact⟨A5,c5,B5,d5,rfl,(HO.out.set2 (b:=w.heap.size+1+1) (by have:=HS.out;omega) _ _).lower (by have:=HS.out;omega),(HT.out.set2 (b:=w.heap.size+1+1) (by have:=HS.out;omega) _ _).lower (by have:=HS.out;omega),X5.out.q.set2 (by omega) _ _⟩
   | false =>
     have HR:=hid (show Bm.doo ⟨l,t⟩ ⟨k,tok,ws⟩=(⟨apply l ws,put t ⟨tok,Bm.word k⟩⟩,0) by unfold Bm.doo;rw[if_neg (by rw[hmay];simp),if_neg (by rw[hf];simp)])
     have hp24:=Bm.may_len hmay
     simp only at hp24
     rw[hf] at KD
     generalize (find tok t).1=fv at KD
     have KA:=hid (fun W y=>apply_any A C n c p q l ws W (hA.q y) (hC.q y) (by omega))
     have KP:=hid (fun W y=>tput_any tok (Bm.word k) B m d t W (hB.q y) hb2)
     clear hA hB hC hmay hn hm hpl hf hp24
     go_enter Tryz.func90,Tryz.ntmps90
     go_upto_region 1 with (fail)
     have X:=hid (Ds.new w A n c B m d k tok C p q)
     generalize (((w.alloc (.cells #[.slice A n c,.slice B m d] 30)).alloc (.cells #[.int .i64 k,.string tok,.slice C p q] 48)).alloc (.cells #[.slice none 0 0,.slice none 0 0] 30))=w2 at X ⊢
     obtain⟨⟨c0,c1⟩,d0,d1,d2⟩:=X.out.get
     go_wp2_with fail
     refine(KM.out _ X.out.q).mono ?_
     rintro e w3 ⟨rfl,q3⟩
     have X3:=hid (X.out.step q3)
     clear q3 X c0 c1 d0 d1 d2
     obtain⟨⟨c0,c1⟩,d0,d1,d2⟩:=X3.out.get
     go_wp2_with fail
     refine(KD.out _ X3.out.q).mono ?_
     rintro e w4 ⟨rfl,q4⟩
     have X4:=hid (X3.out.step q4)
     clear q4 X3 c0 c1 d0 d1 d2
     obtain⟨⟨c0,c1⟩,d0,d1,d2⟩:=X4.out.get
     have HS4:=hid X4.out.l
     go_upto_region 6 with (fail)
     refine wp_region_held_drew (S:=fun w'=>Bx w' w.heap.size [.slice A n c,.slice B m d]∧Bx w' (w.heap.size+1) [.int .i64 k,.string tok,.slice C p q]) (by kernel_rfl) ?szz0 (fun hHeld=>?rzz0)
     case szz0 =>
      exact⟨X4.out.b1.drew,X4.out.b2.drew⟩
     refine takeH 0 ?v1 ?y1 ?_
     case y1=>intro w hSw;have z:=hSw.1.get2.1;have zz:=hSw.2.get3.1;obtain⟨s0,s1⟩:=z;obtain⟨s2,s3,s4⟩:=zz;go_simp;try with_reducible rfl
     refine takeH 1 ?v2 ?y2 ?_
     case y2=>intro w hSw;have z:=hSw.1.get2.1;have zz:=hSw.2.get3.1;obtain⟨s0,s1⟩:=z;obtain⟨s2,s3,s4⟩:=zz;go_simp;try with_reducible rfl
     refine takeH 2 ?v3 ?y3 ?_
     case y3=>intro w hSw;have z:=hSw.1.get2.1;have zz:=hSw.2.get3.1;obtain⟨s0,s1⟩:=z;obtain⟨s2,s3,s4⟩:=zz;go_simp;try with_reducible rfl
     refine takeH 3 ?v4 ?y4 ?_
     case y4=>intro w hSw;have z:=hSw.1.get2.1;have zz:=hSw.2.get3.1;obtain⟨s0,s1⟩:=z;obtain⟨s2,s3,s4⟩:=zz;go_simp;try with_reducible rfl
     refine takeH 5 ?v5 ?y5 ?_
     case y5=>intro w hSw;have z:=hSw.1.get2.1;have zz:=hSw.2.get3.1;obtain⟨s0,s1⟩:=z;obtain⟨s2,s3,s4⟩:=zz;go_simp;try with_reducible rfl
     refine takeH 6 ?v6 ?y6 ?_
     case y6=>intro w hSw;have z:=hSw.1.get2.1;have zz:=hSw.2.get3.1;obtain⟨s0,s1⟩:=z;obtain⟨s2,s3,s4⟩:=zz;go_simp;try with_reducible rfl
     refine takeH 7 ?v7 ?y7 ?_
     case y7=>intro w hSw;have z:=hSw.1.get2.1;have zz:=hSw.2.get3.1;obtain⟨s0,s1⟩:=z;obtain⟨s2,s3,s4⟩:=zz;go_simp;try with_reducible rfl
     refine takeH 8 ?v8 ?y8 ?_
     case y8=>intro w hSw;have z:=hSw.1.get2.1;have zz:=hSw.2.get3.1;obtain⟨s0,s1⟩:=z;obtain⟨s2,s3,s4⟩:=zz;go_simp;try with_reducible rfl
     refine takeH 9 ?v9 ?y9 ?_
     case y9=>intro w hSw;have z:=hSw.1.get2.1;have zz:=hSw.2.get3.1;obtain⟨s0,s1⟩:=z;obtain⟨s2,s3,s4⟩:=zz;go_simp;try with_reducible rfl
     refine takeH 10 ?v10 ?y10 ?_
     case y10=>intro w hSw;have z:=hSw.1.get2.1;have zz:=hSw.2.get3.1;obtain⟨s0,s1⟩:=z;obtain⟨s2,s3,s4⟩:=zz;go_simp;try with_reducible rfl
     refine oneH 4 (fun K hK=>?_)
     go_simp
     refine(KA.out _ X4.out.q.drew).mono ?_
     rintro e w5 ⟨A5,c5,rfl,o5,y5⟩
     have HS5:=hid (show w.heap.size+1+1+1≤w5.heap.size from ((X4.out.step (Q.refl _).drew).step y5).l)
     go_wp2_with fail
     refine hK.out _ _ (⟨hHeld.1.q y5,hHeld.2.q y5⟩) (fun hHeld=>?_)
     clear hK K
     try simp only[Act.put,sA,sB,sC]
     have hC:=hHeld
     refine oneH 11 (fun K hK=>?_)
     go_simp
     refine(word_any k _).mono ?_
     rintro e w6 ⟨rfl,rfl⟩
     go_wp2_with fail
     refine hK.out _ _ (hC) (fun hHeld=>?_)
     clear hK K
     try simp only[Act.put,sA,sB,sC]
     refine oneH 12 (fun K hK=>?_)
     go_simp
     refine(KP.out _ (X4.out.q.drew.trans y5)).mono ?_
     rintro e w7 ⟨A7,c7,rfl,o7,y7⟩
     have X7:=hid (((X4.out.step (Q.refl _).drew).step y5).step y7)
     have HO:=hid (o5.q y7)
     have HT:=hid o7
     clear o5 o7 y5 y7
     go_wp2_with fail
     refine hK.out _ _ (⟨X7.out.b1,X7.out.b2⟩) (fun hHeld=>?_)
     clear hK K
     try simp only[Act.put,sA,sB,sC]
     refine takeH 13 ?v11 ?y11 ?_
     case y11=>intro w hSw;have z:=hSw.1.get2.1;have zz:=hSw.2.get3.1;obtain⟨s0,s1⟩:=z;obtain⟨s2,s3,s4⟩:=zz;go_simp;try with_reducible rfl
     refine oneH 14 (fun K hK=>?_)
     obtain⟨⟨p0,p1⟩,p2,p3⟩:=X7.out.b3.get2
     go_simp
     refine hK.out _ _ (⟨X7.out.b1.far2 (by omega) _ _,X7.out.b2.far2 (by omega) _ _⟩) (fun hHeld=>?_)
     clear hK K
     try simp only[Act.put,sA,sB,sC]
     refine takeH 15 ?v12 ?y12 ?_
     case y12=>intro w hSw;have z:=hSw.1.get2.1;have zz:=hSw.2.get3.1;obtain⟨s0,s1⟩:=z;obtain⟨s2,s3,s4⟩:=zz;go_simp;try with_reducible rfl
     refine doneH ?_
     obtain⟨⟨r0,r1⟩,_⟩:=(X7.out.b3.set2 (.slice A5 (apply l ws).length c5) (.slice A7 (put t ⟨tok,Bm.word k⟩).length c7)).get2
     go_wp2
     refine bodyPost_ret (v:=.tuple #[staV A5 (apply l ws).length c5 A7 (put t ⟨tok,Bm.word k⟩).length c7,.int .i64 0]) (by simp[results,Tryz.results90,go_sem,r0,r1]) rfl ?_
     rw[HR.out]
     exact⟨A5,c5,A7,c7,rfl,(HO.out.set2 (b:=w.heap.size+1+1) (by have:=HS4.out;simp only[World.size_drew];omega) _ _).lower (by have:=HS4.out;simp only[World.size_drew];omega),(HT.out.set2 (b:=w.heap.size+1+1) (by have:=HS5.out;omega) _ _).lower (by have:=HS5.out;omega),X7.out.q.set2 (by omega) _ _⟩
end
section
open Go.RowKit Dkm Prm Km
def NT (v:Value):Prop:=∀ s,v≠.string s
def NoT (w:World)(p:Addr):Prop:=∃ u,w.cell? p=some u∧NT u
theorem nt_slice (A:Option Addr)(n c:Nat):NT (.slice A n c):=fun s e=>by cases e
theorem Holds.odd_ {w:World}{k:Nat}{A:Option Addr}{n:Nat}{xs:List Value}(h:Holds w w.heap.size k A n xs){p:Addr}(hp:∃ u,w.cell? p=some u∧u ∉ xs)(v:Value):Holds (w.setCell p v) (w.setCell p v).heap.size k A n xs:=by
 rw[show (w.setCell p v).heap.size=w.heap.size by simp[World.setCell]]
 refine⟨h.1,fun j u hj=>?_⟩
 obtain⟨ad,e,hb,hc⟩:=h.2 j u hj
 refine⟨ad,e,hb,?_⟩
 have hne:p≠ad.add j:=by
  intro e2
  obtain⟨u2,h1,h2⟩:=hp
  rw[e2,hc] at h1
  injection h1 with h1
  subst h1
  exact h2 (List.mem_of_getElem? hj)
 rw[World.cell?_setCell_other _ _ _ _ hne]
 exact hc
theorem rows_txt (l:List Fil):∀ u∈rows l,∃ s,u=Value.string s:=by
 induction l with
 | nil=>intro u hu;cases hu
 | cons f l ih =>
   intro u hu
   rcases List.mem_append.1 hu with hu | hu
   · rcases List.mem_cons.1 hu with rfl | hu
     · exact⟨_,rfl⟩
     rcases List.mem_cons.1 hu with rfl | hu
     · exact⟨_,rfl⟩
     rcases List.mem_cons.1 hu with rfl | hu
     · exact⟨_,rfl⟩
     · cases hu
   · exact ih u hu
theorem NoT.notin {w:World}{p:Addr}(h:NoT w p){xs:List Value}(hx:∀ u∈xs,∃ s,u=Value.string s):∃ u,w.cell? p=some u∧u ∉ xs:=by
 obtain⟨u,h1,h2⟩:=h
 exact⟨u,h1,fun hm=>by obtain⟨s,rfl⟩:=hx u hm;exact h2 s rfl⟩
theorem Dsk.odd_ {w:World}{A:Option Addr}{n c:Nat}{l:List Fil}(h:Dsk w A n c l){p:Addr}(hp:NoT w p)(v:Value):Dsk (w.setCell p v) A n c l:=
 ⟨Holds.odd_ h.files (hp.notin (rows_txt l)) v,h.nil,h.le,h.cap,h.few⟩
theorem pairs_txt (l:List Pr):∀ u∈pairK.rows l,∃ s,u=Value.string s:=by
 induction l with
 | nil=>intro u hu;cases hu
 | cons f l ih =>
   intro u hu
   rcases List.mem_append.1 (show u∈pairK.row f++pairK.rows l from hu) with hu | hu
   · rcases List.mem_cons.1 hu with rfl | hu
     · exact⟨_,rfl⟩
     rcases List.mem_cons.1 hu with rfl | hu
     · exact⟨_,rfl⟩
     · cases hu
   · exact ih u hu
theorem In_.odd_ {w:World}{A:Option Addr}{n c:Nat}{l:List Pr}(h:In_ pairK w A n c l){p:Addr}(hp:NoT w p)(v:Value):In_ pairK (w.setCell p v) A n c l:=
 ⟨Holds.odd_ h.lst (hp.notin (pairs_txt l)) v,h.nil,h.le,h.cap,h.few⟩
def stk (w:World)(g:Nat):List (Nat×Value)→World
 | []=>w
 | (k,v) :: r=>stk (w.setCell ⟨g,k,none⟩ v) g r
def lstk (vs:List Value):List (Nat×Value)→List Value
 | []=>vs
 | (k,v) :: r=>lstk (vs.set k v) r
theorem bx_stk {g:Nat}(us:List (Nat×Value)):∀ {w:World} {vs:List Value},Bx w g vs→(∀ u∈us,u.1<vs.length)→Bx (stk w g us) g (lstk vs us):=by
 induction us with
 | nil=>intro w vs h _;exact h
 | cons u r ih =>
   intro w vs h hk
   obtain⟨k,v⟩:=u
   exact ih (h.set (k:=k) (hk (k,v) List.mem_cons_self) v) fun u hu=>by rw[List.length_set];exact hk u (List.mem_cons_of_mem _ hu)
theorem keep_stk {P:World→Prop}(hP:∀ w p v,NoT w p→P w→P (w.setCell p v)){g:Nat}:∀ (us:List (Nat×Value)) {w:World} {vs:List Value},Bx w g vs→(∀ v∈vs,NT v)→(∀ u∈us,u.1<vs.length∧NT u.2)→P w→P (Go.Proofs.YtccoknaaofmbcaaGreatDoor.stk w g us)
 | [],_,_,_,_,_,h=>h
 | (k,v) :: r,w,vs,hb,hn,hu,h=>by
   have hk:=hu (k,v) (by simp)
   refine keep_stk hP r (hb.set hk.1 v) (fun x hx=>?_) (fun u h2=>by rw[List.length_set];exact hu u (by simp[h2])) (hP w _ v ⟨vs[k],(hb k _ (List.getElem?_eq_getElem hk.1)).1,hn _ (List.getElem_mem _)⟩ h)
   rcases List.mem_or_eq_of_mem_set hx with hx | rfl
   · exact hn x hx
   · exact hk.2
theorem Q.stk {a:World}{g:Nat}(hg:a.heap.size≤g):∀ (us:List (Nat×Value)) {w:World},Q a w→Q a (Go.Proofs.YtccoknaaofmbcaaGreatDoor.stk w g us)
 | [],_,h=>h
 | (k,v) :: r,_,h=>Q.stk hg r (h.setCell (p:=⟨g,k,none⟩) hg v)
theorem Bx.far_stk {b g:Nat}(hg:g≠b){vs:List Value}:∀ (us:List (Nat×Value)) {w:World},Bx w b vs→Bx (Go.Proofs.YtccoknaaofmbcaaGreatDoor.stk w g us) b vs
 | [],_,h=>h
 | (k,v) :: r,_,h=>Bx.far_stk hg r (h.far (p:=⟨g,k,none⟩) hg v)
structure Kp where
 A:Option Addr
 n:Nat
 c:Nat
 B:Option Addr
 bn:Nat
 bc:Nat
 C:Option Addr
 cn:Nat
 cc:Nat
abbrev kL (p:Kp)(x:Ks):List Value:=
 [.slice p.A p.n p.c,.int .i64 x.d.room,.int .i64 x.d.fuse,.bool x.d.off,.int .i64 x.frm,.int .i64 x.seg,.int .i64 x.run,.slice p.B p.bn p.bc,.slice p.C p.cn p.cc,.bool x.down]
abbrev kvV (p:Kp)(x:Ks):Value:=
 .agg #[.slice p.A p.n p.c,.int .i64 x.d.room,.int .i64 x.d.fuse,.bool x.d.off,.int .i64 x.frm,.int .i64 x.seg,.int .i64 x.run,.slice p.B p.bn p.bc,.slice p.C p.cn p.cc,.bool x.down]
structure Kr (w:World) (p:Kp) (x:Ks):Prop where
 dsk:Dsk w p.A p.n p.c x.d.fs
 data:In_ pairK w p.B p.bn p.bc x.s.data
 toks:In_ pairK w p.C p.cn p.cc x.s.toks
theorem Kr.q {w w':World}{p:Kp}{x:Ks}(h:Kr w p x)(q:Q w w'):Kr w' p x:=⟨h.dsk.q q,h.data.q q,h.toks.q q⟩
theorem kr0 (w:World):Kr w ⟨none,0,0,none,0,0,none,0,0⟩ ks0:=⟨⟨Holds.none_ _ _ _ _,fun _=>⟨rfl,rfl⟩,Nat.le_refl _,Nat.zero_le _,by show 0*48≤140737488355328;omega⟩,In_.none_ _ _,In_.none_ _ _⟩
def RetK (w:World)(x:Ks)(vs:List Value)(e:Ending)(w':World):Prop:=∃ p,e=.returned (.tuple (kvV p x :: vs).toArray)∧Kr w' p x∧Q w w'
def RetK1 (w:World)(x:Ks)(e:Ending)(w':World):Prop:=∃ p,e=.returned (kvV p x)∧Kr w' p x∧Q w w'
theorem kL_nt (p:Kp)(x:Ks):∀ v∈kL p x,NT v:=by
 intro v hv s e
 subst e
 simp[kL] at hv
structure Kb (w:World) (g:Nat) (p:Kp) (x:Ks):Prop where
 box:Bx w g (kL p x)
 is:Kr w p x
theorem Kb.q {w w':World}{g:Nat}{p:Kp}{x:Ks}(h:Kb w g p x)(q:Q w w'):Kb w' g p x:=⟨h.box.q q,h.is.q q⟩
theorem Kb.lt {w:World}{g:Nat}{p:Kp}{x:Ks}(h:Kb w g p x):g<w.heap.size:=h.box.lt
theorem Kr.stk {w:World}{g:Nat}{vs:List Value}{p:Kp}{x:Ks}(h:Kr w p x)(hb:Bx w g vs)(hn:∀ v∈vs,NT v)(us:List (Nat×Value))(hu:∀ u∈us,u.1<vs.length∧NT u.2):Kr (Go.Proofs.YtccoknaaofmbcaaGreatDoor.stk w g us) p x:=
 keep_stk (P:=fun w=>Kr w p x) (fun w q v hq hk=>⟨hk.dsk.odd_ hq v,hk.data.odd_ hq v,hk.toks.odd_ hq v⟩) us hb hn hu h
theorem Dsk.stk {w:World}{g:Nat}{vs:List Value}{A:Option Addr}{n c:Nat}{l:List Fil}(h:Dsk w A n c l)(hb:Bx w g vs)(hn:∀ v∈vs,NT v)(us:List (Nat×Value))(hu:∀ u∈us,u.1<vs.length∧NT u.2):Dsk (Go.Proofs.YtccoknaaofmbcaaGreatDoor.stk w g us) A n c l:=
 keep_stk (P:=fun w=>Dsk w A n c l) (fun w q v hq hk=>hk.odd_ hq v) us hb hn hu h
theorem In_.stk {w:World}{g:Nat}{vs:List Value}{A:Option Addr}{n c:Nat}{l:List Pr}(h:In_ pairK w A n c l)(hb:Bx w g vs)(hn:∀ v∈vs,NT v)(us:List (Nat×Value))(hu:∀ u∈us,u.1<vs.length∧NT u.2):In_ pairK (Go.Proofs.YtccoknaaofmbcaaGreatDoor.stk w g us) A n c l:=
 keep_stk (P:=fun w=>In_ pairK w A n c l) (fun w q v hq hk=>hk.odd_ hq v) us hb hn hu h
theorem Kb.far {w:World}{b g:Nat}{vs:List Value}{p:Kp}{x:Ks}(h:Kb w b p x)(hg:g≠b)(hb:Bx w g vs)(hn:∀ v∈vs,NT v)(us:List (Nat×Value))(hu:∀ u∈us,u.1<vs.length∧NT u.2):Kb (Go.Proofs.YtccoknaaofmbcaaGreatDoor.stk w g us) b p x:=
 ⟨h.box.far_stk hg us,h.is.stk hb hn us hu⟩
section
variable {w:World} {g:Nat} {A:Option Addr} {n c:Nat} {B:Option Addr} {bn bc:Nat} {C:Option Addr} {cn cc:Nat} {l:List Fil} {room fuse:Int} {off:Bool} {frm seg run:Int} {s:Bm.Sta} {down:Bool}
theorem kget (h:Bx w g (kL ⟨A,n,c,B,bn,bc,C,cn,cc⟩ ⟨⟨l,room,fuse,off⟩,frm,seg,run,s,down⟩)) :
  (w.cell? ⟨g,0,none⟩=some (.slice A n c)∧w.cell? ⟨g,1,none⟩=some (.int .i64 room)∧w.cell? ⟨g,2,none⟩=some (.int .i64 fuse)∧w.cell? ⟨g,3,none⟩=some (.bool off)∧w.cell? ⟨g,4,none⟩=some (.int .i64 frm)∧w.cell? ⟨g,5,none⟩=some (.int .i64 seg)∧w.cell? ⟨g,6,none⟩=some (.int .i64 run) ∧
    w.cell? ⟨g,7,none⟩=some (.slice B bn bc)∧w.cell? ⟨g,8,none⟩=some (.slice C cn cc)∧w.cell? ⟨g,9,none⟩=some (.bool down)):=
 ⟨(h 0 _ rfl).1,(h 1 _ rfl).1,(h 2 _ rfl).1,(h 3 _ rfl).1,(h 4 _ rfl).1,(h 5 _ rfl).1,(h 6 _ rfl).1,(h 7 _ rfl).1,(h 8 _ rfl).1,(h 9 _ rfl).1⟩
theorem kfree {p:Kp}{x:Ks}(h:Bx w g (kL p x)) :
  w.frozen? ⟨g,0,none⟩=false∧w.frozen? ⟨g,1,none⟩=false∧w.frozen? ⟨g,2,none⟩=false∧w.frozen? ⟨g,3,none⟩=false∧w.frozen? ⟨g,4,none⟩=false∧w.frozen? ⟨g,5,none⟩=false∧w.frozen? ⟨g,6,none⟩=false∧w.frozen? ⟨g,7,none⟩=false∧w.frozen? ⟨g,8,none⟩=false∧w.frozen? ⟨g,9,none⟩=false:=
 ⟨(h 0 _ rfl).2,(h 1 _ rfl).2,(h 2 _ rfl).2,(h 3 _ rfl).2,(h 4 _ rfl).2,(h 5 _ rfl).2,(h 6 _ rfl).2,(h 7 _ rfl).2,(h 8 _ rfl).2,(h 9 _ rfl).2⟩
abbrev us10 (p:Kp)(x:Ks):List (Nat×Value):=[(0,.slice p.A p.n p.c),(1,.int .i64 x.d.room),(2,.int .i64 x.d.fuse),(3,.bool x.d.off),(4,.int .i64 x.frm),(5,.int .i64 x.seg),(6,.int .i64 x.run),(7,.slice p.B p.bn p.bc),(8,.slice p.C p.cn p.cc),(9,.bool x.down)]
theorem us10_ok (p q:Kp)(x y:Ks):∀ u∈us10 p x,u.1<(kL q y).length∧NT u.2:=by
 intro u hu
 simp only[us10,List.mem_cons,List.not_mem_nil,or_false] at hu
 rcases hu with rfl | rfl | rfl | rfl | rfl | rfl | rfl | rfl | rfl | rfl<;>exact⟨by simp[kL],fun s e=>by cases e⟩
theorem Kb.whole {p q:Kp}{x y:Ks}(h:Bx w g (kL q y))(hk:Kr w p x):Kb (stk w g (us10 p x)) g p x:=
 ⟨bx_stk (us10 p x) h (fun u hu=>(us10_ok p q x y u hu).1),hk.stk h (kL_nt _ _) _ (us10_ok p q x y)⟩
theorem Kb.disk {p:Kp}{x:Ks}(h:Kb w g p x){A2:Option Addr}{n2 c2:Nat}{d2:Dk}(hd:Dsk w A2 n2 c2 d2.fs) :
  Kb ((((w.setCell ⟨g,0,none⟩ (.slice A2 n2 c2)).setCell ⟨g,1,none⟩ (.int .i64 d2.room)).setCell ⟨g,2,none⟩ (.int .i64 d2.fuse)).setCell ⟨g,3,none⟩ (.bool d2.off)) g ⟨A2,n2,c2,p.B,p.bn,p.bc,p.C,p.cn,p.cc⟩ ⟨d2,x.frm,x.seg,x.run,x.s,x.down⟩:=by
 have hok:∀ u∈[(0,Value.slice A2 n2 c2),(1,.int .i64 d2.room),(2,.int .i64 d2.fuse),(3,.bool d2.off)],u.1<(kL p x).length∧NT u.2:=by
  intro u hu
  simp only[List.mem_cons,List.not_mem_nil,or_false] at hu
  rcases hu with rfl | rfl | rfl | rfl<;>exact⟨by simp[kL],fun s e=>by cases e⟩
 have h1:=bx_stk (g:=g) (w:=w) (vs:=kL p x) [(0,Value.slice A2 n2 c2),(1,.int .i64 d2.room),(2,.int .i64 d2.fuse),(3,.bool d2.off)] h.box (fun u hu=>(hok u hu).1)
 have h2:=h.is.stk h.box (kL_nt _ _) _ hok
 exact⟨h1,hd.stk h.box (kL_nt _ _) _ hok,h2.data,h2.toks⟩
theorem Kb.segm {p:Kp}{x:Ks}(h:Kb w g p x)(seg2:Int):Kb (w.setCell ⟨g,5,none⟩ (.int .i64 seg2)) g p ⟨x.d,x.frm,seg2,x.run,x.s,x.down⟩:=by
 have hok:∀ u∈[(5,Value.int .i64 seg2)],u.1<(kL p x).length∧NT u.2:=by
  intro u hu
  simp only[List.mem_cons,List.not_mem_nil,or_false] at hu
  rcases hu with rfl<;>exact⟨by simp[kL],fun s e=>by cases e⟩
 have h1:=bx_stk (g:=g) (w:=w) (vs:=kL p x) [(5,Value.int .i64 seg2)] h.box (fun u hu=>(hok u hu).1)
 have h2:=h.is.stk h.box (kL_nt _ _) _ hok
 exact⟨h1,h2.dsk,h2.data,h2.toks⟩
theorem Kb.gone {p:Kp}{x:Ks}(h:Kb w g p x)(b:Bool):Kb (w.setCell ⟨g,9,none⟩ (.bool b)) g p ⟨x.d,x.frm,x.seg,x.run,x.s,b⟩:=by
 have hok:∀ u∈[(9,Value.bool b)],u.1<(kL p x).length∧NT u.2:=by
  intro u hu
  simp only[List.mem_cons,List.not_mem_nil,or_false] at hu
  rcases hu with rfl<;>exact⟨by simp[kL],fun s e=>by cases e⟩
 have h1:=bx_stk (g:=g) (w:=w) (vs:=kL p x) [(9,Value.bool b)] h.box (fun u hu=>(hok u hu).1)
 have h2:=h.is.stk h.box (kL_nt _ _) _ hok
 exact⟨h1,h2.dsk,h2.data,h2.toks⟩
theorem Kb.state {p:Kp}{x:Ks}(h:Kb w g p x){B2 C2:Option Addr}{bn2 bc2 cn2 cc2:Nat}{s2:Bm.Sta}(hB:In_ pairK w B2 bn2 bc2 s2.data)(hC:In_ pairK w C2 cn2 cc2 s2.toks) :
  Kb ((w.setCell ⟨g,7,none⟩ (.slice B2 bn2 bc2)).setCell ⟨g,8,none⟩ (.slice C2 cn2 cc2)) g ⟨p.A,p.n,p.c,B2,bn2,bc2,C2,cn2,cc2⟩ ⟨x.d,x.frm,x.seg,x.run,s2,x.down⟩:=by
 have hok:∀ u∈[(7,Value.slice B2 bn2 bc2),(8,.slice C2 cn2 cc2)],u.1<(kL p x).length∧NT u.2:=by
  intro u hu
  simp only[List.mem_cons,List.not_mem_nil,or_false] at hu
  rcases hu with rfl | rfl<;>exact⟨by simp[kL],fun s e=>by cases e⟩
 have h1:=bx_stk (g:=g) (w:=w) (vs:=kL p x) [(7,Value.slice B2 bn2 bc2),(8,.slice C2 cn2 cc2)] h.box (fun u hu=>(hok u hu).1)
 have h2:=h.is.stk h.box (kL_nt _ _) _ hok
 exact⟨h1,h2.dsk,hB.stk h.box (kL_nt _ _) _ hok,hC.stk h.box (kL_nt _ _) _ hok⟩
end
theorem Kb.new {w:World}{p:Kp}{x:Ks}(h:Kr w p x):Kb (w.alloc (.cells (kL p x).toArray 32)) w.heap.size p x:=
 ⟨Bx.new w (kL p x) 32,h.q ((Q.refl _).alloc _)⟩
end
section
open Go.RowKit
theorem bld_size:(Tryz.prog.info? 208).map (fun i=>i.size)=some 2:=by kernel_rfl
theorem bld_lies:liesAt Tryz.prog Tryz.prog.depth 208 (2 / Tryz.prog.cellsOf 208) 0 208 1=true:=by kernel_rfl
theorem byte_info:(Tryz.prog.info? 5).map (fun i=>(i.zero,i.size,i.bytes))=some (some (.int .u8 0),1,1):=by kernel_rfl
theorem check_used (b:Nat)(w:World)(h0:w.cell? ⟨b,0,none⟩=some (.pointer (some ⟨b,0,none⟩))) :
  Calls Tryz.prog 174 #[.pointer (some ⟨b,0,none⟩)] w fun e w'=>e=.returned (.tuple #[])∧w'=w:=by
 obtain⟨j,hj,_⟩:=Option.map_eq_some_iff.1 bld_size
 go_enter Tryz.func174,Tryz.ntmps174
 go_wp2
 rw[Lib.run_neq_ptr_same w _ Tryz.underlying206 hj]
 go_wp2
 go_end0
 exact⟨rfl,rfl⟩
theorem check_fresh (b:Nat)(w:World)(h0:w.cell? ⟨b,0,none⟩=some (.pointer none))(hsh:w.shape? b=some (208,2))(hfz:w.frozen? ⟨b,0,none⟩=false) :
  Calls Tryz.prog 174 #[.pointer (some ⟨b,0,none⟩)] w fun e w'=>e=.returned (.tuple #[])∧w'=w.setCell ⟨b,0,none⟩ (.pointer (some ⟨b,0,none⟩)):=by
 obtain⟨j,hj,hjs⟩:=Option.map_eq_some_iff.1 bld_size
 go_enter Tryz.func174,Tryz.ntmps174
 go_wp2
 rw[Lib.run_to_unsafe w ⟨b,0,none⟩ Tryz.underlying206 Tryz.underlying183 hj (by rw[hjs];decide) hsh (Nat.zero_lt_succ 1)]
 simp only[Result.andThen]
 rw[Oper.upon_value]
 go_wp2
 rw[run_callFunc_extern Tryz.func202 (by kernel_rfl) (by kernel_rfl) (by kernel_rfl) (e:=Extern.AbiNoEscape.same) (by kernel_rfl)]
 rw[Lib.run_noEscape]
 simp only[Result.andThen]
 rw[Oper.upon_value]
 go_wp2
 rw[Lib.run_from_unsafe w ⟨b,0,none⟩ Tryz.underlying183 Tryz.underlying206 hj hsh bld_lies]
 simp only[Result.andThen]
 rw[Oper.upon_value]
 go_wp2
 go_end0
 exact⟨rfl,rfl⟩
abbrev BldAt (B b:Nat)(p:Value)(l:List UInt8)(w:World):Prop:=Lib.BuilderAt 208 5 B b p (Lib.byteCells l) w
def Bld (B b:Nat)(l:List UInt8)(w:World):Prop:=Lib.IsBuilder 208 5 B b (Lib.byteCells l) w
theorem check_any (B b:Nat)(l:List UInt8)(w:World)(h:Bld B b l w) :
  Calls Tryz.prog 174 #[.pointer (some ⟨b,0,none⟩)] w fun e w'=>e=.returned (.tuple #[])∧BldAt B b (.pointer (some ⟨b,0,none⟩)) l w'∧Below B w w'∧∀ X,X≠b→w'.heap[X]? = w.heap[X]?:=by
 rcases h with h | h
 · refine(check_fresh b w h.cell0 h.shape h.frozen0).mono ?_
   rintro e w' ⟨rfl,rfl⟩
   exact⟨rfl,h.used _,(Below.refl B w).setCell (p:=⟨b,0,none⟩) h.1 _,fun X hX=>heap_setCell_other w ⟨b,0,none⟩ X _ hX⟩
 · refine(check_used b w h.cell0).mono ?_
   rintro e w' ⟨rfl,rfl⟩
   exact⟨rfl,h,Below.refl B _,fun _ _=>rfl⟩
def KeepB (b:Nat)(w w':World):Prop:=∀ X cs T fr,w.heap[X]? = some (.cells cs T fr)→T ≠ 5 → X≠b→w'.heap[X]? = some (.cells cs T fr)
theorem str_cells (s:ByteArray):Lib.strCells s=Lib.byteCells s.data.toList:=rfl
theorem byteCells_app (l m:List UInt8):Lib.byteCells l++Lib.byteCells m=Lib.byteCells (l++m):=by simp[Lib.byteCells]
theorem byteCells_len (l:List UInt8):(Lib.byteCells l).length=l.length:=by simp[Lib.byteCells]
theorem write_any (B b:Nat)(l:List UInt8)(s:ByteArray)(w:World)(h:Bld B b l w)(hlen:l.length+s.size≤140737488355328)(hBw:B≤w.heap.size) :
  Calls Tryz.prog 143 #[.pointer (some ⟨b,0,none⟩),.string s] w fun e w'=>e=.returned (.tuple #[.int .i64 s.size,.nilIface])∧Bld B b (l++s.data.toList) w'∧Below B w w'∧KeepB b w w':=by
 obtain⟨i0,hi,hz0,hz1,hz2⟩:=info_parts byte_info
 have hne:(208 : TypeId) ≠ 5 := by decide
 have hbl:=byteCells_len l
 have HBL:=hid hbl
 clear hbl
 go_enter Tryz.func143,Tryz.ntmps143
 go_wp2_with fail
 refine(check_any B b l _ h).mono ?_
 rintro e w1 ⟨rfl,⟨hB,v,hbk,hown,hnv⟩,hb1,hk1⟩
 have HK1:=hid hk1
 clear hk1
 have c0:w1.cell? ⟨b,0,none⟩=some (.pointer (some ⟨b,0,none⟩)):=by rw[Lib.cell_of_heap hbk];rfl
 have c1:w1.cell? ⟨b,1,none⟩=some v:=by rw[Lib.cell_of_heap hbk];rfl
 go_wp2_with (at_builtin;refine Lib.wpList_append_own_string _ rfl _ _ 150 9 rfl B 5 i0 Tryz.underlying150 Tryz.underlying9 hi hz0 hz1 hz2 _ _ _ rfl hown s rfl ?c3 ?c4 ?c5 ?_)
 case c3=>unfold maxLen;have:=HBL.out;omega
 case c4=>have:=HBL.out;omega
 case c5=>have:=hb1.size;omega
 intro v' w2 hown' hgrow _
 have hlt:b<w1.heap.size:=by
  rcases Nat.lt_or_ge b w1.heap.size with h' | h'
  · exact h'
  · simp[Array.getElem?_eq_none h'] at hbk
 have hb2:w2.heap[b]? = some (.cells #[.pointer (some ⟨b,0,none⟩),v] 208 (0,0)):=by
  rw[hgrow.block b hlt (fun e=>hnv e.symm)]
  exact hbk
 have d0:w2.cell? ⟨b,0,none⟩=some (.pointer (some ⟨b,0,none⟩)):=by rw[Lib.cell_of_heap hb2];rfl
 have d1:w2.cell? ⟨b,1,none⟩=some v:=by rw[Lib.cell_of_heap hb2];rfl
 have f1:w2.frozen? ⟨b,1,none⟩=false:=Lib.frozen_of_heap hb2 1
 obtain⟨ao,n',cap,rfl⟩:∃ ao n' cap,v'=.slice ao n' cap:=by
  rcases hown'.2 with ⟨hv,_⟩ | ⟨g,cap,cur,hv,_⟩
  · exact⟨_,_,_,hv⟩
  · exact⟨_,_,_,hv⟩
 go_wp2
 go_ret2
 refine⟨rfl,.inr ?_,?_,fun X cs T fr hX hT hXb=>?_⟩
 · have:=Lib.BuilderAt.put (T := 208) (e := 5) hB hb2 (bs':=Lib.byteCells l++Lib.strCells s) (by simpa [Lib.strCells_length] using hown') hne
   rw[str_cells,byteCells_app] at this
   exact this
 · exact(hb1.grown hgrow (by have:=hb1.size;omega) (fun k hk=>(hown.lt k hk).1)).setCell (p:=⟨b,1,none⟩) hB _
 · rw[heap_setCell_other w2 ⟨b,1,none⟩ X _ hXb]
   have hX1:w1.heap[X]? = some (.cells cs T fr):=(HK1.out X hXb).trans hX
   have hlt1:X<w1.heap.size:=by
    rcases Nat.lt_or_ge X w1.heap.size with h' | h'
    · exact h'
    · rw[Array.getElem?_eq_none h'] at hX1;cases hX1
   rw[hgrow.block X hlt1 (fun e=>Lib.ownBlock_ne hown hX1 hT e.symm)]
   exact hX1
theorem string_any (B b:Nat)(l:List UInt8)(w:World)(h:Bld B b l w)(hBw:B≤w.heap.size) :
 Calls Tryz.prog 145 #[.pointer (some ⟨b,0,none⟩)] w fun e w'=>e=.returned (.string ⟨l.toArray⟩)∧Below B w w':=Tryz.Builder_String_any B b l w h hBw
theorem owns_q {w w':World}{base:Nat}{T:TypeId}{k:Nat}{v:Value}{n:Nat}{xs:List Value}(h:w.ownsRow base T k v n xs)(q:Q w w'):w'.ownsRow base T k v n xs:=by
 refine⟨h.1,?_⟩
 rcases h.2 with ⟨e,h0⟩ | ⟨g,cap,cur,e,hg,hh,r⟩
 · exact .inl ⟨e,h0⟩
 · have hlt:g<w.heap.size:=by
     rcases Nat.lt_or_ge g w.heap.size with hlt | hge
     · exact hlt
     · rw[Array.getElem?_eq_none hge] at hh;cases hh
   exact .inr ⟨g,cap,cur,e,hg,(q.below.block g hlt).trans hh,r⟩
theorem Bld.q {B b:Nat}{l:List UInt8}{w w':World}(h:Bld B b l w)(q:Q w w'):Bld B b l w':=by
 have key:∀ p,BldAt B b p l w→BldAt B b p l w':=by
  rintro p ⟨hB,v,hbk,hown,hnv⟩
  have hlt:b<w.heap.size:=by
   rcases Nat.lt_or_ge b w.heap.size with h' | h'
   · exact h'
   · simp[Array.getElem?_eq_none h'] at hbk
  exact⟨hB,v,(q.below.block b hlt).trans hbk,owns_q hown q,hnv⟩
 rcases h with h | h
 · exact .inl (key _ h)
 · exact .inr (key _ h)
theorem Bld.lt {B b:Nat}{l:List UInt8}{w:World}(h:Bld B b l w):b<w.heap.size:=by
 rcases h with h | h
 · exact h.lt
 · exact h.lt
theorem Bld.fresh (w:World):Bld w.heap.size w.heap.size [] (w.alloc (.cells #[.pointer none,.slice none 0 0] 208)):=Lib.fresh_isBuilder _ _ w
end
section
open Go.RowKit Prm
theorem bdeed_any (x:Wr)(w:World):Calls Tryz.prog 144 #[x.v] w fun e w'=>e=.returned (.int .u64 (Bm.del x:Nat))∧Q w w':=by
 obtain⟨a,b,d⟩:=x
 cases d
 all_goals
   go_enter Tryz.func144,Tryz.ntmps144
   go_wp2
   go_ret
   exact⟨rfl,(Q.refl _).alloc _⟩
theorem Bm.ptx_eq (s:ByteArray):Dm.num s.size++s.data.toList=Rn.ptx s:=by unfold Rn.ptx;rw[Rn.size_data]
theorem dt_mk (a:ByteArray){l:List UInt8}(h:a.data.toList=l):a=⟨l.toArray⟩:=by rw[←h]
theorem heap_lt {w:World}{b:Nat}{o:Obj}(h:w.heap[b]? = some o):b<w.heap.size:=(Array.getElem?_eq_some_iff.1 h).1
theorem bbytes_any (k:Int)(tok:ByteArray)(A:Option Addr)(n c:Nat)(l:List Wr)(w:World)(hf:Lst writeK w A n l)(hn:n≤maxLen) :
  Calls Tryz.prog 91 #[batV k tok A n c] w fun e w'=>e=.returned (.tuple #[.string ⟨(Bm.bytesM ⟨k,tok,l⟩).1.toArray⟩,.int .i64 (Bm.bytesM ⟨k,tok,l⟩).2])∧Q w w':=by
 have KM:=hid (fun W q=>may_any k tok A n c l W (hf.q q) hn)
 have HF:=hid hf
 have hlen:=hf.len
 cases hm:Bm.may ⟨k,tok,l⟩ with
 | false =>
   rw[hm] at KM
   have HR:=hid (show Bm.bytesM ⟨k,tok,l⟩=([],1) by unfold Bm.bytesM;rw[hm];rfl)
   clear hf hm hlen
   go_enter Tryz.func91,Tryz.ntmps91
   go_wp2_with fail
   refine(KM.out _ ((Q.refl _).alloc _)).mono ?_
   rintro e w1 ⟨rfl,q1⟩
   have Q1:=hid (((Q.refl w).alloc _).trans q1)
   clear q1
   go_wp2_with fail
   go_ret2
   exact⟨by rw[HR.out];rfl,Q1.out⟩
 | true =>
   rw[hm] at KM
   have HR:=hid (show Bm.bytesM ⟨k,tok,l⟩=(Bm.head ⟨k,tok,l⟩++Bm.flat l,0) by unfold Bm.bytesM;rw[hm];rfl)
   have HOk:=hid (Bm.may_ok hm).2
   have hk:=Bm.may_kind hm
   have ht:=Bm.may_tok hm
   have hn24:=Bm.may_len hm
   have hhl:=Bm.head_len hm
   simp only at hk ht hn24
   rw[hlen] at hn24
   have HTot:=hid (show ∀ j,j≤n→(Bm.head ⟨k,tok,l⟩++Bm.flat (l.take j)).length≤5000 from fun j hj=>by
    have h1:=Bm.flat_len (l.take j) fun p hp=>HOk.out p (List.mem_of_mem_take hp)
    rw[List.length_take,Nat.min_eq_left (by omega)] at h1
    rw[List.length_append]
    omega)
   have K1:=hid (fun W=>num_any k W (by omega) (by omega))
   have K2:=hid (fun W=>text_any tok W (by omega))
   have K3:=hid (fun W=>num_any (n:Int) W (by omega) (by omega))
   have HH:Bm.head ⟨k,tok,l⟩=Dm.num k.toNat++(Dm.num tok.size++tok.data.toList)++Dm.num ((n:Int)).toNat:=by
    unfold Bm.head;simp only[Int.toNat_natCast];rw[Bm.ptx_eq,hlen]
   obtain⟨S1,hS1⟩:∃ S:ByteArray,S=⟨(Dm.num k.toNat).toArray⟩:=⟨_,rfl⟩
   obtain⟨S2,hS2⟩:∃ S:ByteArray,S=⟨(Dm.num tok.size++tok.data.toList).toArray⟩:=⟨_,rfl⟩
   obtain⟨S3,hS3⟩:∃ S:ByteArray,S=⟨(Dm.num ((n:Int)).toNat).toArray⟩:=⟨_,rfl⟩
   rw[←hS1] at K1
   rw[←hS2] at K2
   rw[←hS3] at K3
   have HHd:=hid (show Bm.head ⟨k,tok,l⟩=S1.data.toList++S2.data.toList++S3.data.toList by rw[HH,hS1,hS2,hS3])
   have HSz:=hid (show S1.size+S2.size+S3.size≤79 by
    have:=HHd.out
    rw[this,List.length_append,List.length_append] at hhl
    simp at hhl ⊢;omega)
   have e1:(0:Int)≤k:=by omega
   have e2:k≤2:=by omega
   have e3:(n:Int)≤24:=by omega
   have HL:=hid hlen
   clear hf hm hlen HH hS1 hS2 hS3 hhl hk ht hn24
   go_enter Tryz.func91,Tryz.ntmps91
   go_wp2_with fail
   refine(KM.out _ ((Q.refl _).alloc _)).mono ?_
   rintro e w1 ⟨rfl,q1⟩
   have X1:=hid ((Bx.new w [.int .i64 k,.string tok,.slice A n c] 48).q q1)
   have Q1:=hid (((Q.refl w).alloc _).trans q1)
   have hs1:w.heap.size<w1.heap.size:=by have:=q1.size;simp at this;omega
   have B1:=hid (Bld.fresh w1)
   obtain⟨⟨x0,x1,x2⟩,_⟩:=X1.out.get3
   clear q1
   go_wp2_with fail
   refine(K1.out _).mono ?_
   rintro e w2 ⟨rfl,q2⟩
   have Q2:=hid q2
   clear q2
   go_wp2_with fail
   refine(write_any w1.heap.size w1.heap.size [] S1 _ (B1.out.q Q2.out) (by have:=HSz.out;simp;omega) (by have:=Q2.out.size;simp at this;omega)).mono ?_
   rintro e w3 ⟨rfl,b3,be3,_⟩
   have B3:=hid b3
   have Q3:=hid (show Below w1.heap.size w1 w3 from (((Q.refl w1).alloc _).trans Q2.out).below.trans be3)
   clear b3 be3 Q2 B1 x0 x1 x2
   obtain⟨⟨x0,x1,x2⟩,_⟩:=(X1.out.below Q3.out hs1).get3
   go_wp2_with fail
   refine(K2.out _).mono ?_
   rintro e w4 ⟨rfl,q4⟩
   have Q4:=hid q4
   clear q4
   go_wp2_with fail
   refine(write_any w1.heap.size w1.heap.size ([]++S1.data.toList) S2 _ (B3.out.q Q4.out) (by have:=HSz.out;simp;omega) (by have h1:=Q3.out.size;have:=Q4.out.size;omega)).mono ?_
   rintro e w5 ⟨rfl,b5,be5,_⟩
   have B5:=hid b5
   have Q5:=hid (show Below w1.heap.size w1 w5 from (Q3.out.trans (Q4.out.below.mono Q3.out.size)).trans be5)
   clear b5 be5 Q4 B3 Q3 x0 x1 x2
   obtain⟨⟨x0,x1,x2⟩,_⟩:=(X1.out.below Q5.out hs1).get3
   go_wp2_with fail
   refine(K3.out _).mono ?_
   rintro e w6 ⟨rfl,q6⟩
   have Q6:=hid q6
   clear q6
   go_wp2_with fail
   refine(write_any w1.heap.size w1.heap.size ([]++S1.data.toList++S2.data.toList) S3 _ (B5.out.q Q6.out) (by have:=HSz.out;simp;omega) (by have h1:=Q5.out.size;have:=Q6.out.size;omega)).mono ?_
   rintro e w7 ⟨rfl,b7,be7,_⟩
   have B7:=hid (show Bld w1.heap.size w1.heap.size (Bm.head ⟨k,tok,l⟩++Bm.flat (l.take 0)) w7 by rw[HHd.out];simpa [Bm.flat] using b7)
   have Q7:=hid (show Below w1.heap.size w1 w7 from (Q5.out.trans (Q6.out.below.mono Q5.out.size)).trans be7)
   clear b7 be7 Q6 B5 Q5 x0 x1 x2
   obtain⟨⟨x0,x1,x2⟩,_⟩:=(X1.out.below Q7.out hs1).get3
   clear HHd
   generalize Bm.head ⟨k,tok,l⟩=hd at B7 HTot HR
   go_wp2
   go_loopw [28] (fun i wr=>∃ j:Nat,j≤n∧i=.int .i64 j∧Bld w1.heap.size w1.heap.size (hd++Bm.flat (l.take j)) wr∧Below w1.heap.size w1 wr) (fun i _=>n - (intOf i).toNat)
   case atStart=>exact⟨0,Nat.zero_le _,rfl,B7.out,Q7.out⟩
   case round =>
    obtain⟨j,hj,rfl,b4,be4⟩:=hrel
    have B4:=hid b4
    have Q4:=hid (show Q w1 wr from be4)
    clear b4 be4 B7 Q7 x0 x1 x2
    by_cases hlt:j<n
    · have hjl:j<l.length:=by have:=HL.out;omega
      have hok:=HOk.out l[j] (List.getElem_mem hjl)
      have hwn:=Bm.wrong_not hok
      have h1l:=Bm.one_len l[j] hok
      have ht0:=HTot.out j (by omega)
      have HS:=hid (Bm.flat_snoc l hjl)
      obtain⟨ad,rfl,hab,y0,y1,y2⟩:=load_write (HF.out.q (Q1.out.trans Q4.out)) hlt hjl
      have hjn:(j:Int)<(n:Int):=by omega
      generalize l[j]=x at y0 y1 y2 hok hwn HS h1l
      generalize hacc:hd++Bm.flat (l.take j)=acc at B4 ht0
      have HAcc:=hid hacc
      clear hacc
      have KD:=hid (fun W=>bdeed_any x W)
      have hd1:Bm.del x≤1:=by unfold Bm.del;split<;>omega
      have KT0:=hid (fun W=>num_any (Bm.del x:Nat) W (by omega) (by omega))
      have KT1:=hid (fun W=>text_any x.key W (by omega))
      have KT2:=hid (fun W=>text_any x.val W (by omega))
      have ho:Bm.one x=Dm.num ((Bm.del x:Nat):Int).toNat++(Dm.num x.key.size++x.key.data.toList)++(Dm.num x.val.size++x.val.data.toList):=by
       unfold Bm.one;simp only[Int.toNat_natCast];rw[Bm.ptx_eq,Bm.ptx_eq]
      obtain⟨T0,hT0⟩:∃ S:ByteArray,S=⟨(Dm.num ((Bm.del x:Nat):Int).toNat).toArray⟩:=⟨_,rfl⟩
      obtain⟨T1,hT1⟩:∃ S:ByteArray,S=⟨(Dm.num x.key.size++x.key.data.toList).toArray⟩:=⟨_,rfl⟩
      obtain⟨T2,hT2⟩:∃ S:ByteArray,S=⟨(Dm.num x.val.size++x.val.data.toList).toArray⟩:=⟨_,rfl⟩
      rw[←hT0] at KT0
      rw[←hT1] at KT1
      rw[←hT2] at KT2
      have HO:=hid (show Bm.one x=T0.data.toList++T1.data.toList++T2.data.toList by rw[ho,hT0,hT1,hT2])
      have HZ:=hid (show T0.size+T1.size+T2.size≤159 by
       have:=HO.out
       rw[this,List.length_append,List.length_append] at h1l
       simp at h1l ⊢;omega)
      have HT0:=hid ht0
      generalize Bm.del x=dx at KD KT0 hd1
      have hd0:(0:Int)≤(dx:Int):=by omega
      have hd2:(dx:Int)≤1:=by omega
      clear hok hwn h1l ht0 ho hT0 hT1 hT2
      go_wp2_with fail
      refine(KD.out _).mono ?_
      rintro e w3 ⟨rfl,q3⟩
      have Q5:=hid (((Q.refl wr).alloc (.cells #[.string x.key,.string x.val,.bool x.del] 73)).trans q3)
      have Y1:=hid (show w3.heap[wr.heap.size]? = some (.cells #[.string x.key,.string x.val,.bool x.del] 73 (0,0)) from (q3.below.block _ (by simp)).trans (heap_alloc_new wr _))
      clear q3
      go_wp2_with fail
      refine(KT0.out _).mono ?_
      rintro e w4 ⟨rfl,q4⟩
      have Y2:=hid (show w4.heap[wr.heap.size]? = some (.cells #[.string x.key,.string x.val,.bool x.del] 73 (0,0)) from (q4.below.block _ (heap_lt Y1.out)).trans Y1.out)
      have Q6:=hid (Q5.out.trans q4)
      clear q4 Q5 Y1
      go_wp2_with fail
      refine(write_any w1.heap.size w1.heap.size acc T0 _ (B4.out.q Q6.out) (by have:=HT0.out;have:=HZ.out;omega) (by have:=Q4.out.size;have:=Q6.out.size;omega)).mono ?_
      rintro e w5 ⟨rfl,b5,be5,k5⟩
      have B5:=hid b5
      have Q7:=hid (show Q w1 w5 from (Q4.out.trans Q6.out).below.trans be5)
      have Y3:=hid (k5 _ _ _ _ Y2.out (by decide) (by have:=Q4.out.size;have:=B4.out.lt;omega))
      have z0:w5.cell? ⟨wr.heap.size,0,none⟩=some (.string x.key):=by rw[Lib.cell_of_heap Y3.out];rfl
      clear b5 be5 k5 Y2 Q6
      go_wp2_with fail
      refine(KT1.out _).mono ?_
      rintro e w6 ⟨rfl,q6⟩
      have Y4:=hid (show w6.heap[wr.heap.size]? = some (.cells #[.string x.key,.string x.val,.bool x.del] 73 (0,0)) from (q6.below.block _ (heap_lt Y3.out)).trans Y3.out)
      have Q8:=hid q6
      clear q6 Y3 z0
      go_wp2_with fail
      refine(write_any w1.heap.size w1.heap.size (acc++T0.data.toList) T1 _ (B5.out.q Q8.out) (by rw[List.length_append,Rn.size_data];have:=HT0.out;have:=HZ.out;omega) (by have:=Q7.out.size;have:=Q8.out.size;omega)).mono ?_
      rintro e w7 ⟨rfl,b7,be7,k7⟩
      have B7:=hid b7
      have Q9:=hid (show Q w1 w7 from (Q7.out.trans Q8.out).below.trans be7)
      have Y5:=hid (k7 _ _ _ _ Y4.out (by decide) (by have:=Q4.out.size;have:=B4.out.lt;omega))
      have z1:w7.cell? ⟨wr.heap.size,1,none⟩=some (.string x.val):=by rw[Lib.cell_of_heap Y5.out];rfl
      clear b7 be7 k7 Y4 Q8 B5 Q7
      go_wp2_with fail
      refine(KT2.out _).mono ?_
      rintro e w8 ⟨rfl,q8⟩
      have Q10:=hid q8
      clear q8 Y5 z1
      go_wp2_with fail
      refine(write_any w1.heap.size w1.heap.size (acc++T0.data.toList++T1.data.toList) T2 _ (B7.out.q Q10.out) (by rw[List.length_append,List.length_append,Rn.size_data,Rn.size_data];have:=HT0.out;have:=HZ.out;omega) (by have:=Q9.out.size;have:=Q10.out.size;omega)).mono ?_
      rintro e w9 ⟨rfl,b9,be9,_⟩
      have B9:=hid b9
      have Q11:=hid (show Below w1.heap.size w1 w9 from (Q9.out.trans Q10.out).below.trans be9)
      clear b9 be9 Q10 B7 Q9
      go_wp2
      go_roundw
      case rel=>exact⟨j+1,by omega,by go_num,by rw[HS.out,←List.append_assoc,HAcc.out,HO.out];simpa using B9.out,Q11.out⟩
      case measure=>simp[intOf];omega
    · have hjn:j=n:=by omega
      have HB:=hid (show hd++Bm.flat (l.take j)=hd++Bm.flat l by rw[hjn,List.take_of_length_le (by have:=HL.out;omega)])
      rw[HB.out] at B4
      clear hjn
      go_wp2_with fail
      refine(string_any w1.heap.size w1.heap.size (hd++Bm.flat l) _ B4.out Q4.out.size).mono ?_
      rintro e w5 ⟨rfl,be5⟩
      have Q5:=hid (show Q w1 w5 from Q4.out.below.trans be5)
      clear be5
      go_wp2_with fail
      go_ret2
      exact⟨by rw[HR.out];rfl,Q1.out.trans Q5.out⟩
end
end Go.Proofs.YtccoknaaofmbcaaGreatDoor
