/- WalRec, WalSame, KvBig, KvReplay, KvComL, KvOwn, KvOpen: merged. -/
import Derived.Test.YtccoknaaofmbcaaGreatDoorO11
import Derived.Test.YtccoknaaofmbcaaGreatDoorO5
import Derived.Test.YtccoknaaofmbcaaGreatDoorO8
import Derived.Test.YtccoknaaofmbcaaGreatDoorO4
import Derived.Test.YtccoknaaofmbcaaGreatDoorO1
import Derived.Test.YtccoknaaofmbcaaGreatDoorO9
import Derived.Test.YtccoknaaofmbcaaGreatDoorO10
import Derived.Deep.RegionHeld3
import Derived.Deep.DeepCutAuto
import Derived.Test.YtccoknaaofmbcaaGreatDoorO2
set_option linter.unusedVariables false
set_option linter.unusedSimpArgs false
set_option maxRecDepth 100000
set_option maxHeartbeats 16000000
open Go.Lib (hid)
namespace Go.Proofs.YtccoknaaofmbcaaGreatDoor
section
open Go.RowKit Dkm Wm
def Strs (w:World)(A:Option Addr)(n:Nat)(rs:List (List UInt8)):Prop:=Holds w w.heap.size 1 A n (rs.map fun r=>Value.string (bs r))
theorem Strs.q {w w':World}{A:Option Addr}{n:Nat}{l:List (List UInt8)}(h:Strs w A n l)(hq:Q w w'):Strs w' A n l:=Holds.q h hq
theorem OwnS.strs {w:World}{base:Nat}{A:Option Addr}{n c:Nat}{rs:List (List UInt8)}(h:OwnS w base A n c rs):Strs w A n rs:=by
 refine⟨h.1,fun j u hu=>?_⟩
 rcases h.2 with ⟨e,h0⟩ | ⟨g,cap,cur,e,hb,hh,hc,hm,hs,ht⟩
 · have:=(List.getElem?_eq_some_iff.1 hu).1
   rw[h.1] at this;omega
 · injection e with e1 e2 e3
   subst e1 e3
   have hj:j<n*1:=by
    have:=(List.getElem?_eq_some_iff.1 hu).1;rw[h.1] at this;exact this
   refine⟨_,rfl,?_,?_⟩
   · rcases Nat.lt_or_ge g w.heap.size with hlt | hge
     · exact hlt
     · rw[Array.getElem?_eq_none hge] at hh;cases hh
   · rw[Addr.add_mid,Nat.zero_add,World.ownsRow.cellAt h j hj];exact hu
theorem OwnS.len {w:World}{base:Nat}{A:Option Addr}{n c:Nat}{rs:List (List UInt8)}(h:OwnS w base A n c rs):rs.length=n:=by have:=h.1;simpa using this
theorem OwnS.nil {w:World}{base:Nat}{A:Option Addr}{n c:Nat}{rs:List (List UInt8)}(h:OwnS w base A n c rs):A=none→n=0∧c=0:=by
 intro hA
 rcases h.2 with ⟨e,h0⟩ | ⟨g,cap,cur,e,_⟩
 · injection e with e1 e2 e3;exact⟨e2,e3⟩
 · injection e with e1;rw[hA] at e1;cases e1
theorem OwnS.q {w w':World}{base:Nat}{A:Option Addr}{n c:Nat}{rs:List (List UInt8)}(h:OwnS w base A n c rs)(hq:Q w w'):OwnS w' base A n c rs:=by
 refine⟨h.1,?_⟩
 rcases h.2 with ⟨e,h0⟩ | ⟨g,cap,cur,e,hg,hh,r⟩
 · exact .inl ⟨e,h0⟩
 · have hlt:g<w.heap.size:=by
     rcases Nat.lt_or_ge g w.heap.size with hlt | hge
     · exact hlt
     · rw[Array.getElem?_eq_none hge] at hh;cases hh
   exact .inr ⟨g,cap,cur,e,hg,(hq.below.block g hlt).trans hh,r⟩
theorem OwnS.setCell {w:World}{base:Nat}{A:Option Addr}{n c:Nat}{l:List (List UInt8)}(h:OwnS w base A n c l){p:Addr}(hp:p.block<base)(u:Value):OwnS (w.setCell p u) base A n c l:=by
 refine⟨h.1,?_⟩
 rcases h.2 with ⟨e,h0⟩ | ⟨g,cap,cur,e,hg,hh,r⟩
 · exact .inl ⟨e,h0⟩
 · exact .inr ⟨g,cap,cur,e,hg,(heap_setCell_other w p g u (by omega)).trans hh,r⟩
theorem OwnS.set4 {w:World}{base:Nat}{A:Option Addr}{n c:Nat}{l:List (List UInt8)}(h:OwnS w base A n c l){b:Nat}(hp:b<base)(x y z u:Value):OwnS ((((w.setCell ⟨b,0,none⟩ x).setCell ⟨b,1,none⟩ y).setCell ⟨b,2,none⟩ z).setCell ⟨b,3,none⟩ u) base A n c l:=
 (((h.setCell (p:=⟨b,0,none⟩) hp x).setCell (p:=⟨b,1,none⟩) hp y).setCell (p:=⟨b,2,none⟩) hp z).setCell (p:=⟨b,3,none⟩) hp u
theorem OwnS.lower {w:World}{base b2:Nat}{A:Option Addr}{n c:Nat}{rs:List (List UInt8)}(h:OwnS w base A n c rs)(hb:b2≤base):OwnS w b2 A n c rs:=row_lower h hb
theorem ownS_nil (w:World)(base:Nat):OwnS w base none 0 0 []:=⟨rfl,.inl ⟨rfl,rfl⟩⟩
theorem row_ne {w:World}{base:Nat}{A:Option Addr}{n c:Nat}{rs:List (List UInt8)}(h:OwnS w base A n c rs){b:Nat}(hb:b<base):some b≠(Value.slice A n c).ownBlock:=by
 rcases h.2 with ⟨e,h0⟩ | ⟨g,cap,cur,e,hg,hh,r⟩
 · rw[e];simp[Value.ownBlock]
 · rw[e];simp only[Value.ownBlock,ne_eq,Option.some.injEq];omega
theorem box_g {w w':World}{row:Option Nat}{b k:Nat}{v:Value}(hg:w.grownBy w' row)(hne:some b≠row)(h:w.cell? ⟨b,k,none⟩=some v):w'.cell? ⟨b,k,none⟩=some v:=hg.cell h hne
theorem Bx.grown {w w':World}{row:Option Nat}{b:Nat}{vs:List Value}(h:Bx w b vs)(hg:w.grownBy w' row)(hne:some b≠row):Bx w' b vs:=fun j v hj=>by
 have hb:b<w.heap.size:=block_lt_of_cell (h j v hj).1
 have e:=hg.block b hb hne
 have h1:=h j v hj
 simp only[World.cell?,World.frozen?] at h1 ⊢
 rw[e];exact h1
theorem Below.of_own {w w':World}{base:Nat}{A:Option Addr}{n c:Nat}{rs:List (List UInt8)}(h:OwnS w base A n c rs)(hg:w.grownBy w' (Value.slice A n c).ownBlock)(hB:base≤w.heap.size):Below base w w':=
 below_grown hg hB fun k hk=>by
  rcases h.2 with ⟨e,_⟩ | ⟨g,cap,cur,e,hb,_⟩
  · rw[e] at hk;cases hk
  · rw[e] at hk;simp only[Value.ownBlock,Option.some.injEq] at hk;omega
theorem run_appSS {w:World}(base:Nat)(ty:TypeId)(A:Option Addr)(n c:Nat)(l:List (List UInt8))(h:OwnS w base A n c l)(M:Option Addr)(m mc:Nat)(ms:List (List UInt8))(h2:Strs w M m ms)
  (hnil:M=none→m=0∧mc=0) (hb:(n+m)*16≤140737488355328) (hbase:base≤w.heap.size) :
  ∃ A' c' w',(Builtin.append_ #[87, 87] ty #[.slice A n c,.slice M m mc]).run Tryz.prog w=.ok (.slice A' (n+m) c') w'∧OwnS w' base A' (n+m) c' (l++ms)∧w.grownBy w' (Value.slice A n c).ownBlock:=by
 obtain⟨A',c',w',hr,h3,h4,h5⟩:=run_appG (P:=Tryz.prog) (w:=w) base 87 ty 9 (.string ⟨#[]⟩) 1 16 Tryz.underlying87 infoS rfl (by omega) A n c _ h M m mc _ h2.1
   (fun j u hu=>by obtain⟨a',e,_,hc⟩:=h2.2 j u hu;exact⟨a',e,hc⟩) (by intro u hu;obtain⟨_,_,rfl⟩:=List.mem_map.1 hu;rfl) hnil (by unfold maxLen;omega) hb hbase
 exact⟨A',c',w',hr,by unfold OwnS;rw[List.map_append];exact h3,h4⟩
theorem step_appS {ops:Array Oper}{o:Oper}{a:Act}{w:World}{K:Act→World→Prop}{R:Exit→Act→World→Prop}{E:Prop}(hgd:o.guard=none)(s x:Operand)
  (ho:o.op=.call { callee:=.builtin .append,args:=#[s,x],argTypes:=#[87, 87] })
  (base:Nat) (A:Option Addr) (n c:Nat) (l:List (List UInt8)) (hs:a.eval s=.slice A n c) (h:OwnS w base A n c l) (M:Option Addr) (m mc:Nat) (ms:List (List UInt8)) (hx:a.eval x=.slice M m mc) (h2:Strs w M m ms)
  (hnil:M=none→m=0∧mc=0) (hb:(n+m)*16≤140737488355328) (hbase:base≤w.heap.size)
  (hK:∀ A' c' w',OwnS w' base A' (n+m) c' (l++ms)→w.grownBy w' (Value.slice A n c).ownBlock→Below base w w'→K (a.put o.dst (.slice A' (n+m) c')) w') :
  if Region.wanted o (yielded ops a.tmps)=true then Oper.wp Tryz.prog o a w K R else E:=by
 rw[if_pos (wanted_plain hgd)]
 obtain⟨A',c',w',hr,h3,h4⟩:=run_appSS base o.type A n c l h M m mc ms h2 hnil hb hbase
 unfold Oper.wp execOp
 simp only[ho,resolve,invoke,builtin,Sem.run_bind,Sem.run_pure,Result.andThen_ok,List.map_toArray,List.map_cons,List.map_nil,hs,hx,hr]
 exact hK A' c' w' h3 h4 (Below.of_own h h4 hbase)
theorem wpl_appSS {w:World}{ops:Array Oper}{rest:List Oper}{o:Oper}{a:Act}{R:Exit→Act→World→Prop}(hgd:o.guard=none)(s x:Operand)
  (ho:o.op=.call { callee:=.builtin .append,args:=#[s,x],argTypes:=#[87, 87] })
  (base:Nat) (A:Option Addr) (n c:Nat) (l:List (List UInt8)) (hs:a.eval s=.slice A n c) (h:OwnS w base A n c l) (M:Option Addr) (m mc:Nat) (ms:List (List UInt8)) (hx:a.eval x=.slice M m mc) (h2:Strs w M m ms)
  (hnil:M=none→m=0∧mc=0) (hb:(n+m)*16≤140737488355328) (hbase:base≤w.heap.size)
  (hk:∀ A' c' w',OwnS w' base A' (n+m) c' (l++ms)→w.grownBy w' (Value.slice A n c).ownBlock→Below base w w'→wpList Tryz.prog ops R rest (a.put o.dst (.slice A' (n+m) c')) w'):wpList Tryz.prog ops R (o :: rest) a w:=by
 refine wpList_plain hgd fun K hK=>?_
 obtain⟨A',c',w',hr,h3,h4⟩:=run_appSS base o.type A n c l h M m mc ms h2 hnil hb hbase
 unfold Oper.wp execOp
 simp only[ho,resolve,invoke,builtin,Sem.run_bind,Sem.run_pure,Result.andThen_ok,List.map_toArray,List.map_cons,List.map_nil,hs,hx,hr]
 exact hK _ _ (hk A' c' w' h3 h4 (Below.of_own h h4 hbase))
def RetR (w:World)(x:Dk×List (List UInt8)×Int×Int)(e:Ending)(w':World):Prop:=
 ∃ A n c L ln lc,e=.returned (.tuple #[dkv A n c x.1.room x.1.fuse x.1.off,.slice L ln lc,.int .i64 x.2.2.1,.int .i64 x.2.2.2])∧Dsk w' A n c x.1.fs∧Far w A∧OwnS w' w.heap.size L ln lc x.2.1∧Q w w'
theorem scn_len (s:List UInt8):(scn s).1.length*4≤s.length:=by
 have h1:=flat_four (scn s).1
 have h2:=congrArg List.length (scd s).eq
 rw[List.length_append] at h2;omega
theorem redd_size {B:Nat}(nm:ByteArray)(l:List Fil)(h:∀ f∈l,f.sf.size+f.wt.size≤B):(redd nm l).1.size≤B:=by
 rcases plc_cases nm l with ⟨_,h0⟩ | ⟨k,hk,_,hn,hf⟩
 · rw[redd_none h0];exact Nat.zero_le _
 · rw[redd_at hk hn hf,ByteArray.size_append];exact h _ (List.getElem_mem _)
theorem mx21 {d:Dk}(hB:Bnd 2097152 d):∀ f∈d.fs,f.sf.size+f.wt.size≤maxLen:=fun f hf=>Nat.le_trans (hB.sum f hf) (by unfold maxLen;omega)
theorem Wm.Bnd.more {B C:Nat}{d:Dk}(h:Bnd B d)(hBC:B≤C):Bnd C d:=⟨fun f hf=>Nat.le_trans (h.sum f hf) hBC,h.few,h.room,h.fuse⟩
theorem Sb.grown {w wr w2:World}{A:Option Addr}{n c:Nat}{room fuse:Int}{off:Bool}{L:Option Addr}{m lc:Nat}{rs:List (List UInt8)}(h:Sb w A n c room fuse off wr)(hl:OwnS wr (w.heap.size+2) L m lc rs)
  (hg:wr.grownBy w2 (Value.slice L m lc).ownBlock) (hb:Below (w.heap.size+2) wr w2):Sb w A n c room fuse off w2:=
 ⟨Bx.grown h.box hg (row_ne hl (by omega)),Bx.grown h.res hg (row_ne hl (by omega)),h.q.below.trans (hb.mono (by omega))⟩
theorem rows_apart {w:World}{b1 b2:Nat}{A L:Option Addr}{n c m lc:Nat}{l:List Fil}{rs:List (List UInt8)}(h:Own w b1 A n c l)(hl:OwnS w b2 L m lc rs):(Value.slice L m lc).ownBlock=none∨(Value.slice A n c).ownBlock≠(Value.slice L m lc).ownBlock:=by
 rcases hl.2 with ⟨e,_⟩ | ⟨g,cap,cur,e,hb,hh,_⟩
 · left;rw[e];rfl
 · right
   rcases h.2 with ⟨e2,_⟩ | ⟨g2,cap2,cur2,e2,hb2,hh2,_⟩
   · rw[e,e2];simp[Value.ownBlock]
   · rw[e,e2]
     intro he
     have hgg:g2=g:=by simpa [Value.ownBlock] using he
     subst hgg
     rw[hh] at hh2
     injection hh2 with hh2
     injection hh2 with _ ht _
     exact absurd ht (by decide)
theorem Own.grown {w w2:World}{b1 b2:Nat}{A L:Option Addr}{n c m lc:Nat}{l:List Fil}{rs:List (List UInt8)}(h:Own w b1 A n c l)(hl:OwnS w b2 L m lc rs)(hg:w.grownBy w2 (Value.slice L m lc).ownBlock):Own w2 b1 A n c l:=by
 rcases rows_apart h hl with h0 | h0
 · rw[h0] at hg
   refine World.ownsRow.kept h hg ?_
   rcases h.2 with ⟨e2,_⟩ | ⟨g2,cap2,cur2,e2,hb2,hh2,_⟩
   · left;rw[e2];rfl
   · exact .inr (by rw[e2];simp[Value.ownBlock])
 · exact World.ownsRow.kept h hg (.inr h0)
theorem Sd.grown {w wr w2:World}{A:Option Addr}{n c:Nat}{room fuse:Int}{off:Bool}{F:List Fil}{L:Option Addr}{m lc:Nat}{rs:List (List UInt8)}(h:Sd w A n c room fuse off F wr)(hl:OwnS wr (w.heap.size+2) L m lc rs)
 (hg:wr.grownBy w2 (Value.slice L m lc).ownBlock) (hb:Below (w.heap.size+2) wr w2):Sd w A n c room fuse off F w2:=⟨h.sb.grown hl hg hb,h.own.grown hl hg⟩
theorem Sd.step {w wr w2:World}{A:Option Addr}{n c:Nat}{room fuse:Int}{off:Bool}{F:List Fil}(h:Sd w A n c room fuse off F wr)(q:Q wr w2):Sd w A n c room fuse off F w2:=⟨h.sb.step q,h.own.q q⟩
theorem Sd.endR {w wr:World}{A:Option Addr}{n c:Nat}{d:Dk}{L:Option Addr}{m lc:Nat}{rs:List (List UInt8)}(h:Sd w A n c d.room d.fuse d.off d.fs wr)(hn:n*48≤140737488355328)(hl:OwnS wr (w.heap.size+2) L m lc rs)(seg er:Int)(x y z u:Value) :
  RetR w (d,rs,seg,er) (.returned (.tuple #[dkv A n c d.room d.fuse d.off,.slice L m lc,.int .i64 seg,.int .i64 er])) ((((wr.setCell ⟨w.heap.size+1,0,none⟩ x).setCell ⟨w.heap.size+1,1,none⟩ y).setCell ⟨w.heap.size+1,2,none⟩ z).setCell ⟨w.heap.size+1,3,none⟩ u):=
 ⟨A,n,c,L,m,lc,rfl,(h.own.set4 (b:=w.heap.size+1) (by omega) _ _ _ _).dsk hn,fun ad e=>by have h1:=h.own.far_ ad e;omega,(hl.set4 (b:=w.heap.size+1) (by omega) _ _ _ _).lower (by omega),h.sb.q.set4 (b:=w.heap.size+1) (by omega) _ _ _ _⟩
theorem Sv.endR {w wr:World}{A:Option Addr}{n c:Nat}{d:Dk}{L:Option Addr}{m lc:Nat}{rs:List (List UInt8)}(h:Sv w A n c d wr)(hf:Far w A)(hl:OwnS wr (w.heap.size+2) L m lc rs)(seg er:Int)(x y z u:Value) :
  RetR w (d,rs,seg,er) (.returned (.tuple #[dkv A n c d.room d.fuse d.off,.slice L m lc,.int .i64 seg,.int .i64 er])) ((((wr.setCell ⟨w.heap.size+1,0,none⟩ x).setCell ⟨w.heap.size+1,1,none⟩ y).setCell ⟨w.heap.size+1,2,none⟩ z).setCell ⟨w.heap.size+1,3,none⟩ u):=
 ⟨A,n,c,L,m,lc,rfl,(((h.dsk.away1 (fun hn ad e=>(h.away hn ad e).2) 0 _).away1 (fun hn ad e=>(h.away hn ad e).2) 1 _).away1 (fun hn ad e=>(h.away hn ad e).2) 2 _).away1 (fun hn ad e=>(h.away hn ad e).2) 3 _,hf,(hl.set4 (b:=w.heap.size+1) (by omega) _ _ _ _).lower (by omega),h.sb.q.set4 (b:=w.heap.size+1) (by omega) _ _ _ _⟩
theorem recF_end {n:Nat}{d:Dk}{f k last:Int}{rs:List (List UInt8)}(h:¬ segOk k∨(redd (namB k) d.fs).2≠0):recF n d f k rs last=(d,rs,last,0):=by
 cases n with
 | zero=>rfl
 | succ n =>
   unfold recF
   by_cases h0:segOk k
   · rw[if_neg (by simpa using h0),if_pos (h.resolve_left (by simpa using h0))]
   · rw[if_pos h0]
theorem recF_more {d:Dk}{f k last:Int}{rs:List (List UInt8)}{s:ByteArray}(h0:segOk k)(hr:redd (namB k) d.fs=(s,0))(hs:(scn s.data.toList).2=[]):recF (fuelOf k) d f k rs last=recF (fuelOf (k+1)) d f (k+1) (rs++(scn s.data.toList).1) k:=by
 have hf:fuelOf k=fuelOf (k+1)+1:=by have:=h0.2;unfold fuelOf;omega
 rw[hf]
 conv=>lhs;unfold recF
 rw[if_neg (by simpa using h0),hr]
 dsimp only
 rw[if_neg (by simp),if_pos hs]
theorem recF_cut {d:Dk}{f k last:Int}{rs:List (List UInt8)}{s:ByteArray}(h0:segOk k)(hr:redd (namB k) d.fs=(s,0))(hs:(scn s.data.toList).2≠[]){y:Dk×Int}(hy:cutM d k ⟨(flat (scn s.data.toList).1).toArray⟩=y) :
  recF (fuelOf k) d f k rs last=if y.2≠0 then (y.1,[],f,y.2) else (y.1,rs++(scn s.data.toList).1,k,0):=by
 have hf:fuelOf k=fuelOf (k+1)+1:=by have:=h0.2;unfold fuelOf;omega
 rw[hf]
 conv=>lhs;unfold recF
 rw[if_neg (by simpa using h0),hr]
 dsimp only
 rw[if_neg (by simp),if_neg hs,hy]
theorem Sv.putD {w wr w5:World}{A A5:Option Addr}{n c n5 c5:Nat}{room fuse:Int}{off:Bool}{d5:Dk}(h:Sb w A n c room fuse off wr)(q:Q wr w5)(hd:Dsk w5 A5 n5 c5 d5.fs)(hf:∀ ad,A5=some ad→wr.heap.size≤ad.block) :
  Sv w A5 n5 c5 d5 ((((w5.setCell ⟨w.heap.size,0,none⟩ (.slice A5 n5 c5)).setCell ⟨w.heap.size,1,none⟩ (.int .i64 d5.room)).setCell ⟨w.heap.size,2,none⟩ (.int .i64 d5.fuse)).setCell ⟨w.heap.size,3,none⟩ (.bool d5.off))∧Far w A5:=by
 have hlt:=h.res.lt
 have ha:∀ ad,A5=some ad→ad.block≠w.heap.size:=fun ad e=>by have:=hf ad e;omega
 exact⟨⟨(h.step q).put4 A5 n5 c5 d5.room d5.fuse d5.off,(((hd.away ha 0 _).away ha 1 _).away ha 2 _).away ha 3 _,fun _ ad e=>by have:=hf ad e;omega⟩,fun ad e=>by have:=hf ad e;omega⟩
theorem Sv.grown {w wr w2:World}{A:Option Addr}{n c:Nat}{d:Dk}{L:Option Addr}{m lc:Nat}{rs:List (List UInt8)}(h:Sv w A n c d wr)(hl:OwnS wr (w.heap.size+2) L m lc rs)
  (hg:wr.grownBy w2 (Value.slice L m lc).ownBlock) (hb:Below (w.heap.size+2) wr w2) (hne:∀ ad,A=some ad→some ad.block≠(Value.slice L m lc).ownBlock):Sv w A n c d w2:=
 ⟨h.sb.grown hl hg hb,⟨Files.grown h.dsk.files hg hne,h.dsk.nil,h.dsk.le,h.dsk.cap,h.dsk.few⟩,h.away⟩
theorem OwnS.far_ne {w:World}{base:Nat}{A L:Option Addr}{m lc:Nat}{rs:List (List UInt8)}(h:OwnS w base L m lc rs)(hf:∀ ad,A=some ad→w.heap.size≤ad.block):∀ ad,A=some ad→some ad.block≠(Value.slice L m lc).ownBlock:=by
 intro ad e
 have h1:=hf ad e
 rcases h.2 with ⟨e2,_⟩ | ⟨g,cap,cur,e2,hb,hh,_⟩
 · rw[e2];simp[Value.ownBlock]
 · rw[e2]
   have hlt:g<w.heap.size:=by
    rcases Nat.lt_or_ge g w.heap.size with hlt | hge
    · exact hlt
    · rw[Array.getElem?_eq_none hge] at hh;cases hh
   simp only[Value.ownBlock,ne_eq,Option.some.injEq];omega
theorem far_cells {w1:World}{b:Nat}{x y z u a0 a1 a2 a3:Value}(h:w1.cell? ⟨b,0,none⟩=some x∧w1.cell? ⟨b,1,none⟩=some y∧w1.cell? ⟨b,2,none⟩=some z∧w1.cell? ⟨b,3,none⟩=some u) :
  (fun w':World=>w'.cell? ⟨b,0,none⟩=some x∧w'.cell? ⟨b,1,none⟩=some y∧w'.cell? ⟨b,2,none⟩=some z∧w'.cell? ⟨b,3,none⟩=some u) ((((w1.setCell ⟨b+1,0,none⟩ a0).setCell ⟨b+1,1,none⟩ a1).setCell ⟨b+1,2,none⟩ a2).setCell ⟨b+1,3,none⟩ a3):=by
 have f:∀ (W:World) (k j:Nat) (v t:Value),W.cell? ⟨b,k,none⟩=some v→(W.setCell ⟨b+1,j,none⟩ t).cell? ⟨b,k,none⟩=some v:=fun W k j v t h=>(World.cell?_setCell_other _ _ _ _ (by intro x;injection x with x;omega)).trans h
 exact⟨f _ _ _ _ _ (f _ _ _ _ _ (f _ _ _ _ _ (f _ _ _ _ _ h.1))),f _ _ _ _ _ (f _ _ _ _ _ (f _ _ _ _ _ (f _ _ _ _ _ h.2.1))),f _ _ _ _ _ (f _ _ _ _ _ (f _ _ _ _ _ (f _ _ _ _ _ h.2.2.1))),f _ _ _ _ _ (f _ _ _ _ _ (f _ _ _ _ _ (f _ _ _ _ _ h.2.2.2)))⟩
def Rr (w:World)(d:Dk)(from_:Int)(x:Dk×List (List UInt8)×Int×Int)(s8 s9 s10:Value)(wr:World):Prop:=
 ∃ (k last:Int) (rs:List (List UInt8)) (L:Option Addr) (lc:Nat) (A:Option Addr) (n c:Nat),s8=.slice L rs.length lc∧s9=.int .i64 last∧s10=.int .i64 k∧1≤k∧k≤1000001∧Sd w A n c d.room d.fuse d.off d.fs wr ∧
   OwnS wr (w.heap.size+2) L rs.length lc rs∧rs.length≤(k - 1).toNat*524288∧x=recF (fuelOf k) d from_ k rs last
theorem rec_good (from_:Int)(A:Option Addr)(n c:Nat)(d:Dk)(w:World)(hT:Tab w)(hd:Dsk w A n c d.fs)(hB:Bnd 2097152 d)(h1:segOk from_) :
  Calls Tryz.prog 70 #[dkv A n c d.room d.fuse d.off,.int .i64 from_] w fun e w'=>RetR w (recM d from_) e w':=by
 have HT:=hid hT
 have HD:=hid hd
 have HB:=hid hB
 have HM:=hid (mx21 hB)
 have H1:=hid h1
 have KU:=hid (numbered_yes from_ h1)
 have hx:recM d from_=recF (fuelOf from_) d from_ from_ [] from_:=by unfold recM;rw[if_neg (by simpa using h1)]
 generalize recM d from_=x at hx ⊢
 have HX:=hid hx
 have r0:=h1.1
 have r1:=h1.2
 clear hT hd hB h1 hx
 go_enter Tryz.func70,Tryz.ntmps70
 go_wp2_with fail
 go_step3
 go_wp2_with fail
 refine(wown_any A n c d.room d.fuse d.off d.fs _ (HD.out.q (((Q.refl _).alloc _).alloc _))).mono ?_
 rintro e w1 ⟨A1,c1,rfl,ho,q1⟩
 have P:=hid (Sd.new2 (room:=d.room) (fuse:=d.fuse) (off:=d.off) (L:=d.fs) (Sv.new w HD.out).sb q1 ho)
 obtain⟨⟨e0,e1,e2,e3⟩,f0,f1,f2',f3⟩:=((Sv.new w HD.out).sb.step q1).get
 clear ho q1
 go_upto_region 2 with (fail)
 generalize ((((w1.setCell ⟨w.heap.size,0,none⟩ (.slice A1 n c1)).setCell ⟨w.heap.size,1,none⟩ (.int .i64 d.room)).setCell ⟨w.heap.size,2,none⟩ (.int .i64 d.fuse)).setCell ⟨w.heap.size,3,none⟩ (.bool d.off))=W at P ⊢
 clear e0 e1 e2 e3 f0 f1 f2' f3
 go_wp2_with fail
 refine(KU.out _).mono ?_
 rintro e w2 ⟨rfl,q2⟩
 have V:=hid (P.out.step q2)
 clear P q2
 go_wp2
 go_step3
 go_wp2
 go_loopw [8,9,10] (Rr w d from_ x) (fun _ _ s10 _=>(1000002 - intOf s10).toNat)
 case atStart=>exact⟨from_,from_,[],none,0,A1,n,c1,rfl,rfl,rfl,by omega,by omega,V.out,ownS_nil _ _,by simp,HX.out⟩
 case round =>
  obtain⟨k,last,rs,L,lc,A2,n2,c2,rfl,rfl,rfl,hk1,hk2,hv,hol,hrl,hxx⟩:=hrel
  have V:=hid hv
  have OL:=hid hol
  have HXX:=hid hxx
  have HRL:=hid hrl
  have hn2:n2*48≤140737488355328:=by have h1:=hv.own.len;have h2:=HD.out.len;have h3:=HD.out.few;omega
  clear hv hol hxx hrl
  generalize wr=W at V OL ⊢
  by_cases g1:segOk k
  case neg =>
   have G1:=hid g1
   have KUK:=hid (numbered_no k g1)
   clear g1
   go_wp2_with fail
   refine(KUK.out _).mono ?_
   rintro e w3 ⟨rfl,q3⟩
   have U:=hid (V.out.step q3)
   have UL:=hid (OL.out.q q3)
   clear V OL q3
   obtain⟨⟨e0,e1,e2,e3⟩,f0,f1,f2',f3⟩:=U.out.sb.get
   obtain⟨⟨s0,s1,s2,s3⟩,h0,h1,h2,h3⟩:=U.out.sb.getR
   go_wp2
   (try rw[Exit.noGoto_ret])
   refine bodyPost_ret (v:=.tuple #[dkv A2 n2 c2 d.room d.fuse d.off,.slice L rs.length lc,.int .i64 last,.int .i64 0]) (by simp[results,Tryz.results70,go_sem,s0,s1,s2,s3]) rfl ?_
   have ex:=HXX.out
   rw[recF_end ((.inl G1.out))] at ex
   rw[ex]
   exact U.out.endR hn2 UL.out last 0 _ _ _ _
  have G1:=hid g1
  have KUK:=hid (numbered_yes k g1)
  have KN:=hid (name_any k)
  have KR:=hid (fun w hf=>read_any (namB k) A2 n2 c2 d.room d.fuse d.off d.fs w hf (V.out.own.dsk hn2).max HM.out)
  have hsz:=redd_size (namB k) d.fs HB.out.sum
  have hcs:(redd (namB k) d.fs).2=0∨(redd (namB k) d.fs).2=7:=by unfold redd;split<;>simp
  have HXR:Hid (redd (namB k) d.fs=redd (namB k) d.fs):=hid rfl
  obtain⟨r,hr⟩:∃ r,r=redd (namB k) d.fs:=⟨_,rfl⟩
  rw[←hr] at KR hsz hcs
  have HR:=hid hr
  clear hr HXR g1
  obtain⟨s,se⟩:=r
  have hsz':s.size≤2097152:=hsz
  clear hsz
  go_wp2_with fail
  refine(KUK.out _).mono ?_
  rintro e w3 ⟨rfl,q3⟩
  have U:=hid (V.out.step q3)
  have UL:=hid (OL.out.q q3)
  clear V OL q3
  go_upto_region 9 with (fail)
  generalize w3=W at U UL ⊢
  obtain⟨⟨e0,e1,e2,e3⟩,f0,f1,f2',f3⟩:=U.out.sb.get
  go_region_held3 (fun w'=>w'.cell? ⟨w.heap.size,0,none⟩=some (.slice A2 n2 c2)∧w'.cell? ⟨w.heap.size,1,none⟩=some (.int .i64 d.room)∧w'.cell? ⟨w.heap.size,2,none⟩=some (.int .i64 d.fuse)∧w'.cell? ⟨w.heap.size,3,none⟩=some (.bool d.off))
    (first
      | go_keep
      | (go_split_ands
         (repeat' apply And.intro)<;>exact box_ ‹Q _ _› (by assumption)))
    (first
      | (go_at_call 121
         (with_reducible refine(KN.out _ (HT.out.q (U.out.sb.q.trans (Q.refl W).drew))).mono ?_)
         rintro e w4 ⟨rfl,q4⟩)
      | (go_at_call 115
         (with_reducible refine(KR.out _ (U.out.own.files.q ((Q.refl W).drew.trans q4))).mono ?_)
         rintro e w5 ⟨rfl,q5⟩))
  have V:=hid (U.out.step (((Q.refl W).drew.trans q4).trans q5))
  have OL:=hid (UL.out.q (((Q.refl W).drew.trans q4).trans q5))
  clear U UL q4 q5 e0 e1 e2 e3 f0 f1 f2' f3
  have hsl:=scn_len s.data.toList
  rw[size_list] at hsl
  have KSC:=hid (fun w=>scan_any s w (by unfold maxLen;omega) (by omega))
  have hus:=used_le s.data.toList
  rw[size_list] at hus
  have hrest:(scn s.data.toList).2=[]↔(used s.data.toList:Int)=(s.size:Int):=by
   have h1:=congrArg List.length (scd s.data.toList).eq
   rw[List.length_append,size_list,←used_flat] at h1
   rw[←List.length_eq_zero_iff];omega
  have htk:=take_used s.data.toList
  have HRS:=hid hrest
  have HTK:=hid htk
  obtain⟨ms,hms⟩:∃ ms,ms=(scn s.data.toList).1:=⟨_,rfl⟩
  obtain⟨us,hus2⟩:∃ us,us=used s.data.toList:=⟨_,rfl⟩
  rw[←hms,←hus2] at KSC
  rw[←hms] at hsl
  rw[←hus2] at hus
  have HMS:=hid (And.intro hms hus2)
  clear hrest htk hms hus2
  go_wp2_with fail
  refine(KSC.out _).mono ?_
  rintro e w6 ⟨M,mn,mc,rfl,hm,q6⟩
  have hmn:ms.length=mn:=hm.len
  subst hmn
  have U:=hid (V.out.step q6)
  have UL:=hid (OL.out.q q6)
  have hmb:w.heap.size+2≤w5.heap.size:=by have:=V.out.sb.res.lt;omega
  have OM:=hid (hm.lower hmb)
  clear hmb
  have hMn:=hid hm.nil
  clear V OL q6 hm
  have HSL:=hid hsl
  rcases hcs with he | he
  case inr =>
   have he':se=7:=he
   clear he
   subst he'
   have hrr:(redd (namB k) d.fs).2≠0:=by rw[←HR.out];simp
   have HRR:=hid hrr
   clear hrr
   obtain⟨⟨e0,e1,e2,e3⟩,f0,f1,f2',f3⟩:=U.out.sb.get
   obtain⟨⟨s0,s1,s2,s3⟩,h0,h1,h2,h3⟩:=U.out.sb.getR
   go_wp2
   (try rw[Exit.noGoto_ret])
   refine bodyPost_ret (v:=.tuple #[dkv A2 n2 c2 d.room d.fuse d.off,.slice L rs.length lc,.int .i64 last,.int .i64 0]) (by simp[results,Tryz.results70,go_sem,s0,s1,s2,s3]) rfl ?_
   have ex:=HXX.out
   rw[recF_end ((.inr HRR.out))] at ex
   rw[ex]
   exact U.out.endR hn2 UL.out last 0 _ _ _ _
  have he':se=0:=he
  clear he
  subst he'
  by_cases gn:(us:Int)=(s.size:Int)
  · have hz:(scn s.data.toList).2=[]:=HRS.out.2 (by rw[←HMS.out.2];exact gn)
    have HX2:=hid (HXX.out.trans (recF_more G1.out HR.out.symm hz))
    have hk3:k≤1000000:=G1.out.2
    have hb16:(rs.length+ms.length)*16≤140737488355328:=by have h1:=HRL.out;have h2:=HSL.out;omega
    have hbw:w.heap.size+2≤w6.heap.size:=by have:=U.out.sb.res.lt;omega
    clear hz
    go_wp2_with (at_builtin
                 refine wpl_appSS rfl (.tmp 48) (.tmp 49) rfl (w.heap.size+2) L rs.length lc rs rfl UL.out M ms.length mc ms rfl OM.out.strs hMn.out hb16 hbw ?_
                 intro L2 lc2 w7 ho7 hg7 hb7)
    have V:=hid (U.out.grown UL.out hg7 hb7)
    clear U UL
    refine⟨⟨k+1,k,rs++ms,L2,lc2,A2,n2,c2,by rw[List.length_append],rfl,rfl,by omega,by omega,V.out,by rw[List.length_append];exact ho7,?_,?_⟩,by simp[intOf];omega⟩
    · rw[List.length_append];have h1:=HRL.out;have h2:=HSL.out;omega
    · rw[HMS.out.1];exact HX2.out
  · have hz:(scn s.data.toList).2≠[]:=fun h=>gn (by rw[HMS.out.2];exact HRS.out.1 h)
    have hex:s.extract 0 us=⟨(flat (scn s.data.toList).1).toArray⟩:=by
     rw[extract_list,HMS.out.2,HTK.out];simp
    have hes:(s.extract 0 us).size≤2305843009213693952:=by rw[ByteArray.size_extract];omega
    have KC:=hid (fun w hT hd=>cut_any k (s.extract 0 us) A2 n2 c2 d w hT hd (HB.out.more (by omega)) hes G1.out)
    obtain⟨y,hy⟩:∃ y,y=cutM d k (s.extract 0 us):=⟨_,rfl⟩
    have HX2:=hid (HXX.out.trans (recF_cut G1.out HR.out.symm hz (y:=y) (by rw[hy,hex])))
    rw[←hy] at KC
    have hbw:w.heap.size+2≤w6.heap.size:=by have:=U.out.sb.res.lt;omega
    have hb16:(rs.length+ms.length)*16≤140737488355328:=by have h1:=HRL.out;have h2:=HSL.out;have h3:k≤1000000:=G1.out.2;omega
    have HB2:=hid hb16
    clear hz hex hes hy hb16
    go_upto_region 14 with (fail)
    generalize w6=W at U UL OM hbw ⊢
    have SU:=hid U.out.sb
    have DU:=hid (U.out.own.dsk hn2)
    obtain⟨⟨e0,e1,e2,e3⟩,f0,f1,f2',f3⟩:=U.out.sb.get
    have QW:=hid (Q.refl W)
    refine wp_region_heldL 9 (Q W) (by kernel_rfl) ?szz0 (fun hHeld=>?rzz0)
    case szz0 =>
     exact(Q.refl W).drew
    refine takeL 0 ?v1 ?y1 ?_
    case y1=>intro w hSw;have x0:=box_ hSw e0;have x1:=box_ hSw e1;have x2:=box_ hSw e2;have x3:=box_ hSw e3;clear hSw;go_simp;try with_reducible rfl
    refine takL 1 ?_
    refine takL 2 ?_
    refine takL 3 ?_
    refine takL 4 ?_
    refine oneL 5 (fun K hK=>?_)
    go_simp
    refine(KC.out _ (HT.out.q (SU.out.q.trans hHeld)) (DU.out.q hHeld)).mono ?_
    rintro e w5 ⟨A5,n5,c5,rfl,ho,hf5,q5⟩
    obtain⟨⟨x0,x1,x2,x3⟩,y0,y1,y2,y3⟩:=((SU.out.step hHeld).step q5).get
    have Z5:=hid (And.intro ho (And.intro hHeld (And.intro q5 hf5)))
    go_wp2_with fail
    refine hK.out _ _ (hHeld.trans q5) (fun hHeld=>?_)
    clear hK K
    try simp only[Act.put,sA,sB,sC]
    refine takL 6 ?_
    refine takL 7 ?_
    refine wpAnyL_ready (rs:=[8,9]) (by kernel_rfl) (by simp) ?_
    refine consL (fun K hK=>?kzz32) ?_
    case kzz32 =>
     go_simp
     refine hK.out _ _ (hHeld) (fun hHeld=>?_)
     clear hK K
     try simp only[Act.put,sA,sB,sC]
     refine oneK (fun K hK=>?_)
     go_simp
     refine hK.out _ _ ?_
     clear hK K
     try simp only[Act.put,sA,sB,sC]
     refine takH 10 ?_
     refine doneH ?_
     have P:=hid (Sv.putD (SU.out.step Z5.out.2.1) Z5.out.2.2.1 Z5.out.1 Z5.out.2.2.2)
     have HNE:=hid ((UL.out.q Z5.out.2.1).far_ne Z5.out.2.2.2)
     have hb2:w.heap.size<w.heap.size+2:=by omega
     have UL2:=hid (((UL.out.q Z5.out.2.1).q Z5.out.2.2.1).set4 (b:=w.heap.size) hb2 (.slice A5 n5 c5) (.int .i64 y.1.room) (.int .i64 y.1.fuse) (.bool y.1.off))
     have OM2:=hid (((OM.out.q Z5.out.2.1).q Z5.out.2.2.1).set4 (b:=w.heap.size) hb2 (.slice A5 n5 c5) (.int .i64 y.1.room) (.int .i64 y.1.fuse) (.bool y.1.off))
     have hbw2:w.heap.size+2≤w5.heap.size:=Nat.le_trans hbw (Nat.le_trans Z5.out.2.1.size Z5.out.2.2.1.size)
     have hbw3:w.heap.size+2≤((((w5.setCell ⟨w.heap.size,0,none⟩ (.slice A5 n5 c5)).setCell ⟨w.heap.size,1,none⟩ (.int .i64 y.1.room)).setCell ⟨w.heap.size,2,none⟩ (.int .i64 y.1.fuse)).setCell ⟨w.heap.size,3,none⟩ (.bool y.1.off)).heap.size:=by simpa [World.setCell] using hbw2
     clear e0 e1 e2 e3 f0 f1 f2' f3 x0 x1 x2 x3 y0 y1 y2 y3 U UL OM SU DU Z5 hHeld QW hbw hbw2 hb2
     generalize ((((w5.setCell ⟨w.heap.size,0,none⟩ (.slice A5 n5 c5)).setCell ⟨w.heap.size,1,none⟩ (.int .i64 y.1.room)).setCell ⟨w.heap.size,2,none⟩ (.int .i64 y.1.fuse)).setCell ⟨w.heap.size,3,none⟩ (.bool y.1.off))=W at P UL2 OM2 hbw3 ⊢
     obtain⟨⟨e0,e1,e2,e3⟩,f0,f1,f2',f3⟩:=P.out.1.sb.get
     by_cases gy:y.2=0
     · have GY:=hid gy
       have OL:=UL2
       have OM:=OM2
       have hW2:w.heap.size+2≤W.drew.heap.size:=hbw3
       have RB:=hid P.out.1.sb.res
       go_upto_region 17 with (fail)
       refine wp_region_held_drew (S:=fun w'=>w'.cell? ⟨w.heap.size,0,none⟩=some (.slice A5 n5 c5)∧w'.cell? ⟨w.heap.size,1,none⟩=some (.int .i64 y.1.room)∧w'.cell? ⟨w.heap.size,2,none⟩=some (.int .i64 y.1.fuse)∧w'.cell? ⟨w.heap.size,3,none⟩=some (.bool y.1.off)) (by kernel_rfl) ?szz9 (fun hHeld=>?rzz9)
       case szz9 =>
        exact⟨e0,e1,e2,e3⟩
       refine takeH 0 ?v10 ?y10 ?_
       case y10=>intro w hSw;obtain⟨x0,x1,x2,x3⟩:=hSw;go_simp;try with_reducible rfl
       refine takH 1 ?_
       refine takH 2 ?_
       refine takH 4 ?_
       refine oneH 3 (fun K hK=>?_)
       have hne:=row_ne OL.out (b:=w.heap.size) (by omega)
       have hne1:=row_ne OL.out (b:=w.heap.size+1) (by omega)
       refine step_appS (by rfl) _ _ (by rfl) (w.heap.size+2) L rs.length lc rs (by rfl) (show OwnS W.drew _ _ _ _ _ from OL.out) M ms.length mc ms (by rfl) (show Strs W.drew _ _ _ from OM.out.strs) hMn.out HB2.out hW2 ?_
       intro L2 lc2 w2 ho2 hg2 hb2
       refine hK.out _ _ (⟨box_g hg2 hne hHeld.1,box_g hg2 hne hHeld.2.1,box_g hg2 hne hHeld.2.2.1,box_g hg2 hne hHeld.2.2.2⟩) (fun hHeld=>?_)
       clear hK K
       try simp only[Act.put,sA,sB,sC]
       have RB2:=hid (Bx.grown (show Bx W.drew _ _ from RB.out) hg2 hne1)
       obtain⟨⟨s0,s1,s2,s3⟩,h0,h1,h2,h3⟩:=RB2.out.get4
       refine oneH 5 (fun K hK=>?_)
       go_simp
       refine hK.out _ _ (far_cells hHeld) (fun hHeld=>?_)
       clear hK K
       try simp only[Act.put,sA,sB,sC]
       refine takH 6 ?_
       refine takH 7 ?_
       refine takH 8 ?_
       refine doneH ?_
       go_wp2
       (try rw[Exit.noGoto_ret])
       refine bodyPost_ret (v:=.tuple #[dkv A5 n5 c5 y.1.room y.1.fuse y.1.off,.slice L2 (rs.length+ms.length) lc2,.int .i64 k,.int .i64 0]) (by simp[results,Tryz.results70,go_sem,s0,s1,s2,s3]) rfl ?_
       rw[HX2.out,if_neg (by rw[GY.out];simp),←HMS.out.1]
       exact(Sv.grown (P.out.1.step (Q.refl W).drew) OL.out hg2 hb2 HNE.out).endR P.out.2 ho2 k 0 _ _ _ _
     · have GY:=hid gy
       obtain⟨⟨s0,s1,s2,s3⟩,h0,h1,h2,h3⟩:=P.out.1.sb.getR
       go_wp2
       (try rw[Exit.noGoto_ret])
       refine bodyPost_ret (v:=.tuple #[dkv A5 n5 c5 y.1.room y.1.fuse y.1.off,.slice none 0 0,.int .i64 from_,.int .i64 y.2]) (by simp[results,Tryz.results70,go_sem,s0,s1,s2,s3]) rfl ?_
       rw[HX2.out,if_pos GY.out]
       exact P.out.1.endR P.out.2 (ownS_nil _ _) from_ y.2 _ _ _ _
    refine consK (fun K hK=>?_) AllReadyL.nil
    go_simp
    refine hK.out _ _ ?_
    clear hK K
    try simp only[Act.put,sA,sB,sC]
    refine takH 8 ?_
    refine takH 10 ?_
    refine doneH ?_
    have P:=hid (Sv.putD (SU.out.step Z5.out.2.1) Z5.out.2.2.1 Z5.out.1 Z5.out.2.2.2)
    have HNE:=hid ((UL.out.q Z5.out.2.1).far_ne Z5.out.2.2.2)
    have hb2:w.heap.size<w.heap.size+2:=by omega
    have UL2:=hid (((UL.out.q Z5.out.2.1).q Z5.out.2.2.1).set4 (b:=w.heap.size) hb2 (.slice A5 n5 c5) (.int .i64 y.1.room) (.int .i64 y.1.fuse) (.bool y.1.off))
    have OM2:=hid (((OM.out.q Z5.out.2.1).q Z5.out.2.2.1).set4 (b:=w.heap.size) hb2 (.slice A5 n5 c5) (.int .i64 y.1.room) (.int .i64 y.1.fuse) (.bool y.1.off))
    have hbw2:w.heap.size+2≤w5.heap.size:=Nat.le_trans hbw (Nat.le_trans Z5.out.2.1.size Z5.out.2.2.1.size)
    have hbw3:w.heap.size+2≤((((w5.setCell ⟨w.heap.size,0,none⟩ (.slice A5 n5 c5)).setCell ⟨w.heap.size,1,none⟩ (.int .i64 y.1.room)).setCell ⟨w.heap.size,2,none⟩ (.int .i64 y.1.fuse)).setCell ⟨w.heap.size,3,none⟩ (.bool y.1.off)).heap.size:=by simpa [World.setCell] using hbw2
    clear e0 e1 e2 e3 f0 f1 f2' f3 x0 x1 x2 x3 y0 y1 y2 y3 U UL OM SU DU Z5 hHeld QW hbw hbw2 hb2
    generalize ((((w5.setCell ⟨w.heap.size,0,none⟩ (.slice A5 n5 c5)).setCell ⟨w.heap.size,1,none⟩ (.int .i64 y.1.room)).setCell ⟨w.heap.size,2,none⟩ (.int .i64 y.1.fuse)).setCell ⟨w.heap.size,3,none⟩ (.bool y.1.off))=W at P UL2 OM2 hbw3 ⊢
    obtain⟨⟨e0,e1,e2,e3⟩,f0,f1,f2',f3⟩:=P.out.1.sb.get
    by_cases gy:y.2=0
    · have GY:=hid gy
      have OL:=UL2
      have OM:=OM2
      have hW2:w.heap.size+2≤W.drew.heap.size:=hbw3
      have RB:=hid P.out.1.sb.res
      go_upto_region 17 with (fail)
      refine wp_region_held_drew (S:=fun w'=>w'.cell? ⟨w.heap.size,0,none⟩=some (.slice A5 n5 c5)∧w'.cell? ⟨w.heap.size,1,none⟩=some (.int .i64 y.1.room)∧w'.cell? ⟨w.heap.size,2,none⟩=some (.int .i64 y.1.fuse)∧w'.cell? ⟨w.heap.size,3,none⟩=some (.bool y.1.off)) (by kernel_rfl) ?szz22 (fun hHeld=>?rzz22)
      case szz22 =>
       exact⟨e0,e1,e2,e3⟩
      refine takeH 0 ?v23 ?y23 ?_
      case y23=>intro w hSw;obtain⟨x0,x1,x2,x3⟩:=hSw;go_simp;try with_reducible rfl
      refine takH 1 ?_
      refine takH 2 ?_
      refine takH 4 ?_
      refine oneH 3 (fun K hK=>?_)
      have hne:=row_ne OL.out (b:=w.heap.size) (by omega)
      have hne1:=row_ne OL.out (b:=w.heap.size+1) (by omega)
      refine step_appS (by rfl) _ _ (by rfl) (w.heap.size+2) L rs.length lc rs (by rfl) (show OwnS W.drew _ _ _ _ _ from OL.out) M ms.length mc ms (by rfl) (show Strs W.drew _ _ _ from OM.out.strs) hMn.out HB2.out hW2 ?_
      intro L2 lc2 w2 ho2 hg2 hb2
      refine hK.out _ _ (⟨box_g hg2 hne hHeld.1,box_g hg2 hne hHeld.2.1,box_g hg2 hne hHeld.2.2.1,box_g hg2 hne hHeld.2.2.2⟩) (fun hHeld=>?_)
      clear hK K
      try simp only[Act.put,sA,sB,sC]
      have RB2:=hid (Bx.grown (show Bx W.drew _ _ from RB.out) hg2 hne1)
      obtain⟨⟨s0,s1,s2,s3⟩,h0,h1,h2,h3⟩:=RB2.out.get4
      refine oneH 5 (fun K hK=>?_)
      go_simp
      refine hK.out _ _ (far_cells hHeld) (fun hHeld=>?_)
      clear hK K
      try simp only[Act.put,sA,sB,sC]
      refine takH 6 ?_
      refine takH 7 ?_
      refine takH 8 ?_
      refine doneH ?_
      go_wp2
      (try rw[Exit.noGoto_ret])
      refine bodyPost_ret (v:=.tuple #[dkv A5 n5 c5 y.1.room y.1.fuse y.1.off,.slice L2 (rs.length+ms.length) lc2,.int .i64 k,.int .i64 0]) (by simp[results,Tryz.results70,go_sem,s0,s1,s2,s3]) rfl ?_
      rw[HX2.out,if_neg (by rw[GY.out];simp),←HMS.out.1]
      exact(Sv.grown (P.out.1.step (Q.refl W).drew) OL.out hg2 hb2 HNE.out).endR P.out.2 ho2 k 0 _ _ _ _
    · have GY:=hid gy
      obtain⟨⟨s0,s1,s2,s3⟩,h0,h1,h2,h3⟩:=P.out.1.sb.getR
      go_wp2
      (try rw[Exit.noGoto_ret])
      refine bodyPost_ret (v:=.tuple #[dkv A5 n5 c5 y.1.room y.1.fuse y.1.off,.slice none 0 0,.int .i64 from_,.int .i64 y.2]) (by simp[results,Tryz.results70,go_sem,s0,s1,s2,s3]) rfl ?_
      rw[HX2.out,if_pos GY.out]
      exact P.out.1.endR P.out.2 (ownS_nil _ _) from_ y.2 _ _ _ _
theorem rec_bad (from_:Int)(A:Option Addr)(n c:Nat)(d:Dk)(w:World)(hd:Dsk w A n c d.fs)(h1:¬ segOk from_) :
  Calls Tryz.prog 70 #[dkv A n c d.room d.fuse d.off,.int .i64 from_] w fun e w'=>RetR w (d,[],from_,1) e w':=by
 have HD:=hid hd
 have KU:=hid (numbered_no from_ h1)
 clear hd h1
 go_enter Tryz.func70,Tryz.ntmps70
 go_wp2_with fail
 go_step3
 go_wp2_with fail
 refine(wown_any A n c d.room d.fuse d.off d.fs _ (HD.out.q (((Q.refl _).alloc _).alloc _))).mono ?_
 rintro e w1 ⟨A1,c1,rfl,ho,q1⟩
 have P:=hid (Sd.new2 (room:=d.room) (fuse:=d.fuse) (off:=d.off) (L:=d.fs) (Sv.new w HD.out).sb q1 ho)
 obtain⟨⟨e0,e1,e2,e3⟩,f0,f1,f2',f3⟩:=((Sv.new w HD.out).sb.step q1).get
 clear ho q1
 go_upto_region 2 with (fail)
 generalize ((((w1.setCell ⟨w.heap.size,0,none⟩ (.slice A1 n c1)).setCell ⟨w.heap.size,1,none⟩ (.int .i64 d.room)).setCell ⟨w.heap.size,2,none⟩ (.int .i64 d.fuse)).setCell ⟨w.heap.size,3,none⟩ (.bool d.off))=W at P ⊢
 clear e0 e1 e2 e3 f0 f1 f2' f3
 go_wp2_with fail
 refine(KU.out _).mono ?_
 rintro e w2 ⟨rfl,q2⟩
 have V:=hid (P.out.step q2)
 clear P q2
 obtain⟨⟨e0,e1,e2,e3⟩,f0,f1,f2',f3⟩:=V.out.sb.get
 obtain⟨⟨s0,s1,s2,s3⟩,h0,h1,h2,h3⟩:=V.out.sb.getR
 go_wp2
 (try rw[Exit.noGoto_ret])
 refine bodyPost_ret (v:=.tuple #[dkv A1 n c1 d.room d.fuse d.off,.slice none 0 0,.int .i64 from_,.int .i64 1]) (by simp[results,Tryz.results70,go_sem,s0,s1,s2,s3]) rfl ?_
 exact V.out.endR HD.out.few (ownS_nil _ _) from_ 1 _ _ _ _
theorem recover_any (from_:Int)(A:Option Addr)(n c:Nat)(d:Dk)(w:World)(hT:Tab w)(hd:Dsk w A n c d.fs)(hB:Bnd 2097152 d) :
  Calls Tryz.prog 70 #[dkv A n c d.room d.fuse d.off,.int .i64 from_] w fun e w'=>RetR w (recM d from_) e w':=by
 by_cases h1:segOk from_
 · exact rec_good from_ A n c d w hT hd hB h1
 · rw[show recM d from_=(d,[],from_,1) by unfold recM;rw[if_pos h1]]
   exact rec_bad from_ A n c d w hd h1
end
section
open Go.RowKit
theorem Strs.len {w:World}{A:Option Addr}{n:Nat}{l:List (List UInt8)}(h:Strs w A n l):l.length=n:=by have:=h.1;simpa using this
theorem Strs.load {w:World}{A:Option Addr}{n:Nat}{l:List (List UInt8)}(h:Strs w A n l){k:Nat}(hl:k<l.length) :
  ∃ ad,A=some ad∧ad.block<w.heap.size∧w.cell? (ad.add k)=some (.string (bs l[k])):=by
 obtain⟨ad,e,hb,hc⟩:=h.2 k (.string (bs l[k])) (by simp[hl])
 exact⟨ad,e,hb,hc⟩
end
section
open Dkm Prm Wm
namespace Bm
theorem tkN_two {m:Nat}{x:Hs}(h:(tkN m x).2.2=true):(tkN m x).2.1.length+2≤x.1.length:=by
 unfold tkN at h ⊢
 split at h
 · cases h
 · rename_i h1
   rw[if_neg h1]
   simp only[not_or,ne_eq,Decidable.not_not] at h1
   exact Rn.tnum_takes x.1 h1.1
theorem tkN_le (m:Nat)(x:Hs):(tkN m x).2.1.length≤x.1.length:=by
 unfold tkN
 split
 · exact Dm.tnum_len x.1
 · exact Dm.tnum_len x.1
theorem tkT_le (m:Int)(x:Hs):(tkT m x).2.1.length≤x.1.length:=(ttext_len x.1 m).2
theorem tkW_two {x:Hs}(h:(tkW x).2.2=true):(tkW x).2.1.length+2≤x.1.length:=by
 have h3:(tkT 64 (tkT 32 (tkN 1 x).2).2).2.2=true:=h
 have h2:=tkT_was h3
 have h1:=tkT_was h2
 have l1:=tkN_two h1
 have l2:=tkT_le 32 (tkN 1 x).2
 have l3:=tkT_le 64 (tkT 32 (tkN 1 x).2).2
 show (tkT 64 (tkT 32 (tkN 1 x).2).2).2.1.length+2≤x.1.length
 omega
theorem tkWs_two:∀ (n:Nat) (acc:List Wr) {x:Hs},(tkWs n acc x).2.2=true→n*2+(tkWs n acc x).2.1.length≤x.1.length
 | 0,_,_,_=>by simp[tkWs]
 | n+1,acc,x,h=>by
   have h1:(tkW x).2.2=true:=tkWs_was (n:=n) h
   have h2:=tkW_two h1
   have h3:=tkWs_two n (acc++[(tkW x).1]) (x:=(tkW x).2) h
   show (n+1)*2+(tkWs n (acc++[(tkW x).1]) (tkW x).2).2.1.length≤_
   omega
theorem tkWs_count:∀ (n:Nat) (acc:List Wr) (x:Hs),(tkWs n acc x).1.length=acc.length+n
 | 0,_,_=>rfl
 | n+1,acc,x=>by
   show (tkWs n (acc++[(tkW x).1]) (tkW x).2).1.length=_
   rw[tkWs_count n];simp;omega
theorem take_ws (s:List UInt8):(take s).1.ws.length≤s.length:=by
 have h:(tkB (s,true)).2.2=true→(tkB (s,true)).1.ws.length≤s.length:=by
  unfold tkB
  dsimp only
  intro h
  have h2:=tkWs_two _ _ h
  have h3:=tkWs_count (tkH (s,true)).2.2.1 [] (tkH (s,true)).2.2.2
  have l1:(tkH (s,true)).2.2.2.1.length≤s.length:=by
   unfold tkH
   dsimp only
   have a:=tkN_le 2 (s,true)
   have b:=tkT_le 16 (tkN 2 (s,true)).2
   have c:=tkN_le 24 (tkT 16 (tkN 2 (s,true)).2).2
   simp only at a
   omega
  rw[h3]
  simp only[List.length_nil]
  omega
 unfold take
 generalize tkB (s,true)=x at h ⊢
 unfold fin
 split
 · rename_i hc
   exact h hc.1
 · exact Nat.zero_le _
theorem doo_lenW (s:Sta)(b:Bt):(doo s b).1.data.length≤s.data.length+b.ws.length∧(doo s b).1.toks.length≤s.toks.length+1:=by
 unfold doo
 split
 · simp
 · split
   · simp
   · have h3:=apply_len s.data b.ws
     exact⟨by simp only;omega,put_len _ _⟩
end Bm
namespace Km
def wsum:List (List UInt8)→Nat
 | []=>0
 | r :: rs=>(Bm.take r).1.ws.length+wsum rs
def tot:List (List UInt8)→Nat
 | []=>0
 | r :: rs=>r.length+tot rs
theorem wsum_tot:∀ rs:List (List UInt8),wsum rs≤tot rs
 | []=>Nat.le_refl _
 | r :: rs=>by
   have h1:=Bm.take_ws r
   have h2:=wsum_tot rs
   show (Bm.take r).1.ws.length+wsum rs≤r.length+tot rs
   omega
theorem tot_app:∀ a b:List (List UInt8),tot (a++b)=tot a+tot b
 | [],b=>by simp[tot]
 | r :: a,b=>by
   show r.length+tot (a++b)=r.length+tot a+tot b
   rw[tot_app a b];omega
theorem tot_flat:∀ rs:List (List UInt8),tot rs≤(flat rs).length
 | []=>Nat.zero_le _
 | r :: rs=>by
   have h:=tot_flat rs
   have h2:r.length≤(sld r).length:=by unfold sld;simp;omega
   rw[flat_cons,List.length_append]
   show r.length+tot rs≤_
   omega
theorem wsum_drop {rs:List (List UInt8)}{j:Nat}(h:j<rs.length):wsum (rs.drop j)=(Bm.take rs[j]).1.ws.length+wsum (rs.drop (j+1)):=by
 rw[List.drop_eq_getElem_cons h];rfl
theorem scn_tot (s:List UInt8):tot (scn s).1≤s.length:=by
 have h1:=tot_flat (scn s).1
 have h2:=congrArg List.length (scd s).eq
 rw[List.length_append] at h2;omega
theorem recF_tot:∀ (n:Nat) (d:Dk) (frm seg:Int) (rs:List (List UInt8)) (last:Int),(∀ f∈d.fs,f.sf.size+f.wt.size≤2097152) →
  (recF n d frm seg rs last).2.1.length≤rs.length+n*524288∧tot (recF n d frm seg rs last).2.1≤tot rs+n*2097152
 | 0,_,_,_,_,_,_=>by simp[recF]
 | n + 1,d,frm,seg,rs,last,h=>by
   have hz:=redd_size (namB seg) d.fs h
   have hl:(redd (namB seg) d.fs).1.data.toList.length=(redd (namB seg) d.fs).1.size:=Rn.size_data _
   have l1:=scn_len (redd (namB seg) d.fs).1.data.toList
   have l2:=scn_tot (redd (namB seg) d.fs).1.data.toList
   have ih:=recF_tot n d frm (seg+1) (rs++(scn (redd (namB seg) d.fs).1.data.toList).1) seg h
   rw[List.length_append,tot_app] at ih
   unfold recF
   split
   · constructor<;>simp only<;>omega
   · split
     · constructor<;>simp only<;>omega
     · split
       · exact⟨by omega,by omega⟩
       · split
         · simp[tot]
         · simp only
           rw[List.length_append,tot_app]
           exact⟨by omega,by omega⟩
theorem recM_tot {d:Dk}(h:∀ f∈d.fs,f.sf.size+f.wt.size≤2097152)(frm:Int):(recM d frm).2.1.length≤524288000000∧wsum (recM d frm).2.1≤2097152000000:=by
 have hw:=wsum_tot (recM d frm).2.1
 revert hw
 unfold recM
 split
 · intro _;simp[wsum]
 · rename_i hs
   intro hw
   have h1:segOk frm:=by simpa using hs
   have hf:fuelOf frm≤1000000:=by have:=h1.1;unfold fuelOf;omega
   obtain⟨a,b⟩:=recF_tot (fuelOf frm) d frm frm [] frm h
   simp only[List.length_nil,tot,Nat.zero_add] at a b
   exact⟨by omega,by omega⟩
end Km
end
section
open Go.RowKit Dkm Prm Km
def Ev (v:Value)(e:Int):Prop:=v=.nilIface∧e=0∨(∃ T u,v=fltW T u e)∧e≠0
theorem ev_wrong (a b:Addr)(e:Int):Ev (errV a b e) e:=by
 by_cases h:e=0
 · subst h;exact .inl ⟨errV_nil a b,rfl⟩
 · refine .inr ⟨?_,h⟩
   unfold errV
   rw[if_neg h]
   exact⟨_,_,rfl⟩
theorem unf_flt (a b:Addr){e:Int}(h:e≠0):∃ T u,unfV a b e=fltW T u 3:=by
 unfold unfV
 rw[if_neg h]
 exact⟨_,_,rfl⟩
theorem ev_unf (a b:Addr){e:Int}(h:e≠0):Ev (unfV a b e) 3:=.inr ⟨unf_flt a b h,by decide⟩
def RetPl (w:World)(r:Option Bm.Sta)(e:Ending)(w':World):Prop:=
 ∃ A n c B m d s v,e=.returned (.tuple #[staV A n c B m d,v])∧In_ pairK w' A n c s.data∧In_ pairK w' B m d s.toks∧Q w w'∧(r=some s∧v=.nilIface∨r=none∧Ev v 3)
structure Rp (w:World) (A:Option Addr) (n c:Nat) (B:Option Addr) (m d:Nat) (s:Bm.Sta) (wi:World):Prop where
 bx:Bx wi w.heap.size [.slice A n c,.slice B m d]
 res:Bx wi (w.heap.size+1) [.slice none 0 0,.slice none 0 0]
 data:In_ pairK wi A n c s.data
 toks:In_ pairK wi B m d s.toks
 q:Q w wi
section
variable {w wi wj:World} {A A' B B':Option Addr} {n c m d n' c' m' d':Nat} {s s':Bm.Sta}
theorem Rp.l (h:Rp w A n c B m d s wi):w.heap.size+1<wi.heap.size:=h.res.lt
theorem Rp.new (hA:In_ pairK w A n c s.data)(hB:In_ pairK w B m d s.toks):Rp w A n c B m d s ((w.alloc (.cells #[.slice A n c,.slice B m d] 30)).alloc (.cells #[.slice none 0 0,.slice none 0 0] 30)):=by
 refine⟨(Bx.new w [.slice A n c,.slice B m d] 30).alloc _,?_,hA.q (((Q.refl w).alloc _).alloc _),hB.q (((Q.refl w).alloc _).alloc _),((Q.refl w).alloc _).alloc _⟩
 have:=Bx.new (w.alloc (.cells #[.slice A n c,.slice B m d] 30)) [.slice none 0 0,.slice none 0 0] 30
 rw[show (w.alloc (.cells #[.slice A n c,.slice B m d] 30)).heap.size=w.heap.size+1 by simp] at this
 exact this
theorem Rp.step (h:Rp w A n c B m d s wi)(q:Q wi wj):Rp w A n c B m d s wj:=⟨h.bx.q q,h.res.q q,h.data.q q,h.toks.q q,h.q.trans q⟩
theorem nt2 (A:Option Addr)(n c:Nat)(B:Option Addr)(m d:Nat):∀ v∈[Value.slice A n c,.slice B m d],NT v:=by
 intro v hv
 simp only[List.mem_cons,List.not_mem_nil,or_false] at hv
 rcases hv with rfl | rfl<;>exact nt_slice _ _ _
theorem us2_ok (A:Option Addr)(n c:Nat)(B:Option Addr)(m d:Nat)(x y:Value):∀ u∈[(0,Value.slice A n c),(1,.slice B m d)],u.1 < [x,y].length∧NT u.2:=by
 intro u hu
 simp only[List.mem_cons,List.not_mem_nil,or_false] at hu
 rcases hu with rfl | rfl<;>exact⟨by simp,nt_slice _ _ _⟩
theorem Rp.set (h:Rp w A n c B m d s wi)(hA:In_ pairK wi A' n' c' s'.data)(hB:In_ pairK wi B' m' d' s'.toks) :
  Rp w A' n' c' B' m' d' s' ((wi.setCell ⟨w.heap.size,0,none⟩ (.slice A' n' c')).setCell ⟨w.heap.size,1,none⟩ (.slice B' m' d')):=by
 have h1:=hA.stk h.bx (nt2 _ _ _ _ _ _) [(0,Value.slice A' n' c'),(1,.slice B' m' d')] (us2_ok _ _ _ _ _ _ _ _)
 have h2:=hB.stk h.bx (nt2 _ _ _ _ _ _) [(0,Value.slice A' n' c'),(1,.slice B' m' d')] (us2_ok _ _ _ _ _ _ _ _)
 have h3:=h.res.far_stk (g:=w.heap.size) (by omega) [(0,Value.slice A' n' c'),(1,.slice B' m' d')]
 exact⟨h.bx.set2 _ _,h3,h1,h2,h.q.set2 (Nat.le_refl _) _ _⟩
theorem Rp.fin (h:Rp w A n c B m d s wi){X Y:Option Addr}{x y u v:Nat}{s2:Bm.Sta}(hX:In_ pairK wi X x y s2.data)(hY:In_ pairK wi Y u v s2.toks) :
  Bx ((wi.setCell ⟨w.heap.size+1,0,none⟩ (.slice X x y)).setCell ⟨w.heap.size+1,1,none⟩ (.slice Y u v)) (w.heap.size+1) [.slice X x y,.slice Y u v] ∧
  In_ pairK ((wi.setCell ⟨w.heap.size+1,0,none⟩ (.slice X x y)).setCell ⟨w.heap.size+1,1,none⟩ (.slice Y u v)) X x y s2.data ∧
  In_ pairK ((wi.setCell ⟨w.heap.size+1,0,none⟩ (.slice X x y)).setCell ⟨w.heap.size+1,1,none⟩ (.slice Y u v)) Y u v s2.toks ∧
  Q w ((wi.setCell ⟨w.heap.size+1,0,none⟩ (.slice X x y)).setCell ⟨w.heap.size+1,1,none⟩ (.slice Y u v)):=by
 have h1:=hX.stk h.res (nt2 _ _ _ _ _ _) [(0,Value.slice X x y),(1,.slice Y u v)] (us2_ok _ _ _ _ _ _ _ _)
 have h2:=hY.stk h.res (nt2 _ _ _ _ _ _) [(0,Value.slice X x y),(1,.slice Y u v)] (us2_ok _ _ _ _ _ _ _ _)
 exact⟨h.res.set2 _ _,h1,h2,h.q.set2 (Nat.le_succ _) _ _⟩
end
theorem repM_at {t:Bm.Sta}{rs:List (List UInt8)}{j:Nat}(h:j<rs.length){y:Bm.Bt×Nat}(hy:Bm.take rs[j]=y):repM t (rs.drop j)=if y.2≠0 then none else repM (Bm.doo t y.1).1 (rs.drop (j+1)):=by
 rw[List.drop_eq_getElem_cons h,repM_cons,hy]
theorem kreplay_any (rs:List (List UInt8))(L:Option Addr)(ln lc:Nat)(A:Option Addr)(n c:Nat)(B:Option Addr)(m d:Nat)(s:Bm.Sta)(w:World)(a b:Addr)(hS:Sen w a b)
  (hA:In_ pairK w A n c s.data) (hB:In_ pairK w B m d s.toks) (hL:Strs w L ln rs) (hln:ln≤1099511627776) (hrs:∀ r∈rs,r.length≤2048)
  (hb1:s.data.length+wsum rs≤4398046510000) (hb2:s.toks.length+ln≤4398046510000) :
  Calls Tryz.prog 72 #[staV A n c B m d,.slice L ln lc] w (RetPl w (repM s rs)):=by
 have HS:=hid hS
 have HL:=hid hL
 have HN:=hid hL.len
 have HR:=hid hrs
 have HB1:=hid hb1
 have HB2:=hid hb2
 have X0:=hid (Rp.new hA hB)
 generalize hT:repM s rs=R
 have HT:=hid hT
 clear hS hL hrs hA hB hb1 hb2 hT
 go_enter Tryz.func72,Tryz.ntmps72
 go_upto_region 1 with (fail)
 generalize ((w.alloc (.cells #[.slice A n c,.slice B m d] 30)).alloc (.cells #[.slice none 0 0,.slice none 0 0] 30))=W0 at X0 ⊢
 go_wp2
 go_loopw [12] (fun i wr=>∃ (j:Nat) (t:Bm.Sta) (A:Option Addr) (n c:Nat) (B:Option Addr) (m d:Nat),j≤ln∧i=.int .i64 j∧Rp w A n c B m d t wr∧repM s rs=repM t (rs.drop j)∧t.data.length+wsum (rs.drop j)≤s.data.length+wsum rs∧t.toks.length≤s.toks.length+j) (fun i _=>ln - (intOf i).toNat)
 case atStart=>exact⟨0,s,A,n,c,B,m,d,Nat.zero_le _,rfl,X0.out,rfl,Nat.le_refl _,Nat.le_refl _⟩
 case round =>
  obtain⟨j,t,A1,n1,c1,B1,m1,d1,hj,rfl,x1,hM,hl1,hl2⟩:=hrel
  have X:=hid x1
  have HM:=hid hM
  have HL1:=hid hl1
  have HL2:=hid hl2
  clear x1 hM X0 hl1 hl2
  by_cases hlt:j<ln
  · have hjl:j<rs.length:=by have:=HN.out;omega
    have hjn:(j:Int)<(ln:Int):=by omega
    have hsz:=HR.out rs[j] (List.getElem_mem hjl)
    obtain⟨ad,rfl,hab,hc⟩:=(HL.out.q X.out.q).load hjl
    have HD:=hid (fun y hy=>HM.out.trans (repM_at (t:=t) hjl (y:=y) hy))
    have HW:=hid (wsum_drop hjl)
    generalize rs[j]=r0 at hsz hc HD HW
    have KT:=hid (fun W=>btake_any (bs r0) W (by rw[bs_size];unfold maxLen;omega))
    simp only[list_bs] at KT
    have HD:=hid (HD.out _ rfl)
    have htl:=Bm.take_len r0
    generalize Bm.take r0=y at KT HD htl HW
    generalize bs r0=r at hc KT
    clear hsz
    obtain⟨⟨k,tok,ws⟩,er⟩:=y
    simp only at KT HD htl HW
    by_cases he:er=0
    · subst he
      have HD:=hid (HD.out.trans (if_neg (by simp)))
      go_wp2_with fail
      refine(KT.out _).mono ?_
      rintro e w2 ⟨D,dc,rfl,o2,q2⟩
      simp only at o2
      have Y:=hid (X.out.step q2)
      have OW:=hid o2
      clear o2 q2 X
      obtain⟨⟨e0,e1⟩,f0,f1⟩:=Y.out.bx.get2
      have KD:=hid (fun W (hA:In_ pairK W A1 n1 c1 t.data) (hB:In_ pairK W B1 m1 d1 t.toks) (hC:Lst writeK W D ws.length ws)=>bdo_any k tok A1 B1 D n1 c1 m1 d1 ws.length dc t.data t.toks ws W hA hB hC (by unfold maxLen;omega) (by have:=HL1.out;have:=HB1.out;have:=hA.len;omega) (by have:=HL2.out;have:=HB2.out;have:=hB.len;omega))
      have hdl:=Bm.doo_lenW t ⟨k,tok,ws⟩
      rw[show (⟨t.data,t.toks⟩:Bm.Sta)=t from rfl] at KD
      generalize Bm.doo t ⟨k,tok,ws⟩=z at KD HD hdl
      obtain⟨z,ze⟩:=z
      simp only at KD HD hdl
      have HDL:=hid hdl
      clear hdl
      have Z:=hid (Y.out.step ((Q.refl w2).alloc (.cells #[.int .i64 k,.string tok,.slice D ws.length dc] 48)))
      have ZB:=hid (Bx.new w2 [.int .i64 k,.string tok,.slice D ws.length dc] 48)
      have ZW:=hid (OW.out.lst.q ((Q.refl w2).alloc (.cells #[.int .i64 k,.string tok,.slice D ws.length dc] 48)))
      clear Y OW
      go_upto_region 7 with (fail)
      generalize (w2.alloc (.cells #[.int .i64 k,.string tok,.slice D ws.length dc] 48))=W2 at Z ZB ZW ⊢
      obtain⟨⟨e0,e1⟩,f0,f1⟩:=Z.out.bx.get2
      obtain⟨b0,b1,b2⟩:=ZB.out.get3.1
      go_wp2_with fail
      refine(KD.out _ Z.out.data Z.out.toks ZW.out).mono ?_
      rintro e w3 ⟨A3,c3,B3,d3,rfl,o3,p3,q3⟩
      have V0:=hid (Z.out.step q3)
      have V:=hid (V0.out.set (s':=z) (o3.in_ (by have:=HDL.out.1;have:=HL1.out;have:=HB1.out;have:=HW.out;show _*32≤_;simp only at *;omega)) (p3.in_ (by have:=HDL.out.2;have:=HL2.out;have:=HB2.out;show _*32≤_;simp only at *;omega)))
      clear Z ZB ZW o3 p3 q3 e0 e1 f0 f1 b0 b1 b2
      obtain⟨⟨e0,e1⟩,f0,f1⟩:=V0.out.bx.get2
      clear V0
      go_wp2
      go_roundw
      case rel=>exact⟨j+1,z,A3,_,c3,B3,_,d3,by omega,by go_num,V.out,HD.out,by have:=HDL.out.1;have:=HL1.out;have:=HW.out;(try simp only at *);omega,by have:=HDL.out.2;have:=HL2.out;omega⟩
      case measure=>simp[intOf];omega
    · have HD:=hid (HD.out.trans (if_pos (by simpa using he)))
      have hn:((er:Nat):Int)≠0:=by omega
      have KU:=hid (fun W (q:Q w W)=>kunf_any (er:Int) a b W (HS.out.q q))
      have HE:=hid (ev_unf a b hn)
      generalize unfV a b (er:Int)=v at KU HE
      go_wp2_with fail
      refine(KT.out _).mono ?_
      rintro e w2 ⟨D,dc,rfl,o2,q2⟩
      have Y:=hid ((X.out.step q2).step ((Q.refl w2).alloc (.cells #[.int .i64 k,.string tok,.slice D ws.length dc] 48)))
      clear o2 q2 X
      go_upto_region 6 with (fail)
      generalize (w2.alloc (.cells #[.int .i64 k,.string tok,.slice D ws.length dc] 48))=W2 at Y ⊢
      go_wp2_with fail
      refine(KU.out _ Y.out.q).mono ?_
      rintro e w3 ⟨rfl,rfl⟩
      have F:=hid (Y.out.fin (s2:=⟨[],[]⟩) (In_.none_ pairK _) (In_.none_ pairK _))
      obtain⟨⟨e0,e1⟩,f0,f1⟩:=Y.out.res.get2
      clear Y
      go_wp2
      (try rw[Exit.noGoto_ret])
      obtain⟨⟨r0,r1⟩,_⟩:=F.out.1.get2
      refine bodyPost_ret (v:=.tuple #[staV none 0 0 none 0 0,v]) (by simp[results,Tryz.results72,go_sem,r0,r1]) rfl ?_
      refine⟨none,0,0,none,0,0,⟨[],[]⟩,v,rfl,F.out.2.1,F.out.2.2.1,F.out.2.2.2,.inr ⟨?_,HE.out⟩⟩
      rw[←HT.out];exact HD.out
  · have e:ln=j:=by omega
    have hall:rs.drop j=[]:=List.drop_eq_nil_of_le (by have:=HN.out;omega)
    have HD:=hid (HM.out.trans (by rw[hall,repM_nil]))
    have hnk:¬ (j:Int)<(ln:Int):=by omega
    clear hall e
    have F:=hid (X.out.fin X.out.data X.out.toks)
    obtain⟨⟨e0,e1⟩,f0,f1⟩:=X.out.bx.get2
    obtain⟨⟨g0,g1⟩,h0,h1⟩:=X.out.res.get2
    clear X
    go_wp2
    (try rw[Exit.noGoto_ret])
    obtain⟨⟨r0,r1⟩,_⟩:=F.out.1.get2
    refine bodyPost_ret (v:=.tuple #[staV A1 n1 c1 B1 m1 d1,.nilIface]) (by simp[results,Tryz.results72,go_sem,r0,r1]) rfl ?_
    refine⟨A1,n1,c1,B1,m1,d1,t,.nilIface,rfl,F.out.2.1,F.out.2.2.1,F.out.2.2.2,.inl ⟨?_,rfl⟩⟩
    rw[←HT.out];exact HD.out
end
section
open Go.RowKit Dkm Prm Km Wm
def Ks.gon (x:Ks)(e:Int):Ks:=if e=6 then { x with down:=true } else x
def comLB (x:Ks)(s':Bm.Sta)(q:Dk×Int):Ks×Int:=if q.2≠0 then ({ x with d:=q.1 },q.2) else ({ x with d:=q.1,s:=s' },0)
def comLA (x:Ks)(s':Bm.Sta)(p:Dk×Int×Int):Ks×Int:=
 if p.2.2≠0 then ({ x with d:=p.1,seg:=p.2.1 },p.2.2) else comLB { x with d:=p.1,seg:=p.2.1 } s' (syncM p.1 p.2.1)
def comL (x:Ks)(b:Bm.Bt):Ks×Int:=
 if x.down=true then (x,6)
 else if (Bm.doo x.s b).2≠0 then (x,((Bm.doo x.s b).2:Int))
 else comLA x (Bm.doo x.s b).1 (putM x.d x.seg (recB b))
theorem doo_six (s:Bm.Sta)(b:Bm.Bt):((Bm.doo s b).2:Int)≠6:=by
 unfold Bm.doo
 split
 · simp
 · split<;>simp
theorem gon_bad {x:Ks}{d:Dk}{e:Int}(h:x.down=false):x.bad d e=(Ks.gon { x with d:=d } e,e):=by
 unfold Ks.bad Ks.gon
 by_cases h6:e=6
 · rw[if_pos h6,decide_eq_true h6]
 · rw[if_neg h6,decide_eq_false h6,←h]
theorem comLB_eq {x:Ks}(s':Bm.Sta)(q:Dk×Int)(h:x.down=false):comB x s' q=(Ks.gon (comLB x s' q).1 (comLB x s' q).2,(comLB x s' q).2):=by
 unfold comB comLB
 by_cases h0:q.2≠0
 · rw[if_pos h0,if_pos h0];exact gon_bad h
 · rw[if_neg h0,if_neg h0];rfl
theorem comLA_eq {x:Ks}(s':Bm.Sta)(p:Dk×Int×Int)(h:x.down=false):comA x s' p=(Ks.gon (comLA x s' p).1 (comLA x s' p).2,(comLA x s' p).2):=by
 unfold comA comLA
 by_cases h0:p.2.2≠0
 · rw[if_pos h0,if_pos h0];exact gon_bad (x:={ x with seg:=p.2.1 }) h
 · rw[if_neg h0,if_neg h0];exact comLB_eq s' _ h
theorem comL_comM (x:Ks)(b:Bm.Bt):comM x b=(Ks.gon (comL x b).1 (comL x b).2,(comL x b).2):=by
 unfold comM comL
 by_cases hd:x.down=true
 · rw[if_pos hd,if_pos hd]
   unfold Ks.gon
   rw[if_pos rfl,←hd]
 · have hd':x.down=false:=by simpa using hd
   rw[if_neg hd,if_neg hd]
   have h6:=doo_six x.s b
   by_cases h0:(Bm.doo x.s b).2≠0
   · rw[if_pos h0,if_pos h0]
     unfold Ks.gon
     rw[if_neg h6]
   · rw[if_neg h0,if_neg h0];exact comLA_eq _ _ hd'
theorem comL_down {x:Ks}(b:Bm.Bt)(h:x.down=true):comL x b=(x,6):=by unfold comL;rw[if_pos h]
theorem comL_bad {x:Ks}{b:Bm.Bt}(h:x.down=false){s2:Bm.Sta}{er:Nat}(hd:Bm.doo x.s b=(s2,er))(h0:er≠0):comL x b=(x,(er:Int)):=by
 unfold comL
 rw[hd,if_neg (by rw[h];decide),if_pos h0]
theorem comL_put {x:Ks}{b:Bm.Bt}(h:x.down=false){s2:Bm.Sta}(hd:Bm.doo x.s b=(s2,0)){d1:Dk}{seg1 e1:Int}(hp:putM x.d x.seg (recB b)=(d1,seg1,e1))(h0:e1≠0):comL x b=({ x with d:=d1,seg:=seg1 },e1):=by
 unfold comL
 rw[hd,if_neg (by rw[h];decide),if_neg (by simp),hp]
 unfold comLA
 rw[if_pos h0]
theorem comL_syn {x:Ks}{b:Bm.Bt}(h:x.down=false){s2:Bm.Sta}(hd:Bm.doo x.s b=(s2,0)){d1:Dk}{seg1:Int}(hp:putM x.d x.seg (recB b)=(d1,seg1,0)){d2:Dk}{e2:Int}(hs:syncM d1 seg1=(d2,e2))(h0:e2≠0):comL x b=({ x with d:=d2,seg:=seg1 },e2):=by
 unfold comL
 rw[hd,if_neg (by rw[h];decide),if_neg (by simp),hp]
 unfold comLA
 rw[if_neg (by simp),hs]
 unfold comLB
 rw[if_pos h0]
theorem comL_ok {x:Ks}{b:Bm.Bt}(h:x.down=false){s2:Bm.Sta}(hd:Bm.doo x.s b=(s2,0)){d1:Dk}{seg1:Int}(hp:putM x.d x.seg (recB b)=(d1,seg1,0)){d2:Dk}(hs:syncM d1 seg1=(d2,0)):comL x b=({ x with d:=d2,seg:=seg1,s:=s2 },0):=by
 unfold comL
 rw[hd,if_neg (by rw[h];decide),if_neg (by simp),hp]
 unfold comLA
 rw[if_neg (by simp),hs]
 unfold comLB
 rw[if_neg (by simp)]
end
section
open Go.RowKit Dkm Prm Km
abbrev p0:Kp:=⟨none,0,0,none,0,0,none,0,0⟩
structure Kc (w:World) (r:Nat) (p:Kp) (x:Ks) (wi:World):Prop where
 kb:Kb wi w.heap.size p x
 res:Bx wi r (kL p0 ks0)
 q:Q w wi
 lt:w.heap.size<r
theorem Kc.step {w wi wj:World}{r:Nat}{p:Kp}{x:Ks}(h:Kc w r p x wi)(q:Q wi wj):Kc w r p x wj:=⟨h.kb.q q,h.res.q q,h.q.trans q,h.lt⟩
theorem Kc.l {w wi:World}{r:Nat}{p:Kp}{x:Ks}(h:Kc w r p x wi):r<wi.heap.size:=h.res.lt
theorem Kc.two {w:World}{p:Kp}{x:Ks}(h:Kr w p x):Kc w (w.heap.size+1) p x ((w.alloc (.cells (kL p x).toArray 32)).alloc (.cells (kL p0 ks0).toArray 32)):=by
 refine⟨(Kb.new h).q ((Q.refl _).alloc _),?_,((Q.refl w).alloc _).alloc _,by omega⟩
 have:=Bx.new (w.alloc (.cells (kL p x).toArray 32)) (kL p0 ks0) 32
 rw[show (w.alloc (.cells (kL p x).toArray 32)).heap.size=w.heap.size+1 by simp] at this
 exact this
theorem Kc.fin {w wi:World}{r:Nat}{p p2:Kp}{x x2:Ks}(h:Kc w r p x wi)(hk:Kr wi p2 x2)(vs:List Value):RetK w x2 vs (.returned (.tuple (kvV p2 x2 :: vs).toArray)) (stk wi r (us10 p2 x2)):=
 ⟨p2,rfl,(Kb.whole (y:=ks0) (q:=p0) h.res hk).is,Q.stk (Nat.le_of_lt h.lt) _ h.q⟩
theorem Kc.fin1 {w wi:World}{r:Nat}{p p2:Kp}{x x2:Ks}(h:Kc w r p x wi)(hk:Kr wi p2 x2):RetK1 w x2 (.returned (kvV p2 x2)) (stk wi r (us10 p2 x2)):=
 ⟨p2,rfl,(Kb.whole (y:=ks0) (q:=p0) h.res hk).is,Q.stk (Nat.le_of_lt h.lt) _ h.q⟩
theorem Kc.boxR {w wi:World}{r:Nat}{p:Kp}{x:Ks}(h:Kc w r p x wi)(p2:Kp)(x2:Ks):Bx (stk wi r (us10 p2 x2)) r (kL p2 x2):=
 bx_stk (us10 p2 x2) h.res fun u hu=>(us10_ok p2 p0 x2 ks0 u hu).1
theorem Kc.disk {w wi:World}{r:Nat}{p:Kp}{x:Ks}(h:Kc w r p x wi){A2:Option Addr}{n2 c2:Nat}{d2:Dk}(hd:Dsk wi A2 n2 c2 d2.fs) :
  Kc w r ⟨A2,n2,c2,p.B,p.bn,p.bc,p.C,p.cn,p.cc⟩ ⟨d2,x.frm,x.seg,x.run,x.s,x.down⟩ ((((wi.setCell ⟨w.heap.size,0,none⟩ (.slice A2 n2 c2)).setCell ⟨w.heap.size,1,none⟩ (.int .i64 d2.room)).setCell ⟨w.heap.size,2,none⟩ (.int .i64 d2.fuse)).setCell ⟨w.heap.size,3,none⟩ (.bool d2.off)):=
 ⟨h.kb.disk hd,h.res.far4 (c:=w.heap.size) (by have:=h.lt;omega) _ _ _ _,h.q.set4 (b:=w.heap.size) (Nat.le_refl _) _ _ _ _,h.lt⟩
theorem Kc.segm {w wi:World}{r:Nat}{p:Kp}{x:Ks}(h:Kc w r p x wi)(seg2:Int):Kc w r p ⟨x.d,x.frm,seg2,x.run,x.s,x.down⟩ (wi.setCell ⟨w.heap.size,5,none⟩ (.int .i64 seg2)):=
 ⟨h.kb.segm seg2,h.res.far (p:=⟨w.heap.size,5,none⟩) (by have:=h.lt;show w.heap.size≠r;omega) _,h.q.setCell (p:=⟨w.heap.size,5,none⟩) (Nat.le_refl _) _,h.lt⟩
theorem Kc.gone {w wi:World}{r:Nat}{p:Kp}{x:Ks}(h:Kc w r p x wi)(b:Bool):Kc w r p ⟨x.d,x.frm,x.seg,x.run,x.s,b⟩ (wi.setCell ⟨w.heap.size,9,none⟩ (.bool b)):=
 ⟨h.kb.gone b,h.res.far (p:=⟨w.heap.size,9,none⟩) (by have:=h.lt;show w.heap.size≠r;omega) _,h.q.setCell (p:=⟨w.heap.size,9,none⟩) (Nat.le_refl _) _,h.lt⟩
theorem Kc.state {w wi:World}{r:Nat}{p:Kp}{x:Ks}(h:Kc w r p x wi){B2 C2:Option Addr}{bn2 bc2 cn2 cc2:Nat}{s2:Bm.Sta}(hB:In_ pairK wi B2 bn2 bc2 s2.data)(hC:In_ pairK wi C2 cn2 cc2 s2.toks) :
  Kc w r ⟨p.A,p.n,p.c,B2,bn2,bc2,C2,cn2,cc2⟩ ⟨x.d,x.frm,x.seg,x.run,s2,x.down⟩ ((wi.setCell ⟨w.heap.size,7,none⟩ (.slice B2 bn2 bc2)).setCell ⟨w.heap.size,8,none⟩ (.slice C2 cn2 cc2)):=
 ⟨h.kb.state hB hC,(h.res.far (p:=⟨w.heap.size,7,none⟩) (by have:=h.lt;show w.heap.size≠r;omega) _).far (p:=⟨w.heap.size,8,none⟩) (by have:=h.lt;show w.heap.size≠r;omega) _,(h.q.setCell (p:=⟨w.heap.size,7,none⟩) (Nat.le_refl _) _).setCell (p:=⟨w.heap.size,8,none⟩) (Nat.le_refl _) _,h.lt⟩
theorem Kc.fileA {w wi:World}{r:Nat}{p:Kp}{x:Ks}(h:Kc w r p x wi){A2:Option Addr}{n2 c2:Nat}(hd:Dsk wi A2 n2 c2 x.d.fs):Kc w r ⟨A2,n2,c2,p.B,p.bn,p.bc,p.C,p.cn,p.cc⟩ x (wi.setCell ⟨w.heap.size,0,none⟩ (.slice A2 n2 c2)):=by
 have hok:∀ u∈[(0,Value.slice A2 n2 c2)],u.1<(kL p x).length∧NT u.2:=by
  intro u hu
  simp only[List.mem_cons,List.not_mem_nil,or_false] at hu
  rcases hu with rfl<;>exact⟨by simp[kL],fun s e=>by cases e⟩
 have h1:=bx_stk _ h.kb.box (fun u hu=>(hok u hu).1)
 have h2:=h.kb.is.stk h.kb.box (kL_nt _ _) _ hok
 exact⟨⟨h1,hd.stk h.kb.box (kL_nt _ _) _ hok,h2.data,h2.toks⟩,h.res.far (p:=⟨w.heap.size,0,none⟩) (by have:=h.lt;show w.heap.size≠r;omega) _,h.q.setCell (p:=⟨w.heap.size,0,none⟩) (Nat.le_refl _) _,h.lt⟩
theorem Kc.dataB {w wi:World}{r:Nat}{p:Kp}{x:Ks}(h:Kc w r p x wi){A2:Option Addr}{n2 c2:Nat}(hd:In_ pairK wi A2 n2 c2 x.s.data):Kc w r ⟨p.A,p.n,p.c,A2,n2,c2,p.C,p.cn,p.cc⟩ x (wi.setCell ⟨w.heap.size,7,none⟩ (.slice A2 n2 c2)):=by
 have hok:∀ u∈[(7,Value.slice A2 n2 c2)],u.1<(kL p x).length∧NT u.2:=by
  intro u hu
  simp only[List.mem_cons,List.not_mem_nil,or_false] at hu
  rcases hu with rfl<;>exact⟨by simp[kL],fun s e=>by cases e⟩
 have h1:=bx_stk _ h.kb.box (fun u hu=>(hok u hu).1)
 have h2:=h.kb.is.stk h.kb.box (kL_nt _ _) _ hok
 exact⟨⟨h1,h2.dsk,hd.stk h.kb.box (kL_nt _ _) _ hok,h2.toks⟩,h.res.far (p:=⟨w.heap.size,7,none⟩) (by have:=h.lt;show w.heap.size≠r;omega) _,h.q.setCell (p:=⟨w.heap.size,7,none⟩) (Nat.le_refl _) _,h.lt⟩
theorem Kc.toksC {w wi:World}{r:Nat}{p:Kp}{x:Ks}(h:Kc w r p x wi){A2:Option Addr}{n2 c2:Nat}(hd:In_ pairK wi A2 n2 c2 x.s.toks):Kc w r ⟨p.A,p.n,p.c,p.B,p.bn,p.bc,A2,n2,c2⟩ x (wi.setCell ⟨w.heap.size,8,none⟩ (.slice A2 n2 c2)):=by
 have hok:∀ u∈[(8,Value.slice A2 n2 c2)],u.1<(kL p x).length∧NT u.2:=by
  intro u hu
  simp only[List.mem_cons,List.not_mem_nil,or_false] at hu
  rcases hu with rfl<;>exact⟨by simp[kL],fun s e=>by cases e⟩
 have h1:=bx_stk _ h.kb.box (fun u hu=>(hok u hu).1)
 have h2:=h.kb.is.stk h.kb.box (kL_nt _ _) _ hok
 exact⟨⟨h1,h2.dsk,h2.data,hd.stk h.kb.box (kL_nt _ _) _ hok⟩,h.res.far (p:=⟨w.heap.size,8,none⟩) (by have:=h.lt;show w.heap.size≠r;omega) _,h.q.setCell (p:=⟨w.heap.size,8,none⟩) (Nat.le_refl _) _,h.lt⟩
theorem kown_any (p:Kp)(x:Ks)(w:World)(hk:Kr w p x):Calls Tryz.prog 49 #[kvV p x] w (RetK1 w x):=by
 have KA:=hid (fun W (q:Q w W)=>clone p.A p.n p.c x.d.fs W (hk.dsk.q q))
 have KB:=hid (fun W (q:Q w W)=>clonePairs p.B p.bn p.bc x.s.data W (hk.data.q q))
 have KC:=hid (fun W (q:Q w W)=>clonePairs p.C p.cn p.cc x.s.toks W (hk.toks.q q))
 have hn:=hid hk.dsk.few
 have hbn:=hid hk.data.few
 have hcn:=hid hk.toks.few
 obtain⟨A,n,c,B,bn,bc,C,cn,cc⟩:=p
 obtain⟨⟨l,room,fuse,off⟩,frm,seg,run,s,down⟩:=x
 have X:Hid (Kc w (w.heap.size+1) ⟨A,n,c,B,bn,bc,C,cn,cc⟩ ⟨⟨l,room,fuse,off⟩,frm,seg,run,s,down⟩ ((w.alloc (.cells #[.slice A n c,.int .i64 room,.int .i64 fuse,.bool off,.int .i64 frm,.int .i64 seg,.int .i64 run,.slice B bn bc,.slice C cn cc,.bool down] 32)).alloc (.cells #[.slice none 0 0,.int .i64 0,.int .i64 0,.bool false,.int .i64 0,.int .i64 0,.int .i64 0,.slice none 0 0,.slice none 0 0,.bool false] 32))):=hid (Kc.two hk)
 clear hk
 simp only at KA KB KC hn hbn hcn
 go_enter Tryz.func49,Tryz.ntmps49
 go_upto_region 1 with (fail)
 generalize ((w.alloc (.cells #[.slice A n c,.int .i64 room,.int .i64 fuse,.bool off,.int .i64 frm,.int .i64 seg,.int .i64 run,.slice B bn bc,.slice C cn cc,.bool down] 32)).alloc (.cells #[.slice none 0 0,.int .i64 0,.int .i64 0,.bool false,.int .i64 0,.int .i64 0,.int .i64 0,.slice none 0 0,.slice none 0 0,.bool false] 32))=W at X ⊢
 obtain⟨e0,e1,e2,e3,e4,e5,e6,e7,e8,e9⟩:=kget X.out.kb.box
 obtain⟨f0,f1,f2,f3,f4,f5,f6,f7,f8,f9⟩:=kfree X.out.kb.box
 go_wp2_with fail
 refine(KA.out W X.out.q).mono ?_
 rintro e w2 ⟨A2,c2,rfl,ho,q2⟩
 have Y:=hid ((X.out.step q2).fileA (ho.dsk hn.out))
 clear e0 e1 e2 e3 e4 e5 e6 e7 e8 e9 f0 f1 f2 f3 f4 f5 f6 f7 f8 f9
 obtain⟨e0,e1,e2,e3,e4,e5,e6,e7,e8,e9⟩:=kget (X.out.step q2).kb.box
 obtain⟨f0,f1,f2,f3,f4,f5,f6,f7,f8,f9⟩:=kfree (X.out.step q2).kb.box
 clear X ho q2
 go_upto_region 2 with (fail)
 generalize w2.setCell ⟨w.heap.size,0,none⟩ (.slice A2 n c2)=W2 at Y ⊢
 clear e0 e1 e2 e3 e4 e5 e6 e7 e8 e9 f0 f1 f2 f3 f4 f5 f6 f7 f8 f9
 obtain⟨e0,e1,e2,e3,e4,e5,e6,e7,e8,e9⟩:=kget Y.out.kb.box
 obtain⟨f0,f1,f2,f3,f4,f5,f6,f7,f8,f9⟩:=kfree Y.out.kb.box
 go_wp2_with fail
 refine(KB.out W2 Y.out.q).mono ?_
 rintro e w3 ⟨B2,bc2,rfl,ho,q2⟩
 have Z:=hid ((Y.out.step q2).dataB (ho.in_ hbn.out))
 clear e0 e1 e2 e3 e4 e5 e6 e7 e8 e9 f0 f1 f2 f3 f4 f5 f6 f7 f8 f9
 obtain⟨e0,e1,e2,e3,e4,e5,e6,e7,e8,e9⟩:=kget (Y.out.step q2).kb.box
 obtain⟨f0,f1,f2,f3,f4,f5,f6,f7,f8,f9⟩:=kfree (Y.out.step q2).kb.box
 clear Y ho q2
 go_upto_region 3 with (fail)
 generalize w3.setCell ⟨w.heap.size,7,none⟩ (.slice B2 bn bc2)=W3 at Z ⊢
 clear e0 e1 e2 e3 e4 e5 e6 e7 e8 e9 f0 f1 f2 f3 f4 f5 f6 f7 f8 f9
 obtain⟨e0,e1,e2,e3,e4,e5,e6,e7,e8,e9⟩:=kget Z.out.kb.box
 obtain⟨f0,f1,f2,f3,f4,f5,f6,f7,f8,f9⟩:=kfree Z.out.kb.box
 go_wp2_with fail
 refine(KC.out W3 Z.out.q).mono ?_
 rintro e w4 ⟨C2,cc2,rfl,ho,q2⟩
 have V:=hid ((Z.out.step q2).toksC (ho.in_ hcn.out))
 clear e0 e1 e2 e3 e4 e5 e6 e7 e8 e9 f0 f1 f2 f3 f4 f5 f6 f7 f8 f9
 obtain⟨e0,e1,e2,e3,e4,e5,e6,e7,e8,e9⟩:=kget (Z.out.step q2).kb.box
 obtain⟨f0,f1,f2,f3,f4,f5,f6,f7,f8,f9⟩:=kfree (Z.out.step q2).kb.box
 clear Z ho q2
 go_upto_region 4 with (fail)
 generalize w4.setCell ⟨w.heap.size,8,none⟩ (.slice C2 cn cc2)=W4 at V ⊢
 clear e0 e1 e2 e3 e4 e5 e6 e7 e8 e9 f0 f1 f2 f3 f4 f5 f6 f7 f8 f9
 obtain⟨e0,e1,e2,e3,e4,e5,e6,e7,e8,e9⟩:=kget V.out.kb.box
 obtain⟨f0,f1,f2,f3,f4,f5,f6,f7,f8,f9⟩:=kfree V.out.kb.box
 have F:Hid (RetK1 w ⟨⟨l,room,fuse,off⟩,frm,seg,run,s,down⟩ (.returned (kvV ⟨A2,n,c2,B2,bn,bc2,C2,cn,cc2⟩ ⟨⟨l,room,fuse,off⟩,frm,seg,run,s,down⟩)) ((((((((((W4.setCell ⟨w.heap.size+1,0,none⟩ (.slice A2 n c2)).setCell ⟨w.heap.size+1,1,none⟩ (.int .i64 room)).setCell ⟨w.heap.size+1,2,none⟩ (.int .i64 fuse)).setCell ⟨w.heap.size+1,3,none⟩ (.bool off)).setCell ⟨w.heap.size+1,4,none⟩ (.int .i64 frm)).setCell ⟨w.heap.size+1,5,none⟩ (.int .i64 seg)).setCell ⟨w.heap.size+1,6,none⟩ (.int .i64 run)).setCell ⟨w.heap.size+1,7,none⟩ (.slice B2 bn bc2)).setCell ⟨w.heap.size+1,8,none⟩ (.slice C2 cn cc2)).setCell ⟨w.heap.size+1,9,none⟩ (.bool down))):=hid (V.out.fin1 V.out.kb.is)
 have R:Hid (Bx ((((((((((W4.setCell ⟨w.heap.size+1,0,none⟩ (.slice A2 n c2)).setCell ⟨w.heap.size+1,1,none⟩ (.int .i64 room)).setCell ⟨w.heap.size+1,2,none⟩ (.int .i64 fuse)).setCell ⟨w.heap.size+1,3,none⟩ (.bool off)).setCell ⟨w.heap.size+1,4,none⟩ (.int .i64 frm)).setCell ⟨w.heap.size+1,5,none⟩ (.int .i64 seg)).setCell ⟨w.heap.size+1,6,none⟩ (.int .i64 run)).setCell ⟨w.heap.size+1,7,none⟩ (.slice B2 bn bc2)).setCell ⟨w.heap.size+1,8,none⟩ (.slice C2 cn cc2)).setCell ⟨w.heap.size+1,9,none⟩ (.bool down)) (w.heap.size+1) (kL ⟨A2,n,c2,B2,bn,bc2,C2,cn,cc2⟩ ⟨⟨l,room,fuse,off⟩,frm,seg,run,s,down⟩)):=hid (V.out.boxR ⟨A2,n,c2,B2,bn,bc2,C2,cn,cc2⟩ ⟨⟨l,room,fuse,off⟩,frm,seg,run,s,down⟩)
 obtain⟨g0,g1,g2,g3,g4,g5,g6,g7,g8,g9⟩:=kfree V.out.res
 obtain⟨i0,i1,i2,i3,i4,i5,i6,i7,i8,i9⟩:=kget V.out.res
 have hz:=V.out.l
 clear V
 go_wp2
 obtain⟨r0,r1,r2,r3,r4,r5,r6,r7,r8,r9⟩:=kget R.out
 refine bodyPost_ret (v:=kvV ⟨A2,n,c2,B2,bn,bc2,C2,cn,cc2⟩ ⟨⟨l,room,fuse,off⟩,frm,seg,run,s,down⟩) (by simp[results,Tryz.results49,go_sem,r0,r1,r2,r3,r4,r5,r6,r7,r8,r9]) rfl ?_
 exact F.out
theorem answer_any (p:Kp)(x:Ks)(e:Int)(a b:Addr)(w:World)(hk:Kr w p x)(hT:Kt w a b):Calls Tryz.prog 47 #[kvV p x,errV a b e] w (RetK w (Ks.gon x e) [.int .i64 e]):=by
 have KI:=hid (fun W (q:Q w W)=>kis_any a b e W (hT.q q).sen)
 have KN:=hid (fun W (q:Q w W)=>knum_any (errV a b e) e W (er_wrong a b e) (hT.q q).typ)
 have HT:=hid hT
 obtain⟨A,n,c,B,bn,bc,C,cn,cc⟩:=p
 obtain⟨⟨l,room,fuse,off⟩,frm,seg,run,s,down⟩:=x
 have X:Hid (Kc w (w.heap.size+1) ⟨A,n,c,B,bn,bc,C,cn,cc⟩ ⟨⟨l,room,fuse,off⟩,frm,seg,run,s,down⟩ ((w.alloc (.cells #[.slice A n c,.int .i64 room,.int .i64 fuse,.bool off,.int .i64 frm,.int .i64 seg,.int .i64 run,.slice B bn bc,.slice C cn cc,.bool down] 32)).alloc (.cells #[.slice none 0 0,.int .i64 0,.int .i64 0,.bool false,.int .i64 0,.int .i64 0,.int .i64 0,.slice none 0 0,.slice none 0 0,.bool false] 32))):=hid (Kc.two hk)
 clear hk hT
 by_cases h6:e=6
 · subst h6
   rw[show Ks.gon ⟨⟨l,room,fuse,off⟩,frm,seg,run,s,down⟩ 6=⟨⟨l,room,fuse,off⟩,frm,seg,run,s,true⟩ from rfl]
   rw[decide_eq_true rfl] at KI
   generalize errV a b 6=ve at KI KN ⊢
   go_enter Tryz.func47,Tryz.ntmps47
   go_upto_region 1 with (fail)
   generalize ((w.alloc (.cells #[.slice A n c,.int .i64 room,.int .i64 fuse,.bool off,.int .i64 frm,.int .i64 seg,.int .i64 run,.slice B bn bc,.slice C cn cc,.bool down] 32)).alloc (.cells #[.slice none 0 0,.int .i64 0,.int .i64 0,.bool false,.int .i64 0,.int .i64 0,.int .i64 0,.slice none 0 0,.slice none 0 0,.bool false] 32))=W at X ⊢
   have hg:=(HT.out.q X.out.q).sen.ga
   go_wp2_with fail
   refine(KI.out W X.out.q).mono ?_
   rintro ev w2 ⟨rfl,q2⟩
   have Y:=hid (X.out.step q2)
   clear X q2
   obtain⟨e0,e1,e2,e3,e4,e5,e6,e7,e8,e9⟩:=kget Y.out.kb.box
   obtain⟨f0,f1,f2,f3,f4,f5,f6,f7,f8,f9⟩:=kfree Y.out.kb.box
   go_upto_region 3 with (fail)
   have Z:=hid (Y.out.gone true)
   generalize w2.setCell ⟨w.heap.size,9,none⟩ (.bool true)=W3 at Z ⊢
   clear Y e0 e1 e2 e3 e4 e5 e6 e7 e8 e9 f0 f1 f2 f3 f4 f5 f6 f7 f8 f9
   obtain⟨e0,e1,e2,e3,e4,e5,e6,e7,e8,e9⟩:=kget Z.out.kb.box
   obtain⟨f0,f1,f2,f3,f4,f5,f6,f7,f8,f9⟩:=kfree Z.out.kb.box
   go_region_held3 (fun w'=>w'.cell? ⟨w.heap.size,0,none⟩=some (.slice A n c)∧w'.cell? ⟨w.heap.size,1,none⟩=some (.int .i64 room)∧w'.cell? ⟨w.heap.size,2,none⟩=some (.int .i64 fuse)∧w'.cell? ⟨w.heap.size,3,none⟩=some (.bool off)∧w'.cell? ⟨w.heap.size,4,none⟩=some (.int .i64 frm)∧w'.cell? ⟨w.heap.size,5,none⟩=some (.int .i64 seg)∧w'.cell? ⟨w.heap.size,6,none⟩=some (.int .i64 run)∧w'.cell? ⟨w.heap.size,7,none⟩=some (.slice B bn bc)∧w'.cell? ⟨w.heap.size,8,none⟩=some (.slice C cn cc)∧w'.cell? ⟨w.heap.size,9,none⟩=some (.bool true))
     (first
       | go_keep
       | (go_split_ands
          (repeat' apply And.intro)<;>exact box_ ‹Q _ _› (by assumption)))
     (first
       | (go_at_call 30
          (with_reducible refine(KN.out _ (Z.out.q.trans (Q.refl _).drew)).mono ?_)
          rintro e w4 ⟨rfl,q4⟩
          have V:=hid (Z.out.step ((Q.refl _).drew.trans q4))
          obtain⟨g0,g1,g2,g3,g4,g5,g6,g7,g8,g9⟩:=kfree V.out.res
          obtain⟨i0,i1,i2,i3,i4,i5,i6,i7,i8,i9⟩:=kget V.out.res))
   have F:Hid (RetK w ⟨⟨l,room,fuse,off⟩,frm,seg,run,s,true⟩ [.int .i64 6] (.returned (.tuple #[kvV ⟨A,n,c,B,bn,bc,C,cn,cc⟩ ⟨⟨l,room,fuse,off⟩,frm,seg,run,s,true⟩,.int .i64 6])) ((((((((((w4.setCell ⟨w.heap.size+1,0,none⟩ (.slice A n c)).setCell ⟨w.heap.size+1,1,none⟩ (.int .i64 room)).setCell ⟨w.heap.size+1,2,none⟩ (.int .i64 fuse)).setCell ⟨w.heap.size+1,3,none⟩ (.bool off)).setCell ⟨w.heap.size+1,4,none⟩ (.int .i64 frm)).setCell ⟨w.heap.size+1,5,none⟩ (.int .i64 seg)).setCell ⟨w.heap.size+1,6,none⟩ (.int .i64 run)).setCell ⟨w.heap.size+1,7,none⟩ (.slice B bn bc)).setCell ⟨w.heap.size+1,8,none⟩ (.slice C cn cc)).setCell ⟨w.heap.size+1,9,none⟩ (.bool true))):=hid (V.out.fin V.out.kb.is [.int .i64 6])
   have R:Hid (Bx ((((((((((w4.setCell ⟨w.heap.size+1,0,none⟩ (.slice A n c)).setCell ⟨w.heap.size+1,1,none⟩ (.int .i64 room)).setCell ⟨w.heap.size+1,2,none⟩ (.int .i64 fuse)).setCell ⟨w.heap.size+1,3,none⟩ (.bool off)).setCell ⟨w.heap.size+1,4,none⟩ (.int .i64 frm)).setCell ⟨w.heap.size+1,5,none⟩ (.int .i64 seg)).setCell ⟨w.heap.size+1,6,none⟩ (.int .i64 run)).setCell ⟨w.heap.size+1,7,none⟩ (.slice B bn bc)).setCell ⟨w.heap.size+1,8,none⟩ (.slice C cn cc)).setCell ⟨w.heap.size+1,9,none⟩ (.bool true)) (w.heap.size+1) (kL ⟨A,n,c,B,bn,bc,C,cn,cc⟩ ⟨⟨l,room,fuse,off⟩,frm,seg,run,s,true⟩)):=hid (V.out.boxR ⟨A,n,c,B,bn,bc,C,cn,cc⟩ ⟨⟨l,room,fuse,off⟩,frm,seg,run,s,true⟩)
   clear V Z q4
   go_wp2
   obtain⟨r0,r1,r2,r3,r4,r5,r6,r7,r8,r9⟩:=kget R.out
   refine bodyPost_ret (v:=.tuple #[kvV ⟨A,n,c,B,bn,bc,C,cn,cc⟩ ⟨⟨l,room,fuse,off⟩,frm,seg,run,s,true⟩,.int .i64 6]) (by simp[results,Tryz.results47,go_sem,r0,r1,r2,r3,r4,r5,r6,r7,r8,r9]) rfl ?_
   exact F.out
 · rw [show Ks.gon ⟨⟨l,room,fuse,off⟩,frm,seg,run,s,down⟩ e=⟨⟨l,room,fuse,off⟩,frm,seg,run,s,down⟩ by unfold Ks.gon;rw[if_neg h6]]
   rw[decide_eq_false h6] at KI
   generalize errV a b e=ve at KI KN ⊢
   clear h6
   go_enter Tryz.func47,Tryz.ntmps47
   go_upto_region 1 with (fail)
   generalize ((w.alloc (.cells #[.slice A n c,.int .i64 room,.int .i64 fuse,.bool off,.int .i64 frm,.int .i64 seg,.int .i64 run,.slice B bn bc,.slice C cn cc,.bool down] 32)).alloc (.cells #[.slice none 0 0,.int .i64 0,.int .i64 0,.bool false,.int .i64 0,.int .i64 0,.int .i64 0,.slice none 0 0,.slice none 0 0,.bool false] 32))=W at X ⊢
   have hg:=(HT.out.q X.out.q).sen.ga
   go_wp2_with fail
   refine(KI.out W X.out.q).mono ?_
   rintro ev w2 ⟨rfl,q2⟩
   have Y:=hid (X.out.step q2)
   clear X q2
   obtain⟨e0,e1,e2,e3,e4,e5,e6,e7,e8,e9⟩:=kget Y.out.kb.box
   obtain⟨f0,f1,f2,f3,f4,f5,f6,f7,f8,f9⟩:=kfree Y.out.kb.box
   go_upto_region 3 with (fail)
   have Z:=Y
   clear Y
   go_region_held3 (fun w'=>w'.cell? ⟨w.heap.size,0,none⟩=some (.slice A n c)∧w'.cell? ⟨w.heap.size,1,none⟩=some (.int .i64 room)∧w'.cell? ⟨w.heap.size,2,none⟩=some (.int .i64 fuse)∧w'.cell? ⟨w.heap.size,3,none⟩=some (.bool off)∧w'.cell? ⟨w.heap.size,4,none⟩=some (.int .i64 frm)∧w'.cell? ⟨w.heap.size,5,none⟩=some (.int .i64 seg)∧w'.cell? ⟨w.heap.size,6,none⟩=some (.int .i64 run)∧w'.cell? ⟨w.heap.size,7,none⟩=some (.slice B bn bc)∧w'.cell? ⟨w.heap.size,8,none⟩=some (.slice C cn cc)∧w'.cell? ⟨w.heap.size,9,none⟩=some (.bool down))
     (first
       | go_keep
       | (go_split_ands
          (repeat' apply And.intro)<;>exact box_ ‹Q _ _› (by assumption)))
     (first
       | (go_at_call 30
          (with_reducible refine(KN.out _ (Z.out.q.trans (Q.refl _).drew)).mono ?_)
          rintro e w4 ⟨rfl,q4⟩
          have V:=hid (Z.out.step ((Q.refl _).drew.trans q4))
          obtain⟨g0,g1,g2,g3,g4,g5,g6,g7,g8,g9⟩:=kfree V.out.res
          obtain⟨i0,i1,i2,i3,i4,i5,i6,i7,i8,i9⟩:=kget V.out.res))
   have F:Hid (RetK w ⟨⟨l,room,fuse,off⟩,frm,seg,run,s,down⟩ [.int .i64 e] (.returned (.tuple #[kvV ⟨A,n,c,B,bn,bc,C,cn,cc⟩ ⟨⟨l,room,fuse,off⟩,frm,seg,run,s,down⟩,.int .i64 e])) ((((((((((w4.setCell ⟨w.heap.size+1,0,none⟩ (.slice A n c)).setCell ⟨w.heap.size+1,1,none⟩ (.int .i64 room)).setCell ⟨w.heap.size+1,2,none⟩ (.int .i64 fuse)).setCell ⟨w.heap.size+1,3,none⟩ (.bool off)).setCell ⟨w.heap.size+1,4,none⟩ (.int .i64 frm)).setCell ⟨w.heap.size+1,5,none⟩ (.int .i64 seg)).setCell ⟨w.heap.size+1,6,none⟩ (.int .i64 run)).setCell ⟨w.heap.size+1,7,none⟩ (.slice B bn bc)).setCell ⟨w.heap.size+1,8,none⟩ (.slice C cn cc)).setCell ⟨w.heap.size+1,9,none⟩ (.bool down))):=hid (V.out.fin V.out.kb.is [.int .i64 e])
   have R:Hid (Bx ((((((((((w4.setCell ⟨w.heap.size+1,0,none⟩ (.slice A n c)).setCell ⟨w.heap.size+1,1,none⟩ (.int .i64 room)).setCell ⟨w.heap.size+1,2,none⟩ (.int .i64 fuse)).setCell ⟨w.heap.size+1,3,none⟩ (.bool off)).setCell ⟨w.heap.size+1,4,none⟩ (.int .i64 frm)).setCell ⟨w.heap.size+1,5,none⟩ (.int .i64 seg)).setCell ⟨w.heap.size+1,6,none⟩ (.int .i64 run)).setCell ⟨w.heap.size+1,7,none⟩ (.slice B bn bc)).setCell ⟨w.heap.size+1,8,none⟩ (.slice C cn cc)).setCell ⟨w.heap.size+1,9,none⟩ (.bool down)) (w.heap.size+1) (kL ⟨A,n,c,B,bn,bc,C,cn,cc⟩ ⟨⟨l,room,fuse,off⟩,frm,seg,run,s,down⟩)):=hid (V.out.boxR ⟨A,n,c,B,bn,bc,C,cn,cc⟩ ⟨⟨l,room,fuse,off⟩,frm,seg,run,s,down⟩)
   clear V Z q4
   go_wp2
   obtain⟨r0,r1,r2,r3,r4,r5,r6,r7,r8,r9⟩:=kget R.out
   refine bodyPost_ret (v:=.tuple #[kvV ⟨A,n,c,B,bn,bc,C,cn,cc⟩ ⟨⟨l,room,fuse,off⟩,frm,seg,run,s,down⟩,.int .i64 e]) (by simp[results,Tryz.results47,go_sem,r0,r1,r2,r3,r4,r5,r6,r7,r8,r9]) rfl ?_
   exact F.out
end
section
open Go.RowKit Dkm Prm Km Wm
def RetO (w:World)(y:Ks×Int)(e:Ending)(w':World):Prop:=
 ∃ p x v,e=.returned (.tuple #[kvV p x,v])∧Kr w' p x∧Q w w'∧Ev v y.2∧(y.2=0→x=y.1)
def RetL2 (w:World)(s:Bm.Sta)(e:Ending)(w':World):Prop:=
 ∃ A n c B m d,e=.returned (.tuple #[staV A n c B m d,.nilIface])∧In_ pairK w' A n c s.data∧In_ pairK w' B m d s.toks∧Q w w'
structure Po (w:World) (A:Option Addr) (n c:Nat) (d:Dk) (wi:World):Prop where
 db:Bx wi w.heap.size [.slice A n c,.int .i64 d.room,.int .i64 d.fuse,.bool d.off]
 res:Bx wi (w.heap.size+1) (kL p0 ks0)
 dsk:Dsk wi A n c d.fs
 q:Q w wi
theorem nt4 (A:Option Addr)(n c:Nat)(d:Dk):∀ v∈[Value.slice A n c,.int .i64 d.room,.int .i64 d.fuse,.bool d.off],NT v:=by
 intro v hv
 simp only[List.mem_cons,List.not_mem_nil,or_false] at hv
 rcases hv with rfl | rfl | rfl | rfl<;>exact fun s e=>by cases e
theorem us4_ok (A:Option Addr)(n c:Nat)(d:Dk)(x y z t:Value):∀ u∈[(0,Value.slice A n c),(1,.int .i64 d.room),(2,.int .i64 d.fuse),(3,.bool d.off)],u.1 < [x,y,z,t].length∧NT u.2:=by
 intro u hu
 simp only[List.mem_cons,List.not_mem_nil,or_false] at hu
 rcases hu with rfl | rfl | rfl | rfl<;>exact⟨by simp,fun s e=>by cases e⟩
section
variable {w wi wj:World} {A A' B B' C C':Option Addr} {n c n' c' bn bc cn cc bn' bc' cn' cc':Nat} {d d':Dk} {s s':Bm.Sta} {g:Nat}
theorem Po.new (h:Dsk w A n c d.fs):Po w A n c d ((w.alloc (.cells #[.slice A n c,.int .i64 d.room,.int .i64 d.fuse,.bool d.off] 24)).alloc (.cells (kL p0 ks0).toArray 32)):=by
 refine⟨(Bx.new w [.slice A n c,.int .i64 d.room,.int .i64 d.fuse,.bool d.off] 24).alloc _,?_,h.q (((Q.refl w).alloc _).alloc _),((Q.refl w).alloc _).alloc _⟩
 have:=Bx.new (w.alloc (.cells #[.slice A n c,.int .i64 d.room,.int .i64 d.fuse,.bool d.off] 24)) (kL p0 ks0) 32
 rw[show (w.alloc (.cells #[.slice A n c,.int .i64 d.room,.int .i64 d.fuse,.bool d.off] 24)).heap.size=w.heap.size+1 by simp] at this
 exact this
theorem Po.step (h:Po w A n c d wi)(q:Q wi wj):Po w A n c d wj:=⟨h.db.q q,h.res.q q,h.dsk.q q,h.q.trans q⟩
theorem Po.l (h:Po w A n c d wi):w.heap.size+1<wi.heap.size:=h.res.lt
structure Ps (w:World) (A:Option Addr) (n c:Nat) (d:Dk) (g:Nat) (B:Option Addr) (bn bc:Nat) (C:Option Addr) (cn cc:Nat) (s:Bm.Sta) (wi:World):Prop where
 po:Po w A n c d wi
 sb:Bx wi g [.slice B bn bc,.slice C cn cc]
 gt:w.heap.size+1<g
 data:In_ pairK wi B bn bc s.data
 toks:In_ pairK wi C cn cc s.toks
theorem Ps.new (h:Po w A n c d wi)(hB:In_ pairK wi B bn bc s.data)(hC:In_ pairK wi C cn cc s.toks):Ps w A n c d wi.heap.size B bn bc C cn cc s (wi.alloc (.cells #[.slice B bn bc,.slice C cn cc] 30)):=
 ⟨h.step ((Q.refl _).alloc _),Bx.new wi [.slice B bn bc,.slice C cn cc] 30,h.l,hB.q ((Q.refl _).alloc _),hC.q ((Q.refl _).alloc _)⟩
theorem Ps.step (h:Ps w A n c d g B bn bc C cn cc s wi)(q:Q wi wj):Ps w A n c d g B bn bc C cn cc s wj:=⟨h.po.step q,h.sb.q q,h.gt,h.data.q q,h.toks.q q⟩
theorem Ps.disk (h:Ps w A n c d g B bn bc C cn cc s wi)(hd:Dsk wi A' n' c' d'.fs) :
  Ps w A' n' c' d' g B bn bc C cn cc s ((((wi.setCell ⟨w.heap.size,0,none⟩ (.slice A' n' c')).setCell ⟨w.heap.size,1,none⟩ (.int .i64 d'.room)).setCell ⟨w.heap.size,2,none⟩ (.int .i64 d'.fuse)).setCell ⟨w.heap.size,3,none⟩ (.bool d'.off)):=by
 have hb:=bx_stk [(0,Value.slice A' n' c'),(1,.int .i64 d'.room),(2,.int .i64 d'.fuse),(3,.bool d'.off)] h.po.db (fun u hu=>(us4_ok A' n' c' d' _ _ _ _ u hu).1)
 have hok:=us4_ok A' n' c' d' (Value.slice A n c) (.int .i64 d.room) (.int .i64 d.fuse) (.bool d.off)
 have h1:=hd.stk h.po.db (nt4 _ _ _ _) _ hok
 have h2:=h.data.stk h.po.db (nt4 _ _ _ _) _ hok
 have h3:=h.toks.stk h.po.db (nt4 _ _ _ _) _ hok
 have hg:=h.gt
 exact⟨⟨hb,h.po.res.far_stk (by omega) [(0,Value.slice A' n' c'),(1,.int .i64 d'.room),(2,.int .i64 d'.fuse),(3,.bool d'.off)],h1,Q.stk (Nat.le_refl _) [(0,Value.slice A' n' c'),(1,.int .i64 d'.room),(2,.int .i64 d'.fuse),(3,.bool d'.off)] h.po.q⟩,h.sb.far_stk (by omega) [(0,Value.slice A' n' c'),(1,.int .i64 d'.room),(2,.int .i64 d'.fuse),(3,.bool d'.off)],h.gt,h2,h3⟩
theorem Ps.set (h:Ps w A n c d g B bn bc C cn cc s wi)(hB:In_ pairK wi B' bn' bc' s'.data)(hC:In_ pairK wi C' cn' cc' s'.toks) :
  Ps w A n c d g B' bn' bc' C' cn' cc' s' ((wi.setCell ⟨g,0,none⟩ (.slice B' bn' bc')).setCell ⟨g,1,none⟩ (.slice C' cn' cc')):=by
 have hok:=us2_ok B' bn' bc' C' cn' cc' (Value.slice B bn bc) (.slice C cn cc)
 have h1:=h.po.dsk.stk h.sb (nt2 _ _ _ _ _ _) _ hok
 have h2:=hB.stk h.sb (nt2 _ _ _ _ _ _) _ hok
 have h3:=hC.stk h.sb (nt2 _ _ _ _ _ _) _ hok
 have hg:=h.gt
 exact⟨⟨h.po.db.far_stk (by omega) [(0,Value.slice B' bn' bc'),(1,.slice C' cn' cc')],h.po.res.far_stk (by omega) [(0,Value.slice B' bn' bc'),(1,.slice C' cn' cc')],h1,h.po.q.set2 (by omega) _ _⟩,h.sb.set2 _ _,h.gt,h2,h3⟩
theorem Po.fin (h:Po w A n c d wi){p:Kp}{x:Ks}(hk:Kr wi p x):Bx (stk wi (w.heap.size+1) (us10 p x)) (w.heap.size+1) (kL p x)∧Kr (stk wi (w.heap.size+1) (us10 p x)) p x∧Q w (stk wi (w.heap.size+1) (us10 p x)):=
 ⟨(Kb.whole (q:=p0) (y:=ks0) h.res hk).box,(Kb.whole (q:=p0) (y:=ks0) h.res hk).is,Q.stk (Nat.le_succ _) _ h.q⟩
end
theorem kbegin_no (A:Option Addr)(n c:Nat)(d:Dk)(w:World)(hd:Dsk w A n c d.fs)(hs:∀ f∈d.fs,f.sf.size+f.wt.size≤maxLen)(hm:(redd mB d.fs).2≠0) :
  Calls Tryz.prog 68 #[dkv A n c d.room d.fuse d.off] w fun e w'=>e=.returned (.tuple #[.int .i64 1,.int .i64 0,.nilIface])∧Q w w':=by
 have HR:=hid (fun W (h:Files W A n d.fs)=>read_any ⟨#[109]⟩ A n c d.room d.fuse d.off d.fs W h hd.max hs)
 have hm:(redd ⟨#[109]⟩ d.fs).2≠0:=hm
 have her:(redd ⟨#[109]⟩ d.fs).2=0∨(redd ⟨#[109]⟩ d.fs).2=7:=by unfold redd;split<;>simp
 generalize redd ⟨#[109]⟩ d.fs=x at HR hm her
 obtain⟨s,er⟩:=x
 simp only at hm her HR
 have HD:=hid hd
 obtain rfl:er=7:=by omega
 clear hd hs hm her
 go_enter Tryz.func68,Tryz.ntmps68
 go_wp2_with fail
 refine(HR.out _ (HD.out.files.q ((Q.refl _).alloc _))).mono ?_
 rintro e w1 ⟨rfl,q1⟩
 have Q1:=hid (((Q.refl _).alloc _).trans q1)
 clear q1
 go_wp2
 refine bodyPost_ret (v:=.tuple #[.int .i64 1,.int .i64 0,.nilIface]) (by simp[results,Tryz.results68,go_sem]) rfl ?_
 exact⟨rfl,Q1.out⟩
theorem kload_zero (A:Option Addr)(n c:Nat)(d:Dk)(w:World) :
  Calls Tryz.prog 69 #[dkv A n c d.room d.fuse d.off,.int .i64 0] w (RetL2 w ⟨[],[]⟩):=by
 have B:=hid ((Bx.new (w.alloc (.cells #[.slice A n c,.int .i64 d.room,.int .i64 d.fuse,.bool d.off] 24)) [.slice none 0 0,.slice none 0 0] 30))
 have QA:=hid (((Q.refl w).alloc (.cells #[.slice A n c,.int .i64 d.room,.int .i64 d.fuse,.bool d.off] 24)).alloc (.cells #[.slice none 0 0,.slice none 0 0] 30))
 rw[show (w.alloc (.cells #[.slice A n c,.int .i64 d.room,.int .i64 d.fuse,.bool d.off] 24)).heap.size=w.heap.size+1 by simp] at B
 go_enter Tryz.func69,Tryz.ntmps69
 go_upto_region 1 with (fail)
 generalize (w.alloc (.cells #[.slice A n c,.int .i64 d.room,.int .i64 d.fuse,.bool d.off] 24)).alloc (.cells #[.slice none 0 0,.slice none 0 0] 30)=W at B QA ⊢
 obtain⟨⟨e0,e1⟩,f0,f1⟩:=B.out.get2
 go_wp2
 obtain⟨⟨r0,r1⟩,_⟩:=(B.out.set2 (.slice none 0 0) (.slice none 0 0)).get2
 refine bodyPost_ret (v:=.tuple #[staV none 0 0 none 0 0,.nilIface]) (by simp[results,Tryz.results69,go_sem,r0,r1]) rfl ?_
 exact⟨none,0,0,none,0,0,rfl,In_.none_ _ _,In_.none_ _ _,QA.out.set2 (Nat.le_succ _) _ _⟩
end
end Go.Proofs.YtccoknaaofmbcaaGreatDoor
