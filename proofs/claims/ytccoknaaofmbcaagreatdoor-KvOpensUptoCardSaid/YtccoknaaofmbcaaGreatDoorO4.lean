/- DiskDoes, DiskDoes2, DiskInv, WalDisk, PairMath, TableMath, RunMath, BatchMath, DiskRef, DiskRef2, DiskRef3, DiskSv, DiskRef4, DiskRef7: merged. -/
import Derived.Test.YtccoknaaofmbcaaGreatDoorO3
import Derived.Test.YtccoknaaofmbcaaGreatDoorO1
set_option linter.unusedVariables false
set_option linter.unusedSimpArgs false
set_option maxRecDepth 100000
set_option maxHeartbeats 16000000
open Go.Lib (hid)
namespace Go.Proofs.YtccoknaaofmbcaaGreatDoor
section
open Go.RowKit Dkm
namespace Dkm
theorem lss_len (d:Dk)(k:Nat):(lss d k).fs.length≤d.fs.length:=by unfold lss;simp[List.length_eraseIdx];split<;>omega
theorem pow_fs (d:Dk):(pow d).1.fs=d.fs:=by unfold pow;split;rfl;split<;>rfl
theorem del_len (d:Dk)(nm:ByteArray):(del d nm).1.fs.length≤d.fs.length:=by
 unfold del
 split;exact Nat.le_refl _
 split;exact Nat.le_refl _
 split
 · rw[pow_fs];exact Nat.le_refl _
 · exact Nat.le_trans (lss_len _ _) (by rw[pow_fs];exact Nat.le_refl _)
theorem nmd_len (d:Dk)(k:Nat)(to:ByteArray):(nmd d k to).fs.length=d.fs.length:=by unfold nmd;simp
theorem ren_len (d:Dk)(fr to:ByteArray):(ren d fr to).1.fs.length≤d.fs.length:=by
 unfold ren
 split;exact Nat.le_refl _
 split;exact Nat.le_refl _
 split;exact Nat.le_refl _
 split;exact Nat.le_refl _
 split
 · rw[pow_fs];exact Nat.le_refl _
 split
 · exact Nat.le_trans (lss_len _ _) (by rw[nmd_len,pow_fs];exact Nat.le_refl _)
 · rw[nmd_len,pow_fs];exact Nat.le_refl _
theorem appd_few (d:Dk)(nm s:ByteArray):(appd d nm s).1.fs.length≤max d.fs.length 64:=by
 have h:=appd_len d nm s
 by_cases h1:d.fs.length<64
 · omega
 · unfold appd
   split;exact Nat.le_max_left _ _
   split;exact Nat.le_max_left _ _
   split;exact Nat.le_max_left _ _
   split;exact Nat.le_max_left _ _
   rename_i _ _ h3 _
   show (put _ _ _).length≤_
   unfold put
   split
   · exact absurd (Or.inl ⟨by assumption,by omega⟩) h3
   · simp only[List.length_set];exact Nat.le_max_left _ _
end Dkm
theorem Own.far_ {w:World}{base:Nat}{A:Option Addr}{n c:Nat}{l:List Fil}(h:Own w base A n c l):∀ ad,A=some ad→base≤ad.block:=by
 intro ad e
 rcases h.parts with ⟨rfl,_⟩ | ⟨g,cur,rfl,hb,_⟩
 · cases e
 · injection e with e;subst e;exact hb
theorem Holds.away {w:World}{B k:Nat}{A:Option Addr}{n:Nat}{xs:List Value}(h:Holds w B k A n xs){b:Nat}(ha:∀ ad,A=some ad→ad.block≠b)(o:Nat)(u:Value):Holds (w.setCell ⟨b,o,none⟩ u) B k A n xs:=
 ⟨h.1,fun j v hj=>by
   obtain⟨ad,e,hb,hc⟩:=h.2 j v hj
   exact⟨ad,e,hb,(World.cell?_setCell_other _ _ _ _ (by intro x;have:=congrArg Addr.block x;rw[addr_block] at this;exact ha ad e this.symm)).trans hc⟩⟩
theorem Dsk.away {w:World}{A:Option Addr}{n c:Nat}{l:List Fil}(h:Dsk w A n c l){b:Nat}(ha:∀ ad,A=some ad→ad.block≠b)(o:Nat)(u:Value):Dsk (w.setCell ⟨b,o,none⟩ u) A n c l:=
 ⟨by have:=Holds.away h.files ha o u;rw[show w.heap.size=(w.setCell ⟨b,o,none⟩ u).heap.size by simp[World.setCell]] at this;exact this,h.nil,h.le,h.cap,h.few⟩
end
section
open Go.RowKit Dkm
end
section
open Go.RowKit Dkm
namespace Dkm
theorem erase_sum {B:Nat}{l:List Fil}(h:∀ f∈l,f.sf.size+f.wt.size≤B)(k:Nat):∀ f∈l.eraseIdx k,f.sf.size+f.wt.size≤B:=fun f hf=>h f (List.mem_of_mem_eraseIdx hf)
theorem lss_sum {B:Nat}(d:Dk)(k:Nat)(h:∀ f∈d.fs,f.sf.size+f.wt.size≤B):∀ f∈(lss d k).fs,f.sf.size+f.wt.size≤B:=erase_sum h k
theorem nmd_sum {B:Nat}(d:Dk)(k:Nat)(to:ByteArray)(h:∀ f∈d.fs,f.sf.size+f.wt.size≤B):∀ f∈(nmd d k to).fs,f.sf.size+f.wt.size≤B:=by
 unfold nmd
 by_cases hk:k<d.fs.length
 · refine set_sum h ?_
   simp only[List.getD_eq_getElem?_getD,List.getElem?_eq_getElem hk,Option.getD_some]
   exact h _ (List.getElem_mem hk)
 · show ∀ f∈d.fs.set k _,_
   rw[List.set_eq_of_length_le (by omega)];exact h
theorem pow_sum {B:Nat}(d:Dk)(h:∀ f∈d.fs,f.sf.size+f.wt.size≤B):∀ f∈(pow d).1.fs,f.sf.size+f.wt.size≤B:=by rw[pow_fs];exact h
theorem del_sum {B:Nat}(d:Dk)(nm:ByteArray)(h:∀ f∈d.fs,f.sf.size+f.wt.size≤B):∀ f∈(del d nm).1.fs,f.sf.size+f.wt.size≤B:=by
 unfold del
 split;exact h
 split;exact h
 split;exact pow_sum d h
 exact lss_sum _ _ (pow_sum d h)
theorem ren_sum {B:Nat}(d:Dk)(fr to:ByteArray)(h:∀ f∈d.fs,f.sf.size+f.wt.size≤B):∀ f∈(ren d fr to).1.fs,f.sf.size+f.wt.size≤B:=by
 unfold ren
 split;exact h
 split;exact h
 split;exact h
 split;exact h
 split;exact pow_sum d h
 split
 · exact lss_sum _ _ (nmd_sum _ _ _ (pow_sum d h))
 · exact nmd_sum _ _ _ (pow_sum d h)
def In64 (x:Int):Prop:=-9223372036854775808≤x∧x≤9223372036854775807
theorem appd_rng (d:Dk)(nm s:ByteArray)(h1:In64 d.room)(h2:In64 d.fuse):In64 (appd d nm s).1.room∧In64 (appd d nm s).1.fuse:=by
 unfold appd
 split;exact⟨h1,h2⟩
 split;exact⟨h1,h2⟩
 split;exact⟨h1,h2⟩
 split;exact⟨h1,h2⟩
 rename_i _ _ h3 _
 have hc:=cut_size d.fuse s
 unfold In64 at *
 have h4:¬ d.room<s.size:=fun h=>h3 (.inr h)
 have h5:0≤d.fuse→(cut d.fuse s).size≤d.fuse.toNat∨¬ short d.fuse s:=by
  intro h0
  by_cases hsh:short d.fuse s
  · left;unfold cut;rw[if_pos hsh,ByteArray.size_extract];omega
  · exact .inr hsh
 have h6:0≤d.fuse→((cut d.fuse s).size:Int)≤d.fuse:=by
  intro h0
  rcases h5 h0 with h | h
  · omega
  · unfold cut;rw[if_neg h]
    unfold short at h
    simp only[decide_eq_true_eq] at h
    omega
 simp only
 refine⟨by omega,?_⟩
 split
 · have:=h6 (by assumption);omega
 · exact h2
theorem pow_rng (d:Dk)(h1:In64 d.room)(h2:In64 d.fuse):In64 (pow d).1.room∧In64 (pow d).1.fuse:=by
 unfold pow
 split;exact⟨h1,h2⟩
 split
 · exact⟨h1,by unfold In64 at *;simp only;omega⟩
 · exact⟨h1,h2⟩
theorem lss_rng (d:Dk)(k:Nat)(h2:In64 d.fuse):In64 (lss d k).room∧In64 (lss d k).fuse:=⟨wrap_rng _,h2⟩
theorem del_rng (d:Dk)(nm:ByteArray)(h1:In64 d.room)(h2:In64 d.fuse):In64 (del d nm).1.room∧In64 (del d nm).1.fuse:=by
 have hp:=pow_rng d h1 h2
 unfold del
 split;exact⟨h1,h2⟩
 split;exact⟨h1,h2⟩
 split;exact hp
 exact lss_rng _ _ hp.2
theorem ren_rng (d:Dk)(fr to:ByteArray)(h1:In64 d.room)(h2:In64 d.fuse):In64 (ren d fr to).1.room∧In64 (ren d fr to).1.fuse:=by
 have hp:=pow_rng d h1 h2
 unfold ren
 split;exact⟨h1,h2⟩
 split;exact⟨h1,h2⟩
 split;exact⟨h1,h2⟩
 split;exact⟨h1,h2⟩
 split;exact hp
 split
 · exact lss_rng _ _ hp.2
 · exact hp
theorem syn_rng (d:Dk)(nm:ByteArray)(h1:In64 d.room)(h2:In64 d.fuse):In64 (syn d nm).1.room∧In64 (syn d nm).1.fuse:=by
 unfold syn
 split;exact⟨h1,h2⟩
 split<;>exact⟨h1,h2⟩
theorem croom_in (ks:List Int)(l:List Fil)(room:Int)(h:In64 room):∀ k,In64 (croom ks l room k)
 | 0=>h
 | k+1=>wrap_rng _
end Dkm
end
section
open Dkm
namespace Wm
def sealB (r:ByteArray):ByteArray:=⟨(sld r.data.toList).toArray⟩
theorem sealB_list (r:ByteArray):(sealB r).data.toList=sld r.data.toList:=rfl
theorem sealB_size (r:ByteArray):(sealB r).size=(sld r.data.toList).length:=by show (sld r.data.toList).toArray.size=_;simp
def putA (d:Dk)(seg:Int)(rec:ByteArray):Dk×Int×Int:=((appd d (namB seg) (sealB rec)).1,seg,(appd d (namB seg) (sealB rec)).2)
def putB (d:Dk)(seg:Int)(rec:ByteArray):Dk×Int×Int:=
 if (redd (namB seg) d.fs).1.size<256 then putA d seg rec
 else if (syn d (namB seg)).2≠0 then ((syn d (namB seg)).1,seg,(syn d (namB seg)).2)
 else if seg=1000000 then ((syn d (namB seg)).1,seg,5)
 else putA (syn d (namB seg)).1 (seg+1) rec
def putM (d:Dk)(seg:Int)(rec:ByteArray):Dk×Int×Int:=
 if ¬ segOk seg then (d,seg,1) else if 2048<rec.size then (d,seg,4) else putB d seg rec
def syncM (d:Dk)(seg:Int):Dk×Int:=if (hit (namB seg) d.fs).2 then syn d (namB seg) else (d,0)
def cut1 (d:Dk):Dk×Int:=if (hit freshB d.fs).2 then del d freshB else (d,0)
def cut2 (d:Dk)(s:ByteArray):Dk×Int:=if (cut1 d).2=0 then appd (cut1 d).1 freshB s else cut1 d
def cut3 (d:Dk)(s:ByteArray):Dk×Int:=if (cut2 d s).2=0 then syn (cut2 d s).1 freshB else cut2 d s
def cut4 (d:Dk)(seg:Int)(s:ByteArray):Dk×Int:=if (cut3 d s).2=0 then ren (cut3 d s).1 freshB (namB seg) else cut3 d s
def dels:Nat→Dk→Int→Dk×Int
 | 0,d,_=>(d,0)
 | n+1,d,seg=>if segOk seg∧(hit (namB seg) d.fs).2 then (if (del d (namB seg)).2=0 then dels n (del d (namB seg)).1 (seg+1) else del d (namB seg)) else (d,0)
def fuelOf (seg:Int):Nat:=(1000001 - seg).toNat
def cutM (d:Dk)(seg:Int)(s:ByteArray):Dk×Int:=
 if (cut4 d seg s).2=0 then dels (fuelOf (seg+1)) (cut4 d seg s).1 (seg+1) else cut4 d seg s
def recF:Nat→Dk→Int→Int→List (List UInt8)→Int→Dk×List (List UInt8)×Int×Int
 | 0,d,_,_,rs,last=>(d,rs,last,0)
 | n+1,d,from_,seg,rs,last =>
   if ¬ segOk seg then (d,rs,last,0)
   else if (redd (namB seg) d.fs).2≠0 then (d,rs,last,0)
   else if (scn (redd (namB seg) d.fs).1.data.toList).2=[] then recF n d from_ (seg+1) (rs++(scn (redd (namB seg) d.fs).1.data.toList).1) seg
   else if (cutM d seg ⟨(flat (scn (redd (namB seg) d.fs).1.data.toList).1).toArray⟩).2≠0 then ((cutM d seg ⟨(flat (scn (redd (namB seg) d.fs).1.data.toList).1).toArray⟩).1,[],from_,(cutM d seg ⟨(flat (scn (redd (namB seg) d.fs).1.data.toList).1).toArray⟩).2)
   else ((cutM d seg ⟨(flat (scn (redd (namB seg) d.fs).1.data.toList).1).toArray⟩).1,rs++(scn (redd (namB seg) d.fs).1.data.toList).1,seg,0)
def recM (d:Dk)(from_:Int):Dk×List (List UInt8)×Int×Int:=
 if ¬ segOk from_ then (d,[],from_,1) else recF (fuelOf from_) d from_ from_ [] from_
structure Bnd (B:Nat) (d:Dk):Prop where
 sum:∀ f∈d.fs,f.sf.size+f.wt.size≤B
 few:d.fs.length*48≤140737488355328
 room:In64 d.room
 fuse:In64 d.fuse
theorem Bnd.appd {B:Nat}{d:Dk}(h:Bnd B d)(hB:65536≤B)(nm s:ByteArray):Bnd B (appd d nm s).1:=⟨appd_sum d nm s hB h.sum,by have h1:=appd_few d nm s;have h2:=h.few;omega,(appd_rng d nm s h.room h.fuse).1,(appd_rng d nm s h.room h.fuse).2⟩
theorem Bnd.syn {B:Nat}{d:Dk}(h:Bnd B d)(nm:ByteArray):Bnd B (syn d nm).1:=⟨syn_sum d nm h.sum,by rw[syn_len];exact h.few,(syn_rng d nm h.room h.fuse).1,(syn_rng d nm h.room h.fuse).2⟩
theorem Bnd.del {B:Nat}{d:Dk}(h:Bnd B d)(nm:ByteArray):Bnd B (del d nm).1:=⟨del_sum d nm h.sum,by have h1:=del_len d nm;have h2:=h.few;omega,(del_rng d nm h.room h.fuse).1,(del_rng d nm h.room h.fuse).2⟩
theorem Bnd.ren {B:Nat}{d:Dk}(h:Bnd B d)(a b:ByteArray):Bnd B (ren d a b).1:=⟨ren_sum d a b h.sum,by have h1:=ren_len d a b;have h2:=h.few;omega,(ren_rng d a b h.room h.fuse).1,(ren_rng d a b h.room h.fuse).2⟩
theorem Bnd.cut1 {B:Nat}{d:Dk}(h:Bnd B d):Bnd B (cut1 d).1:=by unfold Wm.cut1;split;exact h.del _;exact h
theorem Bnd.cut2 {B:Nat}{d:Dk}(h:Bnd B d)(hB:65536≤B)(s:ByteArray):Bnd B (cut2 d s).1:=by unfold Wm.cut2;split;exact h.cut1.appd hB _ _;exact h.cut1
theorem Bnd.cut3 {B:Nat}{d:Dk}(h:Bnd B d)(hB:65536≤B)(s:ByteArray):Bnd B (cut3 d s).1:=by unfold Wm.cut3;split;exact(h.cut2 hB s).syn _;exact h.cut2 hB s
theorem Bnd.cut4 {B:Nat}{d:Dk}(h:Bnd B d)(hB:65536≤B)(seg:Int)(s:ByteArray):Bnd B (cut4 d seg s).1:=by unfold Wm.cut4;split;exact(h.cut3 hB s).ren _ _;exact h.cut3 hB s
theorem Bnd.putA {B:Nat}{d:Dk}(h:Bnd B d)(hB:65536≤B)(seg:Int)(r:ByteArray):Bnd B (putA d seg r).1:=h.appd hB _ _
theorem Bnd.putM {B:Nat}{d:Dk}(h:Bnd B d)(hB:65536≤B)(seg:Int)(r:ByteArray):Bnd B (putM d seg r).1:=by
 unfold Wm.putM
 split;exact h
 split;exact h
 unfold Wm.putB
 split;exact h.putA hB _ _
 split;exact h.syn _
 split;exact h.syn _
 exact(h.syn _).putA hB _ _
theorem Bnd.syncM {B:Nat}{d:Dk}(h:Bnd B d)(seg:Int):Bnd B (syncM d seg).1:=by unfold Wm.syncM;split;exact h.syn _;exact h
end Wm
end
end Go.Proofs.YtccoknaaofmbcaaGreatDoor
namespace Go.Proofs.YtccoknaaofmbcaaGreatDoor.Prm
def lt (a b:ByteArray):Bool:=Op.bytesLess a.data.toList b.data.toList
theorem lt_data (a b:ByteArray):Op.bytesLess a.toList b.toList=lt a b:=by unfold lt;rw[ByteArray.toList_eq,ByteArray.toList_eq]
theorem less_eq:∀ (x y:List UInt8),Op.bytesLess x y=decide (x<y)
 | [],y=>by cases y<;>simp[Op.bytesLess]
 | a :: x,[]=>by simp[Op.bytesLess]
 | a :: x,b :: y=>by
   simp only[Op.bytesLess,less_eq x y,List.cons_lt_cons_iff,Bool.decide_or,Bool.decide_and]
   rfl
theorem lt_iff (a b:ByteArray):lt a b=true↔a.data.toList<b.data.toList:=by unfold lt;rw[less_eq];simp
theorem lt_irrefl (a:ByteArray):lt a a=false:=by
 cases h:lt a a with
 | false=>rfl
 | true=>exact absurd ((lt_iff a a).1 h) (List.lt_irrefl _)
theorem lt_trans {a b c:ByteArray}(h:lt a b=true)(k:lt b c=true):lt a c=true:=(lt_iff a c).2 (List.lt_trans ((lt_iff a b).1 h) ((lt_iff b c).1 k))
theorem lt_asymm {a b:ByteArray}(h:lt a b=true):lt b a=false:=by
 cases k:lt b a with
 | false=>rfl
 | true=>have:=lt_trans h k;rw[lt_irrefl] at this;cases this
theorem lt_tri {a b:ByteArray}(h:a≠b)(k:lt a b=false):lt b a=true:=by
 rcases Std.lt_trichotomy (α:=List UInt8) a.data.toList b.data.toList with h1 | h1 | h1
 · rw[(lt_iff a b).2 h1] at k;cases k
 · exact absurd (ByteArray.ext (Array.ext' h1)) h
 · exact(lt_iff b a).2 h1
structure Pr where
 key:ByteArray
 val:ByteArray
deriving DecidableEq
structure Wr where
 key:ByteArray
 val:ByteArray
 del:Bool
deriving DecidableEq
def idx {α:Type}(p:α→Bool)(l:List α)(i:Nat):Int:=
 match l with
 | []=>-1
 | a :: l=>if p a then i else idx p l (i+1)
theorem idx_drop {α:Type}(p:α→Bool)(l:List α){k:Nat}(hk:k<l.length):idx p (l.drop k) k=if p l[k] then (k:Int) else idx p (l.drop (k+1)) (k+1):=by
 rw[List.drop_eq_getElem_cons hk];rfl
theorem idx_end {α:Type}(p:α→Bool)(l:List α){k:Nat}(hk:l.length≤k):idx p (l.drop k) k=-1:=by rw[List.drop_of_length_le hk];rfl
theorem idx_cases {α:Type}(p:α→Bool):∀ (l:List α) (i:Nat),(idx p l i=-1∧∀ a∈l,p a=false)∨∃ k,∃ h:k<l.length,idx p l i=((i+k:Nat):Int)∧p l[k]=true∧∀ j,∀ hj:j<l.length,j<k→p l[j]=false
 | [],i=>.inl ⟨rfl,by simp⟩
 | a :: l,i=>by
   by_cases h:p a=true
   · exact .inr ⟨0,by simp,by simp[idx,h],by simpa using h,fun j _ hj=>by omega⟩
   · have h':p a=false:=by simpa using h
     rcases idx_cases p l (i+1) with ⟨e,hall⟩ | ⟨k,hk,e,hp,hfirst⟩
     · refine .inl ⟨by simp[idx,h',e],fun b hb=>?_⟩
       rcases List.mem_cons.1 hb with rfl | hb
       · exact h'
       · exact hall b hb
     · refine .inr ⟨k+1,by simpa using hk,by simp only[idx,h',e];simp;omega,by simpa using hp,fun j hj hjk=>?_⟩
       cases j with
       | zero=>simpa using h'
       | succ j=>simpa using hfirst j (by simpa using hj) (by omega)
def hasK (k:ByteArray)(p:Pr):Bool:=decide (p.key=k)
def aboveK (k:ByteArray)(p:Pr):Bool:=lt k p.key
def find (k:ByteArray):List Pr→ByteArray×Bool
 | []=>(⟨#[]⟩,false)
 | p :: l=>if hasK k p then (p.val,true) else find k l
theorem find_none {k:ByteArray}:∀ {l:List Pr},(∀ a∈l,hasK k a=false)→find k l=(⟨#[]⟩,false)
 | [],_=>rfl
 | p :: l,h=>by rw[find,h p (by simp)];exact find_none fun a ha=>h a (by simp[ha])
theorem find_at {k:ByteArray}:∀ {l:List Pr} {i:Nat} (hi:i<l.length),hasK k l[i]=true→(∀ j,∀ hj:j<l.length,j<i→hasK k l[j]=false)→find k l=(l[i].val,true)
 | p :: l,0,_,h,_=>by rw[find,if_pos (by simpa using h)];rfl
 | p :: l,i+1,hi,h,hf=>by
   have h0:=hf 0 (by simp) (by omega)
   simp only[List.getElem_cons_zero] at h0
   rw[find,h0]
   exact find_at (l:=l) (i:=i) (by simpa using hi) (by simpa using h) fun j hj hji=>hf (j+1) (by simpa using hj) (by omega)
def ins (p:Pr):List Pr→List Pr
 | []=>[p]
 | q :: l=>if lt p.key q.key then p :: q :: l else q :: ins p l
def setF (p:Pr):List Pr→List Pr
 | []=>[]
 | q :: l=>if hasK p.key q then p :: l else q :: setF p l
def put (l:List Pr)(p:Pr):List Pr:=if (find p.key l).2 then setF p l else ins p l
def drop (l:List Pr)(k:ByteArray):List Pr:=l.filter fun q=>!hasK k q
def act (l:List Pr)(w:Wr):List Pr:=if w.del then drop l w.key else put l ⟨w.key,w.val⟩
def apply (l:List Pr)(ws:List Wr):List Pr:=ws.foldl act l
def right:List Pr→Bool
 | []=>true
 | p :: l=>(match l with | []=>true | q :: _=>lt p.key q.key)&&right l
theorem ins_len (p:Pr)(l:List Pr):(ins p l).length=l.length+1:=by
 induction l with
 | nil=>rfl
 | cons q l ih=>simp only[ins];split<;>simp[ih]
theorem setF_len (p:Pr)(l:List Pr):(setF p l).length=l.length:=by
 induction l with
 | nil=>rfl
 | cons q l ih=>simp only[setF];split<;>simp[ih]
theorem put_len (l:List Pr)(p:Pr):(put l p).length≤l.length+1:=by
 unfold put;split
 · rw[setF_len];omega
 · rw[ins_len];exact Nat.le_refl _
theorem drop_len (l:List Pr)(k:ByteArray):(drop l k).length≤l.length:=List.length_filter_le _ _
theorem act_len (l:List Pr)(w:Wr):(act l w).length≤l.length+1:=by
 unfold act;split
 · have:=drop_len l w.key;omega
 · exact put_len _ _
theorem apply_snoc (l:List Pr)(ws:List Wr){k:Nat}(hk:k<ws.length):apply l (ws.take (k+1))=act (apply l (ws.take k)) ws[k]:=by
 unfold apply
 rw[List.take_succ_eq_append_getElem hk,List.foldl_append];rfl
theorem apply_len (l:List Pr)(ws:List Wr):(apply l ws).length≤l.length+ws.length:=by
 induction ws generalizing l with
 | nil=>simp[apply]
 | cons w ws ih =>
   have h1:=ih (act l w)
   have h2:=act_len l w
   simp only[apply,List.foldl_cons,List.length_cons] at h1 ⊢
   omega
theorem put_has {l:List Pr}{p:Pr}{i:Nat}(hi:i<l.length)(h:hasK p.key l[i]=true)(hf:∀ j,∀ hj:j<l.length,j<i→hasK p.key l[j]=false):put l p=l.set i p:=by
 unfold put
 rw[find_at hi h hf]
 simp only[if_true]
 induction l generalizing i with
 | nil=>simp at hi
 | cons q l ih =>
   cases i with
   | zero=>simp only[List.getElem_cons_zero] at h;simp[setF,h]
   | succ i =>
     have h0:=hf 0 (by simp) (by omega)
     simp only[List.getElem_cons_zero] at h0
     simp only[setF,h0,List.set_cons_succ]
     rw[←ih (i:=i) (by simpa using hi) (by simpa using h) fun j hj hji=>hf (j+1) (by simpa using hj) (by omega)]
     simp
theorem put_new {l:List Pr}{p:Pr}(h:∀ a∈l,hasK p.key a=false):put l p=ins p l:=by
 unfold put;rw[find_none h];simp
theorem ins_at {l:List Pr}{p:Pr}{i:Nat}(hi:i≤l.length)(h:∀ hi:i<l.length,aboveK p.key l[i]=true)(hf:∀ j,∀ hj:j<l.length,j<i→aboveK p.key l[j]=false):ins p l=l.take i++p :: l.drop i:=by
 induction l generalizing i with
 | nil => have:i=0:=by simpa using hi
          subst this;rfl
 | cons q l ih =>
   cases i with
   | zero =>
     have h1:=h (by simp)
     simp only[List.getElem_cons_zero,aboveK] at h1
     simp[ins,h1]
   | succ i =>
     have h0:=hf 0 (by simp) (by omega)
     simp only[List.getElem_cons_zero,aboveK] at h0
     simp only[ins,h0,List.take_succ_cons,List.drop_succ_cons,List.cons_append]
     rw[←ih (i:=i) (by simpa using hi) (fun hi'=>h (by simpa using hi')) fun j hj hji=>hf (j+1) (by simpa using hj) (by omega)]
     simp
end Go.Proofs.YtccoknaaofmbcaaGreatDoor.Prm
namespace Go.Proofs.YtccoknaaofmbcaaGreatDoor.Prm
theorem hasK_same (p:Pr):hasK p.key p=true:=by simp[hasK]
theorem find_cons (o:ByteArray)(p:Pr)(l:List Pr):find o (p :: l)=if hasK o p then (p.val,true) else find o l:=rfl
theorem find_ins_same {p:Pr}:∀ (l:List Pr),(∀ a∈l,hasK p.key a=false)→find p.key (ins p l)=(p.val,true)
 | [],_=>by simp[ins,find_cons,hasK_same]
 | q :: l,h=>by
   simp only[ins]
   split
   · rw[find_cons,hasK_same];rfl
   · rw[find_cons,h q (by simp),find_ins_same l fun a ha=>h a (by simp[ha])];rfl
theorem find_some_or {k:ByteArray}:∀ (l:List Pr),(find k l).2=false→∀ a∈l,hasK k a=false
 | [],_,a,ha=>by simp at ha
 | q :: l,h,a,ha=>by
   rw[find_cons] at h
   by_cases hq:hasK k q=true
   · rw[if_pos hq] at h;cases h
   · rw[if_neg hq] at h
     rcases List.mem_cons.1 ha with rfl | ha
     · simpa using hq
     · exact find_some_or l h a ha
theorem find_setF_same {p:Pr}:∀ (l:List Pr),(find p.key l).2=true→find p.key (setF p l)=(p.val,true)
 | [],h=>by cases h
 | q :: l,h=>by
   simp only[setF]
   by_cases hq:hasK p.key q=true
   · rw[if_pos hq,find_cons,hasK_same];rfl
   · rw[if_neg hq,find_cons,if_neg hq]
     rw[find_cons,if_neg hq] at h
     exact find_setF_same l h
theorem find_put_same (l:List Pr)(p:Pr):find p.key (put l p)=(p.val,true):=by
 unfold put
 cases h:(find p.key l).2 with
 | true=>exact find_setF_same l h
 | false=>exact find_ins_same l (find_some_or l h)
end Go.Proofs.YtccoknaaofmbcaaGreatDoor.Prm
namespace Go.Proofs.YtccoknaaofmbcaaGreatDoor
section
open Prm
namespace Rn
def big (p:Pr):Bool:=decide (65536<p.key.size)||decide (65536<p.val.size)
def may (l:List Pr):Bool:=right l && !l.any big
def ptx (s:ByteArray):List UInt8:=Dm.num s.data.toList.length++s.data.toList
def one (p:Pr):List UInt8:=ptx p.key++ptx p.val
def flat:List Pr→List UInt8
 | []=>[]
 | p :: l=>one p++flat l
def body (l:List Pr):List UInt8:=Dm.num l.length++flat l
def bytes (l:List Pr):List UInt8:=sld (body l)
def tkp:Nat→List UInt8→List Pr→List Pr×List UInt8×Nat
 | 0,r,acc=>(acc,r,0)
 | n+1,r,acc =>
   if (Dm.ttext r 65536).2.2≠0 then (acc,[],(Dm.ttext r 65536).2.2)
   else if (Dm.ttext (Dm.ttext r 65536).2.1 65536).2.2≠0 then (acc,[],(Dm.ttext (Dm.ttext r 65536).2.1 65536).2.2)
   else tkp n (Dm.ttext (Dm.ttext r 65536).2.1 65536).2.1 (acc++[⟨⟨(Dm.ttext r 65536).1.toArray⟩,⟨(Dm.ttext (Dm.ttext r 65536).2.1 65536).1.toArray⟩⟩])
def tkps (s:List UInt8):List Pr×List UInt8×Nat:=
 if (Dm.tnum s).2.2≠0 then ([],[],(Dm.tnum s).2.2) else tkp (Dm.tnum s).1 (Dm.tnum s).2.1 []
def tk2 (x:List Pr×List UInt8×Nat):List Pr×Nat:=if x.2.2≠0∨x.2.1≠[]∨may x.1=false then ([],3) else (x.1,0)
def tk1 (x:List UInt8×List UInt8×Nat):List Pr×Nat:=if x.2.2≠0∨x.2.1≠[] then ([],3) else tk2 (tkps x.1)
def take (s:List UInt8)(most:Int):List Pr×Nat:=tk1 (topen s most)
theorem may_big {l:List Pr}(h:may l=true):∀ p∈l,p.key.size≤65536∧p.val.size≤65536:=by
 intro p hp
 unfold may at h
 simp only[Bool.and_eq_true,Bool.not_eq_true',List.any_eq_false] at h
 have:=h.2 p hp
 simp only[big,Bool.or_eq_true,decide_eq_true_eq,not_or] at this
 omega
theorem flat_app (l m:List Pr):flat (l++m)=flat l++flat m:=by
 induction l with
 | nil=>rfl
 | cons p l ih=>simp[flat,ih]
theorem flat_snoc (l:List Pr){k:Nat}(hk:k<l.length):flat (l.take (k+1))=flat (l.take k)++one l[k]:=by
 rw[List.take_succ_eq_append_getElem hk,flat_app];simp[flat]
theorem size_data (s:ByteArray):s.data.toList.length=s.size:=by simp
theorem mk_data (s:ByteArray):(⟨s.data.toList.toArray⟩:ByteArray)=s:=by simp
theorem ttext_ptx (s:ByteArray)(r:List UInt8)(h:s.size≤65536):Dm.ttext (ptx s++r) 65536=(s.data.toList,r,0):=by
 unfold ptx
 rw[List.append_assoc]
 exact Dm.ttext_text _ r 65536 (by rw[size_data];unfold Dm.maxU;omega) (by rw[size_data];omega)
theorem tkp_flat:∀ (l:List Pr) (r:List UInt8) (acc:List Pr),(∀ p∈l,p.key.size≤65536∧p.val.size≤65536)→tkp l.length (flat l++r) acc=(acc++l,r,0)
 | [],r,acc,_=>by simp[tkp,flat]
 | p :: l,r,acc,h=>by
   have hp:=h p (by simp)
   have e1:flat (p :: l)++r=ptx p.key++(ptx p.val++(flat l++r)):=by simp[flat,one]
   rw[List.length_cons,tkp,e1,ttext_ptx _ _ hp.1]
   simp only[ne_eq,not_true_eq_false,if_false]
   rw[ttext_ptx _ _ hp.2]
   simp only[ne_eq,not_true_eq_false,if_false]
   rw[mk_data,mk_data,tkp_flat l r _ (fun q hq=>h q (by simp[hq]))]
   simp
theorem tkps_body (l:List Pr)(h:∀ p∈l,p.key.size≤65536∧p.val.size≤65536)(hl:l.length≤Dm.maxU):tkps (body l)=(l,[],0):=by
 unfold tkps body
 rw[Dm.tnum_num _ _ hl]
 simp only[ne_eq,not_true_eq_false,if_false]
 have:=tkp_flat l [] [] h
 simpa using this
theorem take_bytes (l:List Pr)(most:Int)(h:may l=true)(hl:(body l).length≤Dm.maxU)(hm:((body l).length:Int)≤most):take (bytes l) most=(l,0):=by
 have hn:l.length≤Dm.maxU:=by
  have h1:l.length≤(flat l).length:=by
   clear h hl hm
   induction l with
   | nil=>simp
   | cons p l ih =>
     simp only[flat,one,ptx,List.length_append,List.length_cons]
     have:=Dm.dg_pos p.key.data.toList.length
     simp only[Dm.num,List.length_append,List.length_singleton]
     omega
  unfold body at hl;rw[List.length_append] at hl;omega
 unfold take bytes
 have e:=topen_sld (body l) [] most hl hm
 rw[List.append_nil] at e
 rw[e,tk1]
 simp only[ne_eq,not_true_eq_false,or_self,if_false]
 rw[tkps_body l (may_big h) hn,tk2]
 simp[h]
theorem ttext_most (l:List UInt8)(m1 m2:Int)(h1:(l.length:Int)≤m1)(h2:(l.length:Int)≤m2) :
  Dm.ttext l m1=Dm.ttext l m2∨((Dm.ttext l m1).2.2≠0∧(Dm.ttext l m2).2.2≠0):=by
 have hlen:=Dm.tnum_len l
 by_cases hs:(Dm.tnum l).2.1.length<(Dm.tnum l).1
 · right
   unfold Dm.ttext
   constructor <;> · split
                     · assumption
                     · split
                       · simp
                       · simp
 · left
   unfold Dm.ttext
   by_cases h0:(Dm.tnum l).2.2≠0
   · rw[if_pos h0,if_pos h0]
   · have a1:¬ (m1<0∨m1<((Dm.tnum l).1:Int)):=by omega
     have a2:¬ (m2<0∨m2<((Dm.tnum l).1:Int)):=by omega
     rw[if_neg h0,if_neg h0,if_neg a1,if_neg a2]
theorem take_most (s:List UInt8)(m1 m2:Int)(h1:(s.length:Int)≤m1)(h2:(s.length:Int)≤m2):take s m1=take s m2:=by
 unfold take topen
 rcases ttext_most s m1 m2 h1 h2 with e | ⟨a,b⟩
 · rw[e]
 · unfold topen1 tk1
   rw[if_pos a,if_pos b,if_pos (.inl a),if_pos (.inl b)]
theorem tnum_takes (l:List UInt8)(h:(Dm.tnum l).2.2=0):(Dm.tnum l).2.1.length+2≤l.length:=by
 have hl:=congrArg List.length (Dm.figs_rest l)
 rw[List.length_append] at hl
 unfold Dm.tnum at h ⊢
 split at h
 · simp at h
 · rename_i hb
   split at h
   · simp at h
   · rename_i hr
     split at h
     · simp at h
     · rename_i hf
       rw[if_neg hb,if_neg hr,if_neg hf]
       simp only[not_or] at hf
       have h1:1≤(Dm.figs l).length:=by
        cases hh:Dm.figs l with
        | nil=>exact absurd hh hf.2
        | cons a b=>simp
       have h2:1≤(Dm.rest l).length:=by
        cases hh:Dm.rest l with
        | nil=>exact absurd hh hr
        | cons a b=>simp
       simp only[List.length_tail]
       omega
theorem ttext_takes (l:List UInt8)(most:Int)(h:(Dm.ttext l most).2.2=0):(Dm.ttext l most).2.1.length+2≤l.length:=by
 unfold Dm.ttext at h ⊢
 split at h
 · rename_i h0;simp only at h;exact absurd h h0
 · rename_i h0
   split at h
   · simp at h
   · rename_i h1
     split at h
     · simp at h
     · rename_i h2
       rw[if_neg h0,if_neg h1,if_neg h2]
       have:=tnum_takes l (by simpa using h0)
       simp only[List.length_drop]
       omega
end Rn
end
section
open Prm
namespace Bm
structure Bt where
 kind:Int
 tok:ByteArray
 ws:List Wr
deriving DecidableEq
structure Sta where
 data:List Pr
 toks:List Pr
deriving DecidableEq
def wrong (w:Wr):Bool:=decide (w.key.size<1)||decide (32<w.key.size)||decide ((if w.del then 0 else 64)<w.val.size)
def keys (l:List Wr):List Pr:=l.map fun w=>⟨w.key,⟨#[]⟩⟩
def rise (l:List Wr):Bool:=right (keys l)
def may (b:Bt):Bool:=
 if b.tok.size<1∨16<b.tok.size then false
 else if b.kind=1 then decide (b.ws.length≤24)&&rise b.ws && !b.ws.any wrong
 else if b.kind=2 then decide (b.ws.length=0)
 else false
theorem may_tok {b:Bt}(h:may b=true):1≤b.tok.size∧b.tok.size≤16:=by
 unfold may at h
 split at h
 · cases h
 · omega
theorem may_kind {b:Bt}(h:may b=true):b.kind=1∨b.kind=2:=by
 unfold may at h
 split at h
 · cases h
 · split at h
   · left;assumption
   · split at h
     · right;assumption
     · cases h
theorem may_len {b:Bt}(h:may b=true):b.ws.length≤24:=by
 unfold may at h
 split at h
 · cases h
 · split at h
   · simp only[Bool.and_eq_true,decide_eq_true_eq] at h;exact h.1.1
   · split at h
     · simp only[decide_eq_true_eq] at h;omega
     · cases h
theorem may_ok {b:Bt}(h:may b=true):rise b.ws=true∧∀ w∈b.ws,wrong w=false:=by
 unfold may at h
 split at h
 · cases h
 · split at h
   · simp only[Bool.and_eq_true,Bool.not_eq_true',List.any_eq_false] at h
     exact⟨h.1.2,fun w hw=>by simpa using h.2 w hw⟩
   · split at h
     · simp only[decide_eq_true_eq] at h
       have e:=List.eq_nil_of_length_eq_zero h
       rw[e]
       exact⟨rfl,by simp⟩
     · cases h
theorem wrong_iff {x:Wr}:wrong x=true↔(x.key.size<1∨32<x.key.size∨(if x.del then 0 else 64)<x.val.size):=by
 unfold wrong
 simp only[Bool.or_eq_true,decide_eq_true_eq,or_assoc]
theorem wrong_t {x:Wr}(h:x.key.size<1∨32<x.key.size∨(if x.del then 0 else 64)<x.val.size):wrong x=true:=wrong_iff.2 h
theorem wrong_f {x:Wr}(h:¬(x.key.size<1∨32<x.key.size∨(if x.del then 0 else 64)<x.val.size)):wrong x=false:=by
 cases e:wrong x with
 | false=>rfl
 | true=>exact absurd (wrong_iff.1 e) h
theorem wrong_not {w:Wr}(h:wrong w=false):1≤w.key.size∧w.key.size≤32∧w.val.size≤64∧(w.del=true→w.val.size=0):=by
 unfold wrong at h
 simp only[Bool.or_eq_false_iff,decide_eq_false_iff_not] at h
 obtain⟨⟨a,b⟩,c⟩:=h
 refine⟨by omega,by omega,?_,fun hd=>?_⟩
 · split at c<;>omega
 · rw[if_pos hd] at c;omega
def del (w:Wr):Nat:=if w.del then 1 else 0
def one (w:Wr):List UInt8:=Dm.num (del w)++Rn.ptx w.key++Rn.ptx w.val
def flat:List Wr→List UInt8
 | []=>[]
 | w :: l=>one w++flat l
def head (b:Bt):List UInt8:=Dm.num b.kind.toNat++Rn.ptx b.tok++Dm.num b.ws.length
def bytes (b:Bt):List UInt8:=head b++flat b.ws
def bytesM (b:Bt):List UInt8×Int:=if may b then (bytes b,0) else ([],1)
theorem flat_app (l m:List Wr):flat (l++m)=flat l++flat m:=by
 induction l with
 | nil=>rfl
 | cons p l ih=>simp[flat,ih]
theorem flat_snoc (l:List Wr){k:Nat}(hk:k<l.length):flat (l.take (k+1))=flat (l.take k)++one l[k]:=by
 rw[List.take_succ_eq_append_getElem hk,flat_app];simp[flat]
theorem ptx_len (s:ByteArray)(h:s.size≤1000):(Rn.ptx s).length≤21+s.size:=by
 unfold Rn.ptx
 rw[List.length_append,Rn.size_data]
 have:=Dm.num_length s.size (by omega)
 omega
theorem one_len (w:Wr)(h:wrong w=false):(one w).length≤159:=by
 obtain⟨a,b,c,_⟩:=wrong_not h
 have h1:=ptx_len w.key (by omega)
 have h2:=ptx_len w.val (by omega)
 have h3:=Dm.num_length (del w) (by unfold del;split<;>omega)
 unfold one
 rw[List.length_append,List.length_append]
 omega
theorem flat_len:∀ (l:List Wr),(∀ w∈l,wrong w=false)→(flat l).length≤l.length*159
 | [],_=>by simp[flat]
 | w :: l,h=>by
   have h1:=one_len w (h w (by simp))
   have h2:=flat_len l fun q hq=>h q (by simp[hq])
   simp only[flat,List.length_append,List.length_cons,Nat.add_mul]
   omega
theorem head_len {b:Bt}(h:may b=true):(head b).length≤79:=by
 have h1:=ptx_len b.tok (by have:=(may_tok h).2;omega)
 have h2:=Dm.num_length b.kind.toNat (by have:=may_kind h;omega)
 have h3:=Dm.num_length b.ws.length (by have:=may_len h;omega)
 have:=(may_tok h).2
 unfold head
 rw[List.length_append,List.length_append]
 omega
theorem bytes_len {b:Bt}(h:may b=true):(bytes b).length≤4000:=by
 have h1:=head_len h
 have h2:=flat_len b.ws (may_ok h).2
 have h3:=may_len h
 have h4:b.ws.length*159≤24*159:=Nat.mul_le_mul_right _ h3
 unfold bytes
 rw[List.length_append]
 omega
abbrev Hs:=List UInt8×Bool
def tkN (most:Nat)(x:Hs):Nat×Hs:=if (Dm.tnum x.1).2.2≠0∨most<(Dm.tnum x.1).1 then (0,(Dm.tnum x.1).2.1,false) else ((Dm.tnum x.1).1,(Dm.tnum x.1).2.1,x.2)
def tkT (most:Int)(x:Hs):List UInt8×Hs:=((Dm.ttext x.1 most).1,(Dm.ttext x.1 most).2.1,x.2&&decide ((Dm.ttext x.1 most).2.2=0))
def tkW (x:Hs):Wr×Hs:=
 (⟨⟨(tkT 32 (tkN 1 x).2).1.toArray⟩,⟨(tkT 64 (tkT 32 (tkN 1 x).2).2).1.toArray⟩,decide ((tkN 1 x).1=1)⟩,(tkT 64 (tkT 32 (tkN 1 x).2).2).2)
def tkWs:Nat→List Wr→Hs→List Wr×Hs
 | 0,acc,x=>(acc,x)
 | n+1,acc,x=>tkWs n (acc++[(tkW x).1]) (tkW x).2
def tkH (x:Hs):Nat×List UInt8×Nat×Hs:=((tkN 2 x).1,(tkT 16 (tkN 2 x).2).1,(tkN 24 (tkT 16 (tkN 2 x).2).2).1,(tkN 24 (tkT 16 (tkN 2 x).2).2).2)
def tkB (x:Hs):Bt×Hs:=
 (⟨((tkH x).1:Nat),⟨(tkH x).2.1.toArray⟩,(tkWs (tkH x).2.2.1 [] (tkH x).2.2.2).1⟩,(tkWs (tkH x).2.2.1 [] (tkH x).2.2.2).2)
def fin (x:Bt×Hs):Bt×Nat:=if x.2.2=true∧x.2.1=[]∧may x.1=true then (x.1,0) else (⟨0,⟨#[]⟩,[]⟩,3)
def take (s:List UInt8):Bt×Nat:=fin (tkB (s,true))
theorem fin_bad {x:Bt×Hs}(h:x.2.2=false):fin x=(⟨0,⟨#[]⟩,[]⟩,3):=by unfold fin;rw[if_neg (by rw[h];simp)]
theorem tkN_no (m:Nat)(l:List UInt8):(tkN m (l,false)).2.2=false:=by unfold tkN;split<;>rfl
theorem tkT_no (m:Int)(l:List UInt8):(tkT m (l,false)).2.2=false:=by unfold tkT;rfl
theorem tkN_no' {m:Nat}{x:Hs}(h:x.2=false):(tkN m x).2.2=false:=by obtain⟨a,b⟩:=x;cases h;exact tkN_no m a
theorem tkT_no' {m:Int}{x:Hs}(h:x.2=false):(tkT m x).2.2=false:=by obtain⟨a,b⟩:=x;cases h;exact tkT_no m a
theorem tkW_no {x:Hs}(h:x.2=false):(tkW x).2.2=false:=tkT_no' (tkT_no' (tkN_no' h))
theorem tkWs_no:∀ (n:Nat) (acc:List Wr) {x:Hs},x.2=false→(tkWs n acc x).2.2=false
 | 0,_,_,h=>h
 | n+1,acc,x,h=>tkWs_no n _ (tkW_no h)
theorem figs_more (l m:List UInt8)(h:Dm.rest l≠[]):Dm.figs (l++m)=Dm.figs l∧Dm.rest (l++m)=Dm.rest l++m:=by
 have h1:=Dm.figs_rest l
 have hd:∃ c r,Dm.rest l=c :: r∧Dm.isD c=false:=by
  cases hr:Dm.rest l with
  | nil=>exact absurd hr h
  | cons c r =>
    refine⟨c,r,rfl,?_⟩
    have:=List.head?_dropWhile_not Dm.isD l
    unfold Dm.rest at hr
    rw[hr] at this
    simpa using this
 obtain⟨c,r,hr,hc⟩:=hd
 have e:l++m=Dm.figs l++(c :: (r++m)):=by rw[←List.cons_append,←hr,←List.append_assoc,h1]
 have e1:Dm.figs (l++m)=Dm.figs l:=by
  rw[e];show List.takeWhile _ _=_
  rw[List.takeWhile_append_of_pos (Dm.figs_all l),List.takeWhile_cons,hc];simp
 refine⟨e1,?_⟩
 have h2:=Dm.figs_rest (l++m)
 rw[e1,e] at h2
 have:=List.append_cancel_left h2
 rw[←e] at this
 rw[this,hr];rfl
theorem head_app {l m:List UInt8}(h:l≠[]):(l++m).head? = l.head?:=by
 cases l with
 | nil=>exact absurd rfl h
 | cons a l=>rfl
theorem tnum_more (l m:List UInt8)(h:(Dm.tnum l).2.2=0):Dm.tnum (l++m)=((Dm.tnum l).1,(Dm.tnum l).2.1++m,0):=by
 unfold Dm.tnum at h ⊢
 by_cases h1:Dm.bad l=true
 · rw[if_pos h1] at h;simp at h
 · rw [if_neg h1] at h ⊢
   by_cases h2:Dm.rest l=[]
   · rw[if_pos h2] at h;simp at h
   · rw [if_neg h2] at h ⊢
     by_cases h3:(Dm.rest l).head? ≠ some 59∨Dm.figs l=[]
     · rw[if_pos h3] at h;simp at h
     · rw[if_neg h3]
       obtain⟨e1,e2⟩:=figs_more l m h2
       have hl:l≠[]:=by rintro rfl;exact h2 rfl
       have eb:Dm.bad (l++m)=Dm.bad l:=by
        unfold Dm.bad
        rw[e1,head_app hl]
       rw[eb,if_neg h1,e1,e2,if_neg (by simp[h2]),if_neg]
       · rw[List.tail_append_of_ne_nil h2]
       · rw[head_app h2];exact h3
theorem tkT_was {n:Int}{x:Hs}(h:(tkT n x).2.2=true):x.2=true:=by
 cases hx:x.2 with
 | true=>rfl
 | false=>rw[tkT_no' hx] at h;cases h
theorem tkWs_was {n:Nat}{acc:List Wr}{x:Hs}(h:(tkWs n acc x).2.2=true):x.2=true:=by
 cases hx:x.2 with
 | true=>rfl
 | false=>rw[tkWs_no n acc hx] at h;cases h
theorem tkN_num {v most:Nat}(r:List UInt8)(o:Bool)(h:v≤most)(hm:most≤1000):tkN most (Dm.num v++r,o)=(v,r,o):=by
 unfold tkN
 rw[Dm.tnum_num v r (by unfold Dm.maxU;omega)]
 rw[if_neg (by simp;omega)]
theorem tkT_ptx {s:ByteArray}{most:Int}(r:List UInt8)(o:Bool)(h:(s.size:Int)≤most)(hm:most≤1000):tkT most (Rn.ptx s++r,o)=(s.data.toList,r,o):=by
 unfold tkT Rn.ptx
 simp only[List.append_assoc]
 rw[Dm.ttext_text _ r most (by rw[Rn.size_data];unfold Dm.maxU;omega) (by rw[Rn.size_data];exact h)]
 simp
theorem tkW_one {w:Wr}(r:List UInt8)(o:Bool)(h:wrong w=false):tkW (one w++r,o)=(w,r,o):=by
 obtain⟨a,b,c,_⟩:=wrong_not h
 have e1:tkN 1 (one w++r,o)=(del w,Rn.ptx w.key++(Rn.ptx w.val++r),o):=by
  unfold one
  rw[List.append_assoc,List.append_assoc]
  exact tkN_num _ _ (by unfold del;split<;>omega) (by omega)
 have e2:=tkT_ptx (s:=w.key) (most:=32) (Rn.ptx w.val++r) o (by omega) (by omega)
 have e3:=tkT_ptx (s:=w.val) (most:=64) r o (by omega) (by omega)
 unfold tkW
 rw[e1];dsimp only
 rw[e2];dsimp only
 rw[e3];dsimp only
 rw[Rn.mk_data,Rn.mk_data]
 have:decide (del w=1)=w.del:=by unfold del;cases w.del<;>rfl
 rw[this]
theorem tkWs_flat:∀ (l acc:List Wr) (r:List UInt8) (o:Bool),(∀ w∈l,wrong w=false)→tkWs l.length acc (flat l++r,o)=(acc++l,r,o)
 | [],acc,r,o,_=>by simp[tkWs,flat]
 | w :: l,acc,r,o,h=>by
   rw[List.length_cons,tkWs,flat,List.append_assoc,tkW_one _ _ (h w (by simp))]
   dsimp only
   rw[tkWs_flat l _ r o fun q hq=>h q (by simp[hq])]
   simp
theorem tkB_bytes {b:Bt}(r:List UInt8)(o:Bool)(h:may b=true):tkB (bytes b++r,o)=(b,r,o):=by
 have ht:=may_tok h
 have hk:=may_kind h
 have hl:=may_len h
 have e1:tkN 2 (bytes b++r,o)=(b.kind.toNat,Rn.ptx b.tok++(Dm.num b.ws.length++(flat b.ws++r)),o):=by
  unfold bytes head
  rw[List.append_assoc,List.append_assoc,List.append_assoc]
  exact tkN_num _ _ (by omega) (by omega)
 have e2:=tkT_ptx (s:=b.tok) (most:=16) (Dm.num b.ws.length++(flat b.ws++r)) o (by omega) (by omega)
 have e3:=tkN_num (v:=b.ws.length) (most:=24) (flat b.ws++r) o hl (by omega)
 have e4:=tkWs_flat b.ws [] r o (may_ok h).2
 have eh:tkH (bytes b++r,o)=(b.kind.toNat,b.tok.data.toList,b.ws.length,(flat b.ws++r,o)):=by
  unfold tkH
  rw[e1];dsimp only
  rw[e2];dsimp only
  rw[e3]
 unfold tkB
 rw[eh];dsimp only
 rw[e4,Rn.mk_data,List.nil_append]
 have:((b.kind.toNat:Nat):Int)=b.kind:=by omega
 rw[this]
theorem take_bytes {b:Bt}(h:may b=true):take (bytes b)=(b,0):=by
 have:=tkB_bytes [] true h
 rw[List.append_nil] at this
 unfold take fin
 rw[this]
 simp[h]
def word (k:Int):ByteArray:=if k=1 then ⟨#[99]⟩ else ⟨#[103]⟩
def doo (s:Sta)(b:Bt):Sta×Nat:=
 if may b=false then (s,1) else if (find b.tok s.toks).2=true then (s,8) else (⟨apply s.data b.ws,put s.toks ⟨b.tok,word b.kind⟩⟩,0)
def mk1 (m:UInt8)(p:Pr):Pr:=⟨⟨([m]++p.key.data.toList).toArray⟩,p.val⟩
def marked (m:UInt8)(l:List Pr):List Pr:=l.map (mk1 m)
def pairs (s:Sta):List Pr:=marked 100 s.data++marked 116 s.toks
def isM (m:UInt8)(k:ByteArray):Bool:=decide (k.data.toList.head? = some m)
def cut (k:ByteArray):ByteArray:=⟨k.data.toList.tail.toArray⟩
def cg (v:ByteArray):Bool:=decide (v=⟨#[99]⟩)||decide (v=⟨#[103]⟩)
def step (s:Sta)(p:Pr):Option Sta:=
 if isM 100 p.key=true∧s.toks=[] then some ⟨s.data++[⟨cut p.key,p.val⟩],s.toks⟩
 else if isM 116 p.key=true∧cg p.val=true then some ⟨s.data,s.toks++[⟨cut p.key,p.val⟩]⟩
 else none
def backL:List Pr→Sta→Option Sta
 | [],s=>some s
 | p :: l,s=>match step s p with | some t=>backL l t | none=>none
def back (l:List Pr):Sta×Nat:=match backL l ⟨[],[]⟩ with | some s=>(s,0) | none=>(⟨[],[]⟩,3)
theorem step_len {s t:Sta}{p:Pr}(h:step s p=some t):t.data.length+t.toks.length=s.data.length+s.toks.length+1:=by
 unfold step at h
 split at h
 · injection h with h;subst h;simp;omega
 · split at h
   · injection h with h;subst h;simp;omega
   · cases h
theorem doo_ok {s:Sta}{b:Bt}(h:(doo s b).2=0):may b=true∧find b.tok (doo s b).1.toks=(word b.kind,true):=by
 unfold doo at h ⊢
 split at h
 · simp at h
 · rename_i h1
   split at h
   · simp at h
   · rename_i h2
     rw[if_neg h1,if_neg h2]
     exact⟨by simpa using h1,find_put_same s.toks ⟨b.tok,word b.kind⟩⟩
theorem doo_len (s:Sta)(b:Bt):(doo s b).1.data.length≤s.data.length+24∧(doo s b).1.toks.length≤s.toks.length+1:=by
 unfold doo
 split
 · simp
 · rename_i h1
   split
   · simp
   · have:=may_len (b:=b) (by simpa using h1)
     have h3:=apply_len s.data b.ws
     exact⟨by simp only;omega,put_len _ _⟩
end Bm
end
section
open Go.RowKit Dkm
theorem ref_new_any (room:Int)(w:World)(h:0≤room) :
  Calls Tryz.prog 26 #[.int .i64 room] w fun e w'=>e=.returned (.tuple #[dkv none 0 0 room (-1) false,.int .i64 0])∧Q w w':=by
 go_enter Tryz.func26,Tryz.ntmps26
 go_wp2
 exact bodyPost_ret (v:=.tuple #[dkv none 0 0 room (-1) false,.int .i64 0]) (by simp[results,Tryz.results26,go_sem]) rfl ⟨rfl,(Q.refl _).alloc _⟩
theorem ref_power (A:Option Addr)(n c:Nat)(d:Dk)(w:World)(hfu:d.fuse≤9223372036854775807) :
  Calls Tryz.prog 106 #[dkv A n c d.room d.fuse d.off] w fun e w'=>e=.returned (.tuple #[dkv A n c (pow d).1.room (pow d).1.fuse (pow d).1.off,.bool (pow d).2])∧Q w w':=by
 obtain⟨l,room,fuse,off⟩:=d
 simp only at hfu ⊢
 rcases Int.lt_trichotomy fuse 0 with h | h | h
 · rw[pow_neg l room fuse off h]
   have b:(fuse == 0)=false:=by simp;omega
   go_enter Tryz.func106,Tryz.ntmps106
   go_wp2
   exact bodyPost_ret (v:=.tuple #[dkv A n c room fuse off,.bool true]) (by simp[results,Tryz.results106,go_sem]) rfl ⟨rfl,((Q.refl _).alloc _).alloc _⟩
 · subst h
   rw[pow_zero l room off]
   go_enter Tryz.func106,Tryz.ntmps106
   go_wp2
   exact bodyPost_ret (v:=.tuple #[dkv A n c room 0 true,.bool false]) (by simp[results,Tryz.results106,go_sem]) rfl ⟨rfl,((Q.refl _).alloc _).alloc _⟩
 · rw[pow_pos l room fuse off h]
   have b:(fuse == 0)=false:=by simp;omega
   go_enter Tryz.func106,Tryz.ntmps106
   go_wp2
   exact bodyPost_ret (v:=.tuple #[dkv A n c room (fuse - 1) off,.bool true]) (by simp[results,Tryz.results106,go_sem]) rfl ⟨rfl,((Q.refl _).alloc _).alloc _⟩
theorem ref_same_len (A B:Option Addr)(n c m c2:Nat)(l l2:List Fil)(room fuse:Int)(off:Bool)(w:World)(h1:Files w A n l)(h2:Files w B n l2)(hn:n≤maxLen) :
  Calls Tryz.prog 37 #[dkv A n c room fuse off,dkv B n c2 room fuse off] w fun e w'=>e=.returned (.bool (decide (l=l2)))∧Q w w':=by
 unfold maxLen at hn
 have H1:=hid h1
 have H2:=hid h2
 have L1:=hid h1.len
 have L2:=hid h2.len
 clear h1 h2
 have X:=hid (And.intro (Bx.new w [.slice A n c,.int .i64 room,.int .i64 fuse,.bool off] 24) (Bx.new (w.alloc (.cells #[.slice A n c,.int .i64 room,.int .i64 fuse,.bool off] 24)) [.slice B n c2,.int .i64 room,.int .i64 fuse,.bool off] 24))
 rw[World.size_alloc] at X
 go_enter Tryz.func37,Tryz.ntmps37
 go_wp2
 have Y:=hid (And.intro (X.out.1.alloc (.cells #[.slice B n c2,.int .i64 room,.int .i64 fuse,.bool off] 24)) (And.intro X.out.2 (((Q.refl w).alloc (.cells #[.slice A n c,.int .i64 room,.int .i64 fuse,.bool off] 24)).alloc (.cells #[.slice B n c2,.int .i64 room,.int .i64 fuse,.bool off] 24))))
 clear X
 generalize ((w.alloc (.cells #[.slice A n c,.int .i64 room,.int .i64 fuse,.bool off] 24)).alloc (.cells #[.slice B n c2,.int .i64 room,.int .i64 fuse,.bool off] 24))=W at Y ⊢
 go_loopw [5] (fun i wr=>∃ k:Nat,k≤n∧i=.int .i64 k∧Q W wr∧l.take k=l2.take k) (fun i _=>n - (intOf i).toNat)
 case atStart=>exact⟨0,Nat.zero_le _,rfl,Q.refl _,by simp⟩
 case round =>
  obtain⟨k,hk,rfl,hq,ht⟩:=hrel
  have HT:=hid ht
  have HQ:=hid hq
  clear ht hq
  obtain⟨⟨e0,e1,e2,e3⟩,_⟩:=(Y.out.1.q HQ.out).get4
  obtain⟨⟨g0,g1,g2,g3⟩,_⟩:=(Y.out.2.1.q HQ.out).get4
  by_cases hlt:k<n
  · have k1:k<l.length:=by have:=L1.out;omega
    have k2:k<l2.length:=by have:=L2.out;omega
    obtain⟨ad,rfl,hb,c0,c1,c3⟩:=(H1.out.q (Y.out.2.2.trans HQ.out)).load hlt k1
    obtain⟨ae,rfl,he,d0,d1,d2⟩:=(H2.out.q (Y.out.2.2.trans HQ.out)).load hlt k2
    have q4:(k:Int)<(n:Int):=by omega
    have q5:0≤(k:Int):=by omega
    have hne:=fun W=>neq_file W l[k] l2[k]
    by_cases heq:l[k]=l2[k]
    · have hd:decide (l[k]=l2[k])=true:=by simpa using heq
      have HE:=hid heq
      clear heq
      go_wp2
      go_quiet (fail)
      go_wp2
      exact⟨⟨k+1,by omega,by go_num,HQ.out.drewN _,by rw[List.take_succ_eq_append_getElem k1,List.take_succ_eq_append_getElem k2,HT.out,HE.out]⟩,by simp[intOf];omega⟩
    · have hd:decide (l[k]=l2[k])=false:=by simpa using heq
      have HE:=hid heq
      clear heq
      go_wp2
      go_quiet (fail)
      go_wp2
      go_ret
      exact⟨ret_bool (by symm;simp only[decide_eq_false_iff_not];rintro rfl;exact HE.out rfl),Y.out.2.2.trans (HQ.out.drewN _)⟩
  · go_wp2
    go_ret
    exact⟨ret_bool (by symm;simp only[decide_eq_true_eq];have h1:=HT.out;rwa [List.take_of_length_le (by have:=L1.out;omega),List.take_of_length_le (by have:=L2.out;omega)] at h1),Y.out.2.2.trans HQ.out⟩
end
section
open Go.RowKit Dkm
theorem ref_same_any (A B:Option Addr)(n c m c2:Nat)(x y:Dk)(w:World)(h1:Files w A n x.fs)(h2:Files w B m y.fs)(hn:n≤maxLen)(hm:m≤maxLen) :
  Calls Tryz.prog 37 #[dkv A n c x.room x.fuse x.off,dkv B m c2 y.room y.fuse y.off] w fun e w'=>e=.returned (.bool (sameD x y))∧Q w w':=by
 obtain⟨l,r1,u1,o1⟩:=x
 obtain⟨l2,r2,u2,o2⟩:=y
 simp only at h1 h2 ⊢
 by_cases hr:r1=r2
 · by_cases hu:u1=u2
   · by_cases ho:o1=o2
     · by_cases hl:n=m
       · subst hr hu ho hl
         rw[show sameD ⟨l,r1,u1,o1⟩ ⟨l2,r1,u1,o1⟩=decide (l=l2) by simp[sameD]]
         exact ref_same_len A B n c n c2 l l2 r1 u1 o1 w h1 h2 hn
       · have e:sameD ⟨l,r1,u1,o1⟩ ⟨l2,r2,u2,o2⟩=false:=by
           simp only[sameD,decide_eq_false_iff_not]
           rintro⟨rfl,_⟩
           exact hl (h1.len.symm.trans h2.len)
         subst hr hu ho
         rw[e]
         have b1:((n:Int) != (m:Int))=true:=by simp;omega
         have b2:(n != m)=true:=by simp;omega
         have b3:(n == m)=false:=by simp;omega
         have b4:((n:Int) == (m:Int))=false:=by simp;omega
         have b5:¬ (n:Int)=m:=by omega
         clear h1 h2 hl e
         go_enter Tryz.func37,Tryz.ntmps37
         go_wp2
         go_ret
         exact⟨rfl,((Q.refl _).alloc _).alloc _⟩
     · have e:sameD ⟨l,r1,u1,o1⟩ ⟨l2,r2,u2,o2⟩=false:=by simp[sameD,ho]
       subst hr hu
       rw[e]
       have b1:(o1 != o2)=true:=by simpa using ho
       have b2:(o1 == o2)=false:=by simpa using ho
       clear h1 h2 e
       go_enter Tryz.func37,Tryz.ntmps37
       go_wp2
       go_ret
       exact⟨rfl,((Q.refl _).alloc _).alloc _⟩
   · have e:sameD ⟨l,r1,u1,o1⟩ ⟨l2,r2,u2,o2⟩=false:=by simp[sameD,hu]
     subst hr
     rw[e]
     have b1:(u1 != u2)=true:=by simpa using hu
     have b2:(u1 == u2)=false:=by simpa using hu
     clear h1 h2 e
     go_enter Tryz.func37,Tryz.ntmps37
     go_wp2
     go_ret
     exact⟨rfl,((Q.refl _).alloc _).alloc _⟩
 · have e:sameD ⟨l,r1,u1,o1⟩ ⟨l2,r2,u2,o2⟩=false:=by simp[sameD,hr]
   rw[e]
   have b1:(r1 != r2)=true:=by simpa using hr
   have b2:(r1 == r2)=false:=by simpa using hr
   clear h1 h2 e
   go_enter Tryz.func37,Tryz.ntmps37
   go_wp2
   go_ret
   exact⟨rfl,((Q.refl _).alloc _).alloc _⟩
theorem Bx.far3 {w:World}{b c k:Nat}{vs:List Value}(h:Bx w b vs)(hc:c≠b)(x y z:Value):Bx (((w.setCell ⟨c,k*3,none⟩ x).setCell ⟨c,k*3+1,none⟩ y).setCell ⟨c,k*3+2,none⟩ z) b vs:=
 ((h.far (p:=⟨c,k*3,none⟩) hc x).far (p:=⟨c,k*3+1,none⟩) hc y).far (p:=⟨c,k*3+2,none⟩) hc z
theorem Q.set3g {a w:World}{k:Nat}(h:Q a w){b:Nat}(hb:a.heap.size≤b)(x y z:Value):Q a (((w.setCell ⟨b,k*3,none⟩ x).setCell ⟨b,k*3+1,none⟩ y).setCell ⟨b,k*3+2,none⟩ z):=
 ((h.setCell (p:=⟨b,k*3,none⟩) hb x).setCell (p:=⟨b,k*3+1,none⟩) hb y).setCell (p:=⟨b,k*3+2,none⟩) hb z
theorem ref_with (A:Option Addr)(n c:Nat)(room fuse:Int)(off:Bool)(k:Nat)(f:Fil)(l:List Fil)(w:World)(hd:Dsk w A n c l)(hk:k<n) :
  Calls Tryz.prog 149 #[dkv A n c room fuse off,.int .i64 k,f.val] w fun e w'=>RetOwnD w n room fuse off (l.set k f) e w':=by
 have HD:=hid hd
 have hnm:=hd.max
 unfold maxLen at hnm
 clear hd
 obtain⟨a,b,d⟩:=f
 have q4:(k:Int)<(n:Int):=by omega
 have q5:0≤(k:Int):=by omega
 go_enter Tryz.func149,Tryz.ntmps149
 go_upto_region 1 with (fail)
 have X:=hid (And.intro (Bx.new w [.slice A n c,.int .i64 room,.int .i64 fuse,.bool off] 24) (And.intro (Bx.new (w.alloc (.cells #[.slice A n c,.int .i64 room,.int .i64 fuse,.bool off] 24)) [.string a,.string b,.string d] 119) (Bx.new ((w.alloc (.cells #[.slice A n c,.int .i64 room,.int .i64 fuse,.bool off] 24)).alloc (.cells #[.string a,.string b,.string d] 119)) [.slice none 0 0,.int .i64 0,.int .i64 0,.bool false] 24)))
 simp only[World.size_alloc] at X
 have Y:=hid (And.intro ((X.out.1.alloc (.cells #[.string a,.string b,.string d] 119)).alloc (.cells #[.slice none 0 0,.int .i64 0,.int .i64 0,.bool false] 24)) (And.intro (X.out.2.1.alloc (.cells #[.slice none 0 0,.int .i64 0,.int .i64 0,.bool false] 24)) (And.intro X.out.2.2 ((((Q.refl w).alloc (.cells #[.slice A n c,.int .i64 room,.int .i64 fuse,.bool off] 24)).alloc (.cells #[.string a,.string b,.string d] 119)).alloc (.cells #[.slice none 0 0,.int .i64 0,.int .i64 0,.bool false] 24)))))
 clear X
 generalize (((w.alloc (.cells #[.slice A n c,.int .i64 room,.int .i64 fuse,.bool off] 24)).alloc (.cells #[.string a,.string b,.string d] 119)).alloc (.cells #[.slice none 0 0,.int .i64 0,.int .i64 0,.bool false] 24))=W at Y ⊢
 obtain⟨⟨e0,e1,e2,e3⟩,_⟩:=Y.out.1.get4
 have z0:w.heap.size<W.heap.size:=Y.out.1.lt
 have z1:w.heap.size≠W.heap.size:=by omega
 go_upto_region 2 with (at_builtin
                        refine wpl_app rfl (.tmp 8) (.tmp 10) rfl W.heap.size (some ⟨W.heap.size,0,none⟩) 0 0 [] rfl (own_lit0 W _ (Nat.le_refl _)) A n c l rfl (HD.out.files.q (Y.out.2.2.2.alloc _)) HD.out.nil (by have:=HD.out.few;omega) (by simp) ?_
                        intro A1 c1 w1 ho1 hb1)
 rw[Nat.zero_add,List.nil_append] at ho1
 obtain⟨g,rfl,hg⟩:∃ g,A1=some ⟨g,0,none⟩∧W.heap.size≤g:=by
  rcases ho1.parts with ⟨_,e,_⟩ | ⟨g,cur,rfl,hb,_⟩
  · omega
  · exact⟨g,rfl,hb⟩
 have z2:w.heap.size+1<W.heap.size:=Y.out.2.1.lt
 have z3:w.heap.size+1+1<W.heap.size:=Y.out.2.2.1.lt
 have D1:=(Y.out.1.alloc (.cells #[] 119)).below hb1 z0
 have F1:=(Y.out.2.1.alloc (.cells #[] 119)).below hb1 z2
 have R1:=(Y.out.2.2.1.alloc (.cells #[] 119)).below hb1 z3
 have Q1:Q w w1:=(Y.out.2.2.2.alloc (.cells #[] 119)).below.trans (hb1.mono (by have:=Y.out.2.2.2.size;omega))
 have hkl:k<l.length:=by have:=ho1.len;omega
 obtain⟨c0,c1',c2,gw⟩:=own_file ho1 hkl
 have w0:w1.frozen? ⟨g,k*3,none⟩=false:=World.ownsRow.frozenAt ho1 _
 have w1':w1.frozen? ⟨g,k*3+1,none⟩=false:=World.ownsRow.frozenAt ho1 _
 have w2':w1.frozen? ⟨g,k*3+2,none⟩=false:=World.ownsRow.frozenAt ho1 _
 have n0:g≠w.heap.size:=by omega
 have n1:g≠w.heap.size+1+1:=by omega
 have Z:=hid (And.intro (show Own (((w1.setCell ⟨g,k*3,none⟩ (.string a)).setCell ⟨g,k*3+1,none⟩ (.string b)).setCell ⟨g,k*3+2,none⟩ (.string d)) W.heap.size (some ⟨g,0,none⟩) n c1 (l.set k ⟨a,b,d⟩) from (ho1.set3 hk ⟨a,b,d⟩).1) (And.intro (D1.far3 (k:=k) n0 (.string a) (.string b) (.string d)) (And.intro (R1.far3 (k:=k) n1 (.string a) (.string b) (.string d)) (Q1.set3g (k:=k) (b:=g) (by have:=Y.out.2.2.2.size;omega) (.string a) (.string b) (.string d)))))
 clear e0 e1 e2 e3 ho1 hb1 D1 R1 Q1
 obtain⟨⟨x0,x1,x2⟩,_⟩:=F1.get3
 clear F1
 go_upto_region 3 with (fail)
 generalize (((w1.setCell ⟨g,k*3,none⟩ (.string a)).setCell ⟨g,k*3+1,none⟩ (.string b)).setCell ⟨g,k*3+2,none⟩ (.string d))=w2 at Z ⊢
 clear x0 x1 x2 c0 c1' c2 w0 w1' w2' gw
 obtain⟨O2,D2,R2,Q2⟩:=Z.out
 obtain⟨⟨e0,e1,e2,e3⟩,f0,f1,f2,f3⟩:=D2.get4
 obtain⟨⟨s0,s1,s2,s3⟩,h0,h1,h2,h3⟩:=R2.get4
 clear O2 D2 R2 Q2
 go_wp2
 refine bodyPost_ret (v:=dkv (some ⟨g,0,none⟩) n c1 room fuse off) (by simp[results,Tryz.results149,go_sem,s0,s1,s2,s3]) rfl ⟨some ⟨g,0,none⟩,c1,rfl,?_,?_⟩
 · exact((Z.out.1.setCell (p:=⟨w.heap.size,0,none⟩) z0 _).set4 (b:=w.heap.size+1+1) z3 _ _ _ _).lower (by omega)
 · exact(Z.out.2.2.2.setCell (p:=⟨w.heap.size,0,none⟩) (Nat.le_refl _) _).set4 (b:=w.heap.size+1+1) (by omega) _ _ _ _
theorem wrap_two (r:Int)(a b:Nat):wrap64 (wrap64 (r+a)+b)=wrap64 (r+((a+b:Nat):Int)):=by unfold wrap64;omega
theorem files_take {w:World}{A:Option Addr}{n:Nat}{l:List Fil}(h:Files w A n l){k:Nat}(hk:k≤n):Files w A k (l.take k):=by
 have hl:=h.len
 refine⟨by rw[rows_length,List.length_take];omega,fun j u hu=>?_⟩
 rw[rows_take,List.getElem?_take] at hu
 split at hu
 · exact h.2 j u hu
 · cases hu
theorem files_drop {w:World}{ad:Addr}{n:Nat}{l:List Fil}(h:Files w (some ad) n l){k:Nat}(hk:k≤n):Files w (some (ad.add (k*3))) (n - k) (l.drop k):=by
 have hl:=h.len
 refine⟨by rw[rows_length,List.length_drop];omega,fun j u hu=>?_⟩
 rw[rows_drop,List.getElem?_drop] at hu
 obtain⟨ad',e,hb,hc⟩:=h.2 _ u hu
 injection e with e
 subst e
 exact⟨_,rfl,by rw[addr_block];exact hb,by rw[addr_add];exact hc⟩
theorem ref_less0 (ad : Addr)(n c:Nat)(room fuse:Int)(off:Bool)(k:Nat)(l:List Fil)(w:World)(hd:Dsk w (some ad) n c l)(hk:k<n)(hkl:k<l.length)(hs:l[k].sf.size+l[k].wt.size≤maxLen)(room2:Int)(hR:wrap64 (wrap64 (room+(l[k].sf.size:Int))+(l[k].wt.size:Int))=room2) :
  Calls Tryz.prog 107 #[dkv (some ad) n c room fuse off,.int .i64 k] w fun e w'=>RetOwnD w (n - 1) room2 fuse off (l.eraseIdx k) e w':=by
 have HR:=hid hR
 clear hR
 have HD:=hid hd
 have hnm:=hd.max
 have hcap:=hd.cap
 have hle:=hd.le
 unfold maxLen at hnm hs hcap
 clear hd
 have q4:(k:Int)<(n:Int):=by omega
 have q5:0≤(k:Int):=by omega
 have q6:(k:Int)+1≤(n:Int):=by omega
 have q7:0≤(k:Int)+1:=by omega
 have q8:(k:Int)≤(c:Int):=by omega
 have q9:k≤c:=by omega
 have q10:k+1≤n:=by omega
 go_enter Tryz.func107,Tryz.ntmps107
 go_upto_region 1 with (fail)
 have B0:=two_new w (.slice (some ad) n c) (.int .i64 room) (.int .i64 fuse) (.bool off) (.slice none 0 0) (.int .i64 0) (.int .i64 0) (.bool false) 24
 have Y:=hid (And.intro B0.1 (And.intro B0.2 (((Q.refl w).alloc (.cells #[.slice (some ad) n c,.int .i64 room,.int .i64 fuse,.bool off] 24)).alloc (.cells #[.slice none 0 0,.int .i64 0,.int .i64 0,.bool false] 24))))
 clear B0
 generalize ((w.alloc (.cells #[.slice (some ad) n c,.int .i64 room,.int .i64 fuse,.bool off] 24)).alloc (.cells #[.slice none 0 0,.int .i64 0,.int .i64 0,.bool false] 24))=W at Y ⊢
 obtain⟨⟨e0,e1,e2,e3⟩,f0,f1,f2,f3⟩:=Y.out.1.get4
 obtain⟨ad',e,hb,c0,c1,c2⟩:=(HD.out.files.q Y.out.2.2).load hk hkl
 injection e with e
 subst e
 go_wp2
 go_region
 rw[HR.out]
 have Z:=hid (And.intro ((Y.out.1.set (k:=1) (by simp) (.int .i64 room2)).drew) (And.intro ((Y.out.2.1.far (p:=⟨w.heap.size,1,none⟩) (by simp) (.int .i64 room2)).drew) ((Y.out.2.2.setCell (p:=⟨w.heap.size,1,none⟩) (Nat.le_refl _) (.int .i64 room2)).drew)))
 clear e0 e1 e2 e3 f0 f1 f2 f3 c0 c1 c2 hb Y
 generalize (W.setCell ⟨w.heap.size,1,none⟩ (.int .i64 room2)).drew=W2 at Z ⊢
 obtain⟨⟨e0,e1,e2,e3⟩,_⟩:=Z.out.1.get4
 have z0:w.heap.size<W2.heap.size:=Z.out.1.lt
 have z1:w.heap.size+1<W2.heap.size:=Z.out.2.1.lt
 have z2:w.heap.size≠W2.heap.size:=by omega
 have hfew:=HD.out.few
 have hlen:=HD.out.len
 go_upto_region 3 with (at_builtin
                        refine wpl_app rfl (.tmp 25) (.tmp 29) rfl W2.heap.size (some ⟨W2.heap.size,0,none⟩) 0 0 [] rfl (own_lit0 W2 _ (Nat.le_refl _)) (some ad) k c (l.take k) rfl (files_take (HD.out.files.q (Z.out.2.2.alloc _)) (by omega)) (fun e=>by cases e) (by omega) (by simp) ?_
                        intro A1 c1 w1 ho1 hb1)
 rw[Nat.zero_add,List.nil_append] at ho1
 have D1:=(Z.out.1.alloc (.cells #[] 119)).below hb1 z0
 have R1:=(Z.out.2.1.alloc (.cells #[] 119)).below hb1 z1
 have Q1:Q w w1:=(Z.out.2.2.alloc (.cells #[] 119)).below.trans (hb1.mono Z.out.2.2.size)
 have s1:W2.heap.size≤w1.heap.size:=by have:=hb1.size;simp at this;omega
 have V:=hid (And.intro ho1 (And.intro D1 (And.intro R1 Q1)))
 clear e0 e1 e2 e3 hb1 ho1 R1 Q1
 obtain⟨⟨e0,e1,e2,e3⟩,f0,f1,f2,f3⟩:=D1.get4
 clear D1
 by_cases hck:c=k+1
 · have e:n=k+1:=by omega
   subst e
   subst hck
   go_upto_region 4 with (at_builtin
                          refine wpl_app rfl (.tmp 31) (.tmp 36) rfl W2.heap.size A1 k c1 (l.take k) rfl V.out.1 (some ad) 0 0 [] rfl (Holds.none_ _ _ _ _) (fun e=>by cases e) (by omega) s1 ?_
                          intro A3 c3 w3 ho3 hb3
                          obtain⟨⟨x0,x1,x2,x3⟩,y0,y1,y2,y3⟩:=(V.out.2.1.below hb3 z0).get4)
   rw[Nat.add_zero,List.append_nil,show l.take k=l.eraseIdx k by rw[List.eraseIdx_eq_take_drop_succ,List.drop_eq_nil_of_le (by omega),List.append_nil]] at ho3
   have n1:w.heap.size+1<W2.heap.size:=z1
   have U:=hid (And.intro (ho3.setCell (p:=⟨w.heap.size,0,none⟩) z0 (.slice A3 k c3)) (And.intro ((V.out.2.1.below hb3 z0).set (k:=0) (by simp) (.slice A3 k c3)) (And.intro ((V.out.2.2.1.below hb3 z1).far (p:=⟨w.heap.size,0,none⟩) (by simp) (.slice A3 k c3)) ((show Q w w3 from V.out.2.2.2.below.trans (hb3.mono Z.out.2.2.size)).setCell (p:=⟨w.heap.size,0,none⟩) (Nat.le_refl _) (.slice A3 k c3)))))
   clear ho3 hb3 x0 x1 x2 x3 y0 y1 y2 y3 e0 e1 e2 e3 f0 f1 f2 f3
   generalize w3.setCell ⟨w.heap.size,0,none⟩ (.slice A3 k c3)=w4 at U ⊢
   obtain⟨O4,D4,R4,Q4⟩:=U.out
   obtain⟨⟨e0,e1,e2,e3⟩,_⟩:=Bx.get4 (x:=.slice A3 k c3) (y:=.int .i64 room2) (z:=.int .i64 fuse) (u:=.bool off) D4
   obtain⟨⟨t0,t1,t2,t3⟩,h0,h1,h2,h3⟩:=R4.get4
   clear O4 D4 R4 Q4
   go_wp2
   refine bodyPost_ret (v:=dkv A3 k c3 room2 fuse off) (by simp[results,Tryz.results107,go_sem,t0,t1,t2,t3]) rfl ⟨A3,c3,rfl,?_,?_⟩
   · exact(U.out.1.set4 (b:=w.heap.size+1) z1 _ _ _ _).lower (by omega)
   · exact U.out.2.2.2.set4 (b:=w.heap.size+1) (by omega) _ _ _ _
 · go_upto_region 4 with (at_builtin
                          refine wpl_app rfl (.tmp 31) (.tmp 36) rfl W2.heap.size A1 k c1 (l.take k) rfl V.out.1 (some (ad.add ((k+1)*3))) (n - (k+1)) (c - (k+1)) (l.drop (k+1)) rfl (files_drop (HD.out.files.q V.out.2.2.2) (by omega)) (fun e=>by cases e) (by omega) s1 ?_
                          intro A3 c3 w3 ho3 hb3
                          obtain⟨⟨x0,x1,x2,x3⟩,y0,y1,y2,y3⟩:=(V.out.2.1.below hb3 z0).get4)
   have ek:k+(n - (k+1))=n - 1:=by omega
   rw[ek,←List.eraseIdx_eq_take_drop_succ] at ho3
   rw[ek]
   have n1:w.heap.size+1<W2.heap.size:=z1
   have U:=hid (And.intro (ho3.setCell (p:=⟨w.heap.size,0,none⟩) z0 (.slice A3 (n - 1) c3)) (And.intro ((V.out.2.1.below hb3 z0).set (k:=0) (by simp) (.slice A3 (n - 1) c3)) (And.intro ((V.out.2.2.1.below hb3 z1).far (p:=⟨w.heap.size,0,none⟩) (by simp) (.slice A3 (n - 1) c3)) ((show Q w w3 from V.out.2.2.2.below.trans (hb3.mono Z.out.2.2.size)).setCell (p:=⟨w.heap.size,0,none⟩) (Nat.le_refl _) (.slice A3 (n - 1) c3)))))
   clear ho3 hb3 x0 x1 x2 x3 y0 y1 y2 y3 e0 e1 e2 e3 f0 f1 f2 f3
   generalize w3.setCell ⟨w.heap.size,0,none⟩ (.slice A3 (n - 1) c3)=w4 at U ⊢
   obtain⟨O4,D4,R4,Q4⟩:=U.out
   obtain⟨⟨e0,e1,e2,e3⟩,_⟩:=Bx.get4 (x:=.slice A3 (n - 1) c3) (y:=.int .i64 room2) (z:=.int .i64 fuse) (u:=.bool off) D4
   obtain⟨⟨t0,t1,t2,t3⟩,h0,h1,h2,h3⟩:=R4.get4
   clear O4 D4 R4 Q4
   go_wp2
   refine bodyPost_ret (v:=dkv A3 (n - 1) c3 room2 fuse off) (by simp[results,Tryz.results107,go_sem,t0,t1,t2,t3]) rfl ⟨A3,c3,rfl,?_,?_⟩
   · exact(U.out.1.set4 (b:=w.heap.size+1) z1 _ _ _ _).lower (by omega)
   · exact U.out.2.2.2.set4 (b:=w.heap.size+1) (by omega) _ _ _ _
theorem ref_less (ad:Addr)(n c:Nat)(room fuse:Int)(off:Bool)(k:Nat)(l:List Fil)(w:World)(hd:Dsk w (some ad) n c l)(hk:k<n)(hkl:k<l.length)(hs:l[k].sf.size+l[k].wt.size≤maxLen) :
  Calls Tryz.prog 107 #[dkv (some ad) n c room fuse off,.int .i64 k] w fun e w'=>RetOwnD w (n - 1) (wrap64 (room+((l[k].sf.size+l[k].wt.size:Nat):Int))) fuse off (l.eraseIdx k) e w':=
 ref_less0 ad n c room fuse off k l w hd hk hkl hs _ (wrap_two _ _ _)
end
section
open Go.RowKit Dkm
def RetDK (w:World)(A0:Option Addr)(n0:Nat)(d:Dk)(er:Int)(e:Ending)(w':World):Prop:=
 ∃ A' n' c',e=.returned (.tuple #[dkv A' n' c' d.room d.fuse d.off,.int .i64 er])∧Dsk w' A' n' c' d.fs∧(A'=A0∧n'=n0∨∀ ad,A'=some ad→w.heap.size≤ad.block)∧Q w w'
structure Sb (w:World) (A:Option Addr) (n c:Nat) (room fuse:Int) (off:Bool) (wr:World):Prop where
 box:Bx wr w.heap.size [.slice A n c,.int .i64 room,.int .i64 fuse,.bool off]
 res:Bx wr (w.heap.size+1) [.slice none 0 0,.int .i64 0,.int .i64 0,.bool false]
 q:Q w wr
theorem Sb.new (w:World)(A:Option Addr)(n c:Nat)(room fuse:Int)(off:Bool):Sb w A n c room fuse off ((w.alloc (.cells #[.slice A n c,.int .i64 room,.int .i64 fuse,.bool off] 24)).alloc (.cells #[.slice none 0 0,.int .i64 0,.int .i64 0,.bool false] 24)):=
 ⟨(two_new w (.slice A n c) (.int .i64 room) (.int .i64 fuse) (.bool off) (.slice none 0 0) (.int .i64 0) (.int .i64 0) (.bool false) 24).1,(two_new w (.slice A n c) (.int .i64 room) (.int .i64 fuse) (.bool off) (.slice none 0 0) (.int .i64 0) (.int .i64 0) (.bool false) 24).2,((Q.refl w).alloc _).alloc _⟩
section
variable {w wr:World} {A:Option Addr} {n c:Nat} {room fuse:Int} {off:Bool}
theorem Sb.step {w2:World}(h:Sb w A n c room fuse off wr)(q:Q wr w2):Sb w A n c room fuse off w2:=⟨h.box.q q,h.res.q q,h.q.trans q⟩
theorem Sb.put4 (h:Sb w A n c room fuse off wr)(A2:Option Addr)(n2 c2:Nat)(room2 fuse2:Int)(off2:Bool) :
  Sb w A2 n2 c2 room2 fuse2 off2 ((((wr.setCell ⟨w.heap.size,0,none⟩ (.slice A2 n2 c2)).setCell ⟨w.heap.size,1,none⟩ (.int .i64 room2)).setCell ⟨w.heap.size,2,none⟩ (.int .i64 fuse2)).setCell ⟨w.heap.size,3,none⟩ (.bool off2)):=
 ⟨h.box.put4 _ _ _ _,h.res.far4 (c:=w.heap.size) (by omega) _ _ _ _,h.q.set4 (b:=w.heap.size) (Nat.le_refl _) _ _ _ _⟩
theorem Sb.get (h:Sb w A n c room fuse off wr):((wr.cell? ⟨w.heap.size,0,none⟩=some (.slice A n c)∧wr.cell? ⟨w.heap.size,1,none⟩=some (.int .i64 room)∧wr.cell? ⟨w.heap.size,2,none⟩=some (.int .i64 fuse)∧wr.cell? ⟨w.heap.size,3,none⟩=some (.bool off)) ∧
 wr.frozen? ⟨w.heap.size,0,none⟩=false∧wr.frozen? ⟨w.heap.size,1,none⟩=false∧wr.frozen? ⟨w.heap.size,2,none⟩=false∧wr.frozen? ⟨w.heap.size,3,none⟩=false):=h.box.get4
theorem Sb.getR (h:Sb w A n c room fuse off wr):((wr.cell? ⟨w.heap.size+1,0,none⟩=some (.slice none 0 0)∧wr.cell? ⟨w.heap.size+1,1,none⟩=some (.int .i64 0)∧wr.cell? ⟨w.heap.size+1,2,none⟩=some (.int .i64 0)∧wr.cell? ⟨w.heap.size+1,3,none⟩=some (.bool false)) ∧
 wr.frozen? ⟨w.heap.size+1,0,none⟩=false∧wr.frozen? ⟨w.heap.size+1,1,none⟩=false∧wr.frozen? ⟨w.heap.size+1,2,none⟩=false∧wr.frozen? ⟨w.heap.size+1,3,none⟩=false):=h.res.get4
theorem Sb.endK (h:Sb w A n c room fuse off wr){l:List Fil}(hd:Dsk w A n c l)(er:Int)(x y z u:Value):RetDK w A n ⟨l,room,fuse,off⟩ er (.returned (.tuple #[dkv A n c room fuse off,.int .i64 er])) ((((wr.setCell ⟨w.heap.size+1,0,none⟩ x).setCell ⟨w.heap.size+1,1,none⟩ y).setCell ⟨w.heap.size+1,2,none⟩ z).setCell ⟨w.heap.size+1,3,none⟩ u):=
 ⟨A,n,c,rfl,hd.q (h.q.set4 (b:=w.heap.size+1) (by omega) _ _ _ _),.inl ⟨rfl,rfl⟩,h.q.set4 (b:=w.heap.size+1) (by omega) _ _ _ _⟩
theorem Sb.endO (h:Sb w A n c room fuse off wr){w2:World}(q:Q wr w2){A2:Option Addr}{n2 c2:Nat}{d:Dk}(ho:Own w2 wr.heap.size A2 n2 c2 d.fs)(hn:n2*48≤140737488355328){A0:Option Addr}{n0:Nat}(er:Int)(x y z u:Value):RetDK w A0 n0 d er (.returned (.tuple #[dkv A2 n2 c2 d.room d.fuse d.off,.int .i64 er])) ((((w2.setCell ⟨w.heap.size+1,0,none⟩ x).setCell ⟨w.heap.size+1,1,none⟩ y).setCell ⟨w.heap.size+1,2,none⟩ z).setCell ⟨w.heap.size+1,3,none⟩ u):=
 ⟨A2,n2,c2,rfl,(ho.set4 h.res.lt _ _ _ _).dsk hn,.inr (fun ad e=>by
   have h2:=h.q.size
   rcases ho.2 with ⟨e',_⟩ | ⟨g,cap,cur,e',hb,_⟩
   · simp only[Value.slice.injEq] at e';rw[e'.1] at e;cases e
   · simp only[Value.slice.injEq] at e';rw[e'.1] at e;injection e with e;subst e;simp only;omega),(h.q.trans q).set4 (b:=w.heap.size+1) (by omega) _ _ _ _⟩
end
theorem ref_del_off (nm:ByteArray)(A:Option Addr)(n c:Nat)(room fuse:Int)(l:List Fil)(w:World)(hd:Dsk w A n c l) :
  Calls Tryz.prog 59 #[dkv A n c room fuse true,.string nm] w fun e w'=>RetDK w A n ⟨l,room,fuse,true⟩ 6 e w':=by
 have HD:=hid hd
 clear hd
 go_enter Tryz.func59,Tryz.ntmps59
 go_wp2
 refine bodyPost_ret (v:=.tuple #[dkv A n c room fuse true,.int .i64 6]) (by simp[results,Tryz.results59,go_sem]) rfl ?_
 exact⟨A,n,c,rfl,HD.out.q (((Q.refl _).alloc _).alloc _),.inl ⟨rfl,rfl⟩,((Q.refl _).alloc _).alloc _⟩
theorem ref_del_none (nm:ByteArray)(A:Option Addr)(n c:Nat)(room fuse:Int)(l:List Fil)(w:World)(hd:Dsk w A n c l)(p:Int)(hp:plc nm l 0=p)(h0:p<0) :
  Calls Tryz.prog 59 #[dkv A n c room fuse false,.string nm] w fun e w'=>RetDK w A n ⟨l,room,fuse,false⟩ 7 e w':=by
 have HD:=hid hd
 have HP:=hid hp
 clear hd hp
 have S0:=hid (Sb.new w A n c room fuse false)
 go_enter Tryz.func59,Tryz.ntmps59
 go_wp2_with fail
 refine(ref_at nm A n c room fuse false l _ (HD.out.files.q S0.out.q) HD.out.max).mono ?_
 rw[HP.out]
 rintro e w1 ⟨rfl,q1⟩
 have S1:=hid (S0.out.step q1)
 clear S0 q1
 obtain⟨⟨e0,e1,e2,e3⟩,f0,f1,f2,f3⟩:=S1.out.get
 obtain⟨⟨s0,s1,s2,s3⟩,h0',h1,h2,h3⟩:=S1.out.getR
 go_wp2
 refine bodyPost_ret (v:=.tuple #[dkv A n c room fuse false,.int .i64 7]) (by simp[results,Tryz.results59,go_sem,s0,s1,s2,s3]) rfl ?_
 exact S1.out.endK HD.out 7 _ _ _ _
theorem ref_del_dead (nm:ByteArray)(A:Option Addr)(n c:Nat)(room:Int)(l:List Fil)(w:World)(hd:Dsk w A n c l)(k:Nat)(hp:plc nm l 0=k) :
  Calls Tryz.prog 59 #[dkv A n c room 0 false,.string nm] w fun e w'=>RetDK w A n ⟨l,room,0,true⟩ 6 e w':=by
 have HD:=hid hd
 have HP:=hid hp
 clear hd hp
 have S0:=hid (Sb.new w A n c room 0 false)
 go_enter Tryz.func59,Tryz.ntmps59
 go_wp2_with fail
 refine(ref_at nm A n c room 0 false l _ (HD.out.files.q S0.out.q) HD.out.max).mono ?_
 rw[HP.out]
 rintro e w1 ⟨rfl,q1⟩
 have S1:=hid (S0.out.step q1)
 clear S0 q1
 obtain⟨⟨e0,e1,e2,e3⟩,f0,f1,f2,f3⟩:=S1.out.get
 go_wp2_with fail
 have k2:=ref_power A n c ⟨l,room,0,false⟩ w1 (by simp)
 rw[pow_zero] at k2
 refine k2.mono ?_
 clear k2
 rintro e w2 ⟨rfl,q2⟩
 have S2:=hid ((S1.out.step q2).put4 A n c room 0 true)
 have P2:=S1.out.step q2
 clear S1 q2 e0 e1 e2 e3 f0 f1 f2 f3
 obtain⟨⟨e0,e1,e2,e3⟩,f0,f1,f2,f3⟩:=P2.get
 clear P2
 go_upto_region 6 with (fail)
 generalize ((((w2.setCell ⟨w.heap.size,0,none⟩ (.slice A n c)).setCell ⟨w.heap.size,1,none⟩ (.int .i64 room)).setCell ⟨w.heap.size,2,none⟩ (.int .i64 0)).setCell ⟨w.heap.size,3,none⟩ (.bool true))=w3 at S2 ⊢
 clear e0 e1 e2 e3 f0 f1 f2 f3
 obtain⟨⟨e0,e1,e2,e3⟩,f0,f1,f2,f3⟩:=S2.out.get
 obtain⟨⟨s0,s1,s2,s3⟩,h0',h1,h2,h3⟩:=S2.out.getR
 go_wp2
 refine bodyPost_ret (v:=.tuple #[dkv A n c room 0 true,.int .i64 6]) (by simp[results,Tryz.results59,go_sem,s0,s1,s2,s3]) rfl ?_
 exact S2.out.endK HD.out 6 _ _ _ _
theorem ref_del_yes (nm:ByteArray)(A:Option Addr)(n c:Nat)(room fuse:Int)(l:List Fil)(w:World)(hd:Dsk w A n c l)(hfu:fuse≤9223372036854775807)(k:Nat)(hk:k<l.length)(hp:plc nm l 0=k)(f2:Int)(hpw:pow ⟨l,room,fuse,false⟩=(⟨l,room,f2,false⟩,true))(hs:l[k].sf.size+l[k].wt.size≤maxLen)(room2:Int)(hR:wrap64 (room+((l[k].sf.size+l[k].wt.size:Nat):Int))=room2) :
  Calls Tryz.prog 59 #[dkv A n c room fuse false,.string nm] w fun e w'=>RetDK w A n ⟨l.eraseIdx k,room2,f2,false⟩ 0 e w':=by
 have hkn:k<n:=by have:=hd.len;omega
 obtain⟨ad,rfl⟩:∃ ad,A=some ad:=by
  cases A with
  | none=>have:=hd.nil rfl;omega
  | some ad=>exact⟨ad,rfl⟩
 have HD:=hid hd
 have HP:=hid hp
 have HW:=hid hpw
 have HS:=hid hs
 have HR:=hid hR
 have hfew:=hd.few
 clear hd hp hpw hs hR
 have S0:=hid (Sb.new w (some ad) n c room fuse false)
 go_enter Tryz.func59,Tryz.ntmps59
 go_wp2_with fail
 refine(ref_at nm (some ad) n c room fuse false l _ (HD.out.files.q S0.out.q) HD.out.max).mono ?_
 rw[HP.out]
 rintro e w1 ⟨rfl,q1⟩
 have S1:=hid (S0.out.step q1)
 clear S0 q1
 obtain⟨⟨e0,e1,e2,e3⟩,f0,f1,f2',f3⟩:=S1.out.get
 go_wp2_with fail
 have k2:=ref_power (some ad) n c ⟨l,room,fuse,false⟩ w1 hfu
 rw[HW.out] at k2
 refine k2.mono ?_
 clear k2
 rintro e w2 ⟨rfl,q2⟩
 have S2:=hid ((S1.out.step q2).put4 (some ad) n c room f2 false)
 have P2:=S1.out.step q2
 clear S1 q2 e0 e1 e2 e3 f0 f1 f2' f3
 obtain⟨⟨e0,e1,e2,e3⟩,f0,f1,f2',f3⟩:=P2.get
 clear P2
 go_upto_region 6 with (fail)
 generalize ((((w2.setCell ⟨w.heap.size,0,none⟩ (.slice (some ad) n c)).setCell ⟨w.heap.size,1,none⟩ (.int .i64 room)).setCell ⟨w.heap.size,2,none⟩ (.int .i64 f2)).setCell ⟨w.heap.size,3,none⟩ (.bool false))=W at S2 ⊢
 clear e0 e1 e2 e3 f0 f1 f2' f3
 obtain⟨⟨e0,e1,e2,e3⟩,f0,f1,f2',f3⟩:=S2.out.get
 go_wp2
 go_region_held3 (fun w'=>w'.cell? ⟨w.heap.size,0,none⟩=some (.slice (some ad) n c)∧w'.cell? ⟨w.heap.size,1,none⟩=some (.int .i64 room)∧w'.cell? ⟨w.heap.size,2,none⟩=some (.int .i64 f2)∧w'.cell? ⟨w.heap.size,3,none⟩=some (.bool false))
   (first
     | go_keep
     | (go_split_ands
        (repeat' apply And.intro)<;>exact box_ ‹Q _ _› (by assumption)))
   (first
     | (go_at_call 105
        refine(ref_at nm (some ad) n c room f2 false l _ (HD.out.files.q S2.out.q.drew) HD.out.max).mono ?_
        rw[HP.out]
        rintro e w4 ⟨rfl,q4⟩)
     | (go_at_call 107
        refine(ref_less ad n c room f2 false k l _ (HD.out.q (S2.out.q.drew.trans q4)) hkn hk HS.out).mono ?_
        rw[HR.out]
        rintro e w5 ⟨A5,c5,rfl,ho5,q5⟩
        obtain⟨⟨s0,s1,s2,s3⟩,h0',h1,h2,h3⟩:=(S2.out.step (((Q.refl W).drew.trans q4).trans q5)).getR))
 go_wp2
 refine bodyPost_ret (v:=.tuple #[dkv A5 (n - 1) c5 room2 f2 false,.int .i64 0]) (by simp[results,Tryz.results59,go_sem,s0,s1,s2,s3]) rfl ?_
 exact(S2.out.step ((Q.refl W).drew.trans q4)).endO (d:=⟨l.eraseIdx k,room2,f2,false⟩) q5 ho5 (by omega) 0 _ _ _ _
end
section
open Go.RowKit Dkm Wm
structure Sv (w:World) (A:Option Addr) (n c:Nat) (d:Dk) (wr:World):Prop where
 sb:Sb w A n c d.room d.fuse d.off wr
 dsk:Dsk wr A n c d.fs
 away:0<n→∀ ad,A=some ad→ad.block≠w.heap.size∧ad.block≠w.heap.size+1
def Far (w:World)(A:Option Addr):Prop:=∀ ad,A=some ad→w.heap.size≤ad.block
section
variable {w wr:World} {A:Option Addr} {n c:Nat} {d:Dk}
theorem Sv.step {w2:World}(h:Sv w A n c d wr)(q:Q wr w2):Sv w A n c d w2:=⟨h.sb.step q,h.dsk.q q,h.away⟩
theorem Files.blk {w:World}{A:Option Addr}{n:Nat}{l:List Fil}(h:Files w A n l)(hn:0<n):∀ ad,A=some ad→ad.block<w.heap.size:=by
 intro ad e
 have hl:=h.len
 obtain⟨ad',e',hb,_⟩:=h.load (k:=0) hn (by omega)
 rw[e] at e';injection e' with e';subst e';exact hb
theorem Dsk.away1 {w:World}{l:List Fil}(h:Dsk w A n c l){b:Nat}(ha:0<n→∀ ad,A=some ad→ad.block≠b)(o:Nat)(u:Value):Dsk (w.setCell ⟨b,o,none⟩ u) A n c l:=by
 by_cases hn:0<n
 · exact h.away (ha hn) o u
 · have e:n=0:=by omega
   subst e
   have hl:l=[]:=List.eq_nil_of_length_eq_zero h.len
   subst hl
   exact⟨Holds.none_ _ _ _ _,h.nil,h.le,h.cap,h.few⟩
theorem Sv.new (w:World)(h:Dsk w A n c d.fs):Sv w A n c d ((w.alloc (.cells #[.slice A n c,.int .i64 d.room,.int .i64 d.fuse,.bool d.off] 24)).alloc (.cells #[.slice none 0 0,.int .i64 0,.int .i64 0,.bool false] 24)):=
 ⟨Sb.new w A n c d.room d.fuse d.off,h.q (((Q.refl _).alloc _).alloc _),fun hn ad e=>by have:=h.files.blk hn ad e;omega⟩
theorem Sv.put {w5:World}{A5:Option Addr}{n5 c5:Nat}{d5:Dk}(h:Sv w A n c d wr)(q:Q wr w5)(ho:Own w5 wr.heap.size A5 n5 c5 d5.fs)(hn:n5*48≤140737488355328) :
  Sv w A5 n5 c5 d5 ((((w5.setCell ⟨w.heap.size,0,none⟩ (.slice A5 n5 c5)).setCell ⟨w.heap.size,1,none⟩ (.int .i64 d5.room)).setCell ⟨w.heap.size,2,none⟩ (.int .i64 d5.fuse)).setCell ⟨w.heap.size,3,none⟩ (.bool d5.off))∧Far w A5:=by
 have hlt:=h.sb.res.lt
 exact⟨⟨(h.sb.step q).put4 A5 n5 c5 d5.room d5.fuse d5.off,(ho.set4 (b:=w.heap.size) (by omega) _ _ _ _).dsk hn,fun _ ad e=>by have:=ho.far_ ad e;omega⟩,fun ad e=>by have:=ho.far_ ad e;omega⟩
theorem Sv.putK {w5:World}{A5:Option Addr}{n5 c5:Nat}{d5:Dk}(h:Sv w A n c d wr)(q:Q wr w5)(ho:Dsk w5 A5 n5 c5 d5.fs)(hf:A5=A∧n5=n∨∀ ad,A5=some ad→wr.heap.size≤ad.block) :
  Sv w A5 n5 c5 d5 ((((w5.setCell ⟨w.heap.size,0,none⟩ (.slice A5 n5 c5)).setCell ⟨w.heap.size,1,none⟩ (.int .i64 d5.room)).setCell ⟨w.heap.size,2,none⟩ (.int .i64 d5.fuse)).setCell ⟨w.heap.size,3,none⟩ (.bool d5.off)):=by
 have hlt:=h.sb.res.lt
 have haw:0<n5→∀ ad,A5=some ad→ad.block≠w.heap.size∧ad.block≠w.heap.size+1:=by
  intro hn ad e
  rcases hf with ⟨rfl,rfl⟩ | hf
  · exact h.away hn ad e
  · have:=hf ad e;omega
 have a1:0<n5→∀ ad,A5=some ad→ad.block≠w.heap.size:=fun hn ad e=>(haw hn ad e).1
 exact⟨(h.sb.step q).put4 A5 n5 c5 d5.room d5.fuse d5.off,(((ho.away1 a1 0 _).away1 a1 1 _).away1 a1 2 _).away1 a1 3 _,haw⟩
theorem Sv.farK {A5 A0:Option Addr}{n5 n0:Nat}(h:Sv w A n c d wr)(h0:A=A0∧n=n0∨Far w A)(hf:A5=A∧n5=n∨∀ ad,A5=some ad→wr.heap.size≤ad.block):A5=A0∧n5=n0∨Far w A5:=by
 rcases hf with ⟨rfl,rfl⟩ | hf
 · exact h0
 · exact .inr fun ad e=>by have:=hf ad e;have:=h.sb.res.lt;omega
theorem Sv.endK (h:Sv w A n c d wr){A0:Option Addr}{n0:Nat}(hf:A=A0∧n=n0∨Far w A)(er:Int)(x y z u:Value) :
  RetDK w A0 n0 d er (.returned (.tuple #[dkv A n c d.room d.fuse d.off,.int .i64 er])) ((((wr.setCell ⟨w.heap.size+1,0,none⟩ x).setCell ⟨w.heap.size+1,1,none⟩ y).setCell ⟨w.heap.size+1,2,none⟩ z).setCell ⟨w.heap.size+1,3,none⟩ u):=
 ⟨A,n,c,rfl,(((h.dsk.away1 (fun hn ad e=>(h.away hn ad e).2) 0 _).away1 (fun hn ad e=>(h.away hn ad e).2) 1 _).away1 (fun hn ad e=>(h.away hn ad e).2) 2 _).away1 (fun hn ad e=>(h.away hn ad e).2) 3 _,hf,h.sb.q.set4 (b:=w.heap.size+1) (by omega) _ _ _ _⟩
end
theorem few_own {w:World}{base B:Nat}{A:Option Addr}{n c:Nat}{d:Dk}(h:Own w base A n c d.fs)(hB:Bnd B d):n*48≤140737488355328:=by have h1:=h.len;have h2:=hB.few;omega
end
section
open Go.RowKit Dkm
theorem nmOk_yes {nm:ByteArray}(h:nmOk nm=true):1≤nm.size∧nm.size≤16:=by simpa [nmOk] using h
theorem nmOk_no {nm:ByteArray}(h:nmOk nm=false):nm.size<1∨16<nm.size:=by
 have:¬ (1≤nm.size∧nm.size≤16):=by simpa [nmOk] using h
 omega
theorem ref_ren_off (fr to:ByteArray)(A:Option Addr)(n c:Nat)(room fuse:Int)(l:List Fil)(w:World)(hd:Dsk w A n c l) :
  Calls Tryz.prog 104 #[dkv A n c room fuse true,.string fr,.string to] w fun e w'=>RetDK w A n ⟨l,room,fuse,true⟩ 6 e w':=by
 have HD:=hid hd
 have hfew:=hd.few
 clear hd
 go_enter Tryz.func104,Tryz.ntmps104
 go_wp2
 refine bodyPost_ret (v:=.tuple #[dkv A n c room fuse true,.int .i64 6]) (by simp[results,Tryz.results104,go_sem]) rfl ?_
 exact⟨A,n,c,rfl,HD.out.q (((Q.refl _).alloc _).alloc _),.inl ⟨rfl,rfl⟩,((Q.refl _).alloc _).alloc _⟩
theorem ref_ren_arg (fr to:ByteArray)(A:Option Addr)(n c:Nat)(room fuse:Int)(l:List Fil)(w:World)(hd:Dsk w A n c l)(hk:nmOk to=false) :
  Calls Tryz.prog 104 #[dkv A n c room fuse false,.string fr,.string to] w fun e w'=>RetDK w A n ⟨l,room,fuse,false⟩ 1 e w':=by
 have HD:=hid hd
 have hfew:=hd.few
 clear hd
 rcases nmOk_no hk with h | h
 case' inl=>have h':(to.size:Int)<1:=by omega
 case' inr=>have h':¬ (to.size:Int)<1:=by omega
 all_goals
   clear hk
   go_enter Tryz.func104,Tryz.ntmps104
   go_wp2
   refine bodyPost_ret (v:=.tuple #[dkv A n c room fuse false,.int .i64 1]) (by simp[results,Tryz.results104,go_sem]) rfl ?_
   exact⟨A,n,c,rfl,HD.out.q (((Q.refl _).alloc _).alloc _),.inl ⟨rfl,rfl⟩,((Q.refl _).alloc _).alloc _⟩
theorem ref_ren_none (fr to:ByteArray)(A:Option Addr)(n c:Nat)(room fuse:Int)(l:List Fil)(w:World)(hd:Dsk w A n c l)(p:Int)(hp:plc fr l 0=p)(hk:nmOk to=true)(h0:p<0) :
  Calls Tryz.prog 104 #[dkv A n c room fuse false,.string fr,.string to] w fun e w'=>RetDK w A n ⟨l,room,fuse,false⟩ 7 e w':=by
 have HD:=hid hd
 have hfew:=hd.few
 clear hd
 obtain⟨o1,o2⟩:=nmOk_yes hk
 have o3:¬ (to.size:Int)<1:=by omega
 clear hk
 have HP:=hid hp
 clear hp
 have S0:=hid (Sb.new w A n c room fuse false)
 go_enter Tryz.func104,Tryz.ntmps104
 go_wp2_with fail
 refine(ref_at fr A n c room fuse false l _ (HD.out.files.q S0.out.q) HD.out.max).mono ?_
 rw[HP.out]
 rintro e w1 ⟨rfl,q1⟩
 have S1:=hid (S0.out.step q1)
 clear S0 q1
 obtain⟨⟨e0,e1,e2,e3⟩,f0,f1,f2',f3⟩:=S1.out.get
 obtain⟨⟨s0,s1,s2,s3⟩,h0',h1,h2,h3⟩:=S1.out.getR
 go_wp2
 refine bodyPost_ret (v:=.tuple #[dkv A n c room fuse false,.int .i64 7]) (by simp[results,Tryz.results104,go_sem,s0,s1,s2,s3]) rfl ?_
 exact S1.out.endK HD.out 7 _ _ _ _
theorem ref_ren_same (fr to:ByteArray)(A:Option Addr)(n c:Nat)(room fuse:Int)(l:List Fil)(w:World)(hd:Dsk w A n c l)(k:Nat)(hp:plc fr l 0=k)(hk:nmOk to=true)(he:fr=to) :
  Calls Tryz.prog 104 #[dkv A n c room fuse false,.string fr,.string to] w fun e w'=>RetDK w A n ⟨l,room,fuse,false⟩ 0 e w':=by
 have HD:=hid hd
 have hfew:=hd.few
 clear hd
 obtain⟨o1,o2⟩:=nmOk_yes hk
 have o3:¬ (to.size:Int)<1:=by omega
 clear hk
 have hb:=str_eqb he
 clear he
 have HP:=hid hp
 clear hp
 have S0:=hid (Sb.new w A n c room fuse false)
 go_enter Tryz.func104,Tryz.ntmps104
 go_wp2_with fail
 refine(ref_at fr A n c room fuse false l _ (HD.out.files.q S0.out.q) HD.out.max).mono ?_
 rw[HP.out]
 rintro e w1 ⟨rfl,q1⟩
 have S1:=hid (S0.out.step q1)
 clear S0 q1
 obtain⟨⟨e0,e1,e2,e3⟩,f0,f1,f2',f3⟩:=S1.out.get
 obtain⟨⟨s0,s1,s2,s3⟩,h0',h1,h2,h3⟩:=S1.out.getR
 go_wp2
 refine bodyPost_ret (v:=.tuple #[dkv A n c room fuse false,.int .i64 0]) (by simp[results,Tryz.results104,go_sem,s0,s1,s2,s3]) rfl ?_
 exact S1.out.endK HD.out 0 _ _ _ _
theorem ref_ren_dead (fr to:ByteArray)(A:Option Addr)(n c:Nat)(room:Int)(l:List Fil)(w:World)(hd:Dsk w A n c l)(k:Nat)(hp:plc fr l 0=k)(hk:nmOk to=true)(he:fr≠to) :
  Calls Tryz.prog 104 #[dkv A n c room 0 false,.string fr,.string to] w fun e w'=>RetDK w A n ⟨l,room,0,true⟩ 6 e w':=by
 have HD:=hid hd
 have hfew:=hd.few
 clear hd
 obtain⟨o1,o2⟩:=nmOk_yes hk
 have o3:¬ (to.size:Int)<1:=by omega
 clear hk
 have hb:=str_ne he
 clear he
 have HP:=hid hp
 clear hp
 have S0:=hid (Sb.new w A n c room 0 false)
 go_enter Tryz.func104,Tryz.ntmps104
 go_wp2_with fail
 refine(ref_at fr A n c room 0 false l _ (HD.out.files.q S0.out.q) HD.out.max).mono ?_
 rw[HP.out]
 rintro e w1 ⟨rfl,q1⟩
 have S1:=hid (S0.out.step q1)
 clear S0 q1
 obtain⟨⟨e0,e1,e2,e3⟩,f0,f1,f2',f3⟩:=S1.out.get
 have k2:=ref_power A n c ⟨l,room,0,false⟩ w1 (by simp)
 rw[pow_zero] at k2
 have k2:=hid k2
 go_wp2_with fail
 refine k2.out.mono ?_
 rintro e w2 ⟨rfl,q2⟩
 have S2:=hid ((S1.out.step q2).put4 A n c room 0 true)
 have P2:=S1.out.step q2
 clear S1 k2 q2 e0 e1 e2 e3 f0 f1 f2' f3
 obtain⟨⟨e0,e1,e2,e3⟩,f0,f1,f2',f3⟩:=P2.get
 clear P2
 go_upto_region 10 with (fail)
 generalize ((((w2.setCell ⟨w.heap.size,0,none⟩ (.slice A n c)).setCell ⟨w.heap.size,1,none⟩ (.int .i64 room)).setCell ⟨w.heap.size,2,none⟩ (.int .i64 0)).setCell ⟨w.heap.size,3,none⟩ (.bool true))=W at S2 ⊢
 clear e0 e1 e2 e3 f0 f1 f2' f3
 obtain⟨⟨e0,e1,e2,e3⟩,f0,f1,f2',f3⟩:=S2.out.get
 obtain⟨⟨s0,s1,s2,s3⟩,h0',h1,h2,h3⟩:=S2.out.getR
 go_wp2
 refine bodyPost_ret (v:=.tuple #[dkv A n c room 0 true,.int .i64 6]) (by simp[results,Tryz.results104,go_sem,s0,s1,s2,s3]) rfl ?_
 exact S2.out.endK HD.out 6 _ _ _ _
theorem ref_ren_plain (fr to:ByteArray)(A:Option Addr)(n c:Nat)(room fuse:Int)(l:List Fil)(w:World)(hd:Dsk w A n c l)(hfu:fuse≤9223372036854775807)(k:Nat)(hkl:k<l.length)(hp:plc fr l 0=k)(hk:nmOk to=true)(he:fr≠to)(f2:Int)(hpw:pow ⟨l,room,fuse,false⟩=(⟨l,room,f2,false⟩,true))(o:Int)(ht:plc to l 0=o)(h0:o<0) :
  Calls Tryz.prog 104 #[dkv A n c room fuse false,.string fr,.string to] w fun e w'=>RetDK w A n ⟨l.set k ⟨to,l[k].sf,l[k].wt⟩,room,f2,false⟩ 0 e w':=by
 have HD:=hid hd
 have hfew:=hd.few
 clear hd
 obtain⟨o1,o2⟩:=nmOk_yes hk
 have o3:¬ (to.size:Int)<1:=by omega
 clear hk
 have hb:=str_ne he
 clear he
 have HL:=hid HD.out.len
 have hkn:k<n:=by have:=HL.out;omega
 have HW:=hid hpw
 clear hpw
 have HT:=hid ht
 clear ht
 have HP:=hid hp
 clear hp
 have S0:=hid (Sb.new w A n c room fuse false)
 go_enter Tryz.func104,Tryz.ntmps104
 go_wp2_with fail
 refine(ref_at fr A n c room fuse false l _ (HD.out.files.q S0.out.q) HD.out.max).mono ?_
 rw[HP.out]
 rintro e w1 ⟨rfl,q1⟩
 have S1:=hid (S0.out.step q1)
 clear S0 q1
 obtain⟨⟨e0,e1,e2,e3⟩,f0,f1,f2',f3⟩:=S1.out.get
 have k2:=ref_power A n c ⟨l,room,fuse,false⟩ w1 hfu
 rw[HW.out] at k2
 have k2:=hid k2
 go_wp2_with fail
 refine k2.out.mono ?_
 rintro e w2 ⟨rfl,q2⟩
 have S2:=hid ((S1.out.step q2).put4 A n c room f2 false)
 have P2:=S1.out.step q2
 clear S1 k2 q2 e0 e1 e2 e3 f0 f1 f2' f3
 obtain⟨⟨e0,e1,e2,e3⟩,f0,f1,f2',f3⟩:=P2.get
 clear P2
 go_upto_region 10 with (fail)
 generalize ((((w2.setCell ⟨w.heap.size,0,none⟩ (.slice A n c)).setCell ⟨w.heap.size,1,none⟩ (.int .i64 room)).setCell ⟨w.heap.size,2,none⟩ (.int .i64 f2)).setCell ⟨w.heap.size,3,none⟩ (.bool false))=W at S2 ⊢
 clear e0 e1 e2 e3 f0 f1 f2' f3
 obtain⟨⟨e0,e1,e2,e3⟩,f0,f1,f2',f3⟩:=S2.out.get
 go_wp2_with fail
 refine(ref_at to A n c room f2 false l _ (HD.out.files.q S2.out.q) HD.out.max).mono ?_
 rw[HT.out]
 rintro e w4 ⟨rfl,q4⟩
 have S4:=hid (S2.out.step q4)
 clear S2 q4 e0 e1 e2 e3 f0 f1 f2' f3
 obtain⟨⟨e0,e1,e2,e3⟩,f0,f1,f2',f3⟩:=S4.out.get
 go_wp2_with fail
 refine(ref_at fr A n c room f2 false l _ (HD.out.files.q S4.out.q) HD.out.max).mono ?_
 rw[HP.out]
 rintro e w5 ⟨rfl,q5⟩
 have S5:=hid (S4.out.step q5)
 clear S4 q5 e0 e1 e2 e3 f0 f1 f2' f3
 obtain⟨⟨e0,e1,e2,e3⟩,f0,f1,f2',f3⟩:=S5.out.get
 obtain⟨ad,rfl,hbk,c0,c1,c2⟩:=(HD.out.files.q S5.out.q).load hkn hkl
 have z0:w.heap.size<w5.heap.size:=S5.out.box.lt
 have z1:w.heap.size+1<w5.heap.size:=S5.out.res.lt
 have z2:w.heap.size≠w5.heap.size:=by omega
 have z3:w.heap.size+1≠w5.heap.size:=by omega
 have q6:(k:Int)<(n:Int):=by omega
 have q7:0≤(k:Int):=by omega
 go_wp2_with fail
 refine(ref_with (some ad) n c room f2 false k ⟨to,l[k].sf,l[k].wt⟩ l _ (HD.out.q (S5.out.q.alloc _)) hkn).mono ?_
 rintro e w6 ⟨A6,c6,rfl,ho6,q6'⟩
 have S6:=hid (S5.out.step ((Q.refl w5).alloc (.cells #[.string to,.string l[k].sf,.string l[k].wt] 119)))
 have HO:=hid ho6
 have HQ:=hid q6'
 clear ho6 q6' S5 e0 e1 e2 e3 f0 f1 f2' f3 c0 c1 c2
 obtain⟨⟨s0,s1,s2,s3⟩,h0',h1,h2,h3⟩:=(S6.out.step HQ.out).getR
 go_wp2
 refine bodyPost_ret (v:=.tuple #[dkv A6 n c6 room f2 false,.int .i64 0]) (by simp[results,Tryz.results104,go_sem,s0,s1,s2,s3]) rfl ?_
 exact S6.out.endO (d:=⟨l.set k ⟨to,l[k].sf,l[k].wt⟩,room,f2,false⟩) HQ.out HO.out (by omega) 0 _ _ _ _
end
section
open Go.RowKit Dkm
theorem ref_sync_off (nm:ByteArray)(A:Option Addr)(n c:Nat)(room fuse:Int)(l:List Fil)(w:World)(hd:Dsk w A n c l) :
  Calls Tryz.prog 97 #[dkv A n c room fuse true,.string nm] w fun e w'=>RetDK w A n ⟨l,room,fuse,true⟩ 6 e w':=by
 have HD:=hid hd
 clear hd
 go_enter Tryz.func97,Tryz.ntmps97
 go_wp2
 refine bodyPost_ret (v:=.tuple #[dkv A n c room fuse true,.int .i64 6]) (by simp[results,Tryz.results97,go_sem]) rfl ?_
 exact⟨A,n,c,rfl,HD.out.q (((Q.refl _).alloc _).alloc _),.inl ⟨rfl,rfl⟩,((Q.refl _).alloc _).alloc _⟩
theorem ref_sync_none (nm:ByteArray)(A:Option Addr)(n c:Nat)(room fuse:Int)(l:List Fil)(w:World)(hd:Dsk w A n c l)(p:Int)(hp:plc nm l 0=p)(h0:p<0) :
  Calls Tryz.prog 97 #[dkv A n c room fuse false,.string nm] w fun e w'=>RetDK w A n ⟨l,room,fuse,false⟩ 7 e w':=by
 have HD:=hid hd
 have HP:=hid hp
 clear hd hp
 have S0:=hid (Sb.new w A n c room fuse false)
 go_enter Tryz.func97,Tryz.ntmps97
 go_wp2_with fail
 refine(ref_at nm A n c room fuse false l _ (HD.out.files.q S0.out.q) HD.out.max).mono ?_
 rw[HP.out]
 rintro e w1 ⟨rfl,q1⟩
 have S1:=hid (S0.out.step q1)
 clear S0 q1
 obtain⟨⟨e0,e1,e2,e3⟩,f0,f1,f2,f3⟩:=S1.out.get
 obtain⟨⟨s0,s1,s2,s3⟩,h0',h1,h2,h3⟩:=S1.out.getR
 go_wp2
 refine bodyPost_ret (v:=.tuple #[dkv A n c room fuse false,.int .i64 7]) (by simp[results,Tryz.results97,go_sem,s0,s1,s2,s3]) rfl ?_
 exact S1.out.endK HD.out 7 _ _ _ _
theorem ref_sync_yes (nm:ByteArray)(A:Option Addr)(n c:Nat)(room fuse:Int)(l:List Fil)(w:World)(hd:Dsk w A n c l)(k:Nat)(hk:k<l.length)(hp:plc nm l 0=k)(hs:l[k].sf.size+l[k].wt.size≤maxLen) :
  Calls Tryz.prog 97 #[dkv A n c room fuse false,.string nm] w fun e w'=>RetDK w A n ⟨l.set k ⟨l[k].nm,l[k].sf++l[k].wt,⟨#[]⟩⟩,room,fuse,false⟩ 0 e w':=by
 have hkn:k<n:=by have:=hd.len;omega
 have hnm:=hd.max
 unfold maxLen at hnm hs
 have hfew:=hd.few
 have HD:=hid hd
 have HP:=hid hp
 clear hd hp
 have S0:=hid (Sb.new w A n c room fuse false)
 have q4:(k:Int)<(n:Int):=by omega
 have q5:0≤(k:Int):=by omega
 have q6:¬ 9223372036854775807<l[k].sf.size+l[k].wt.size:=by omega
 go_enter Tryz.func97,Tryz.ntmps97
 go_wp2_with fail
 refine(ref_at nm A n c room fuse false l _ (HD.out.files.q S0.out.q) HD.out.max).mono ?_
 rw[HP.out]
 rintro e w1 ⟨rfl,q1⟩
 have S1:=hid (S0.out.step q1)
 obtain⟨ad,rfl,hb,c0,c1,c3⟩:=(HD.out.files.q S1.out.q).load hkn hk
 clear S0 q1
 obtain⟨⟨e0,e1,e2,e3⟩,f0,f1,f2,f3⟩:=S1.out.get
 go_upto_region 7 with (fail)
 have B1:=hid (And.intro (Bx.new w1 [.string l[k].nm,.string l[k].sf,.string l[k].wt] 119) (S1.out.step ((Q.refl _).alloc (.cells #[.string l[k].nm,.string l[k].sf,.string l[k].wt] 119))))
 generalize (w1.alloc (.cells #[.string l[k].nm,.string l[k].sf,.string l[k].wt] 119))=W at B1 ⊢
 generalize w1.heap.size=g at B1 ⊢
 clear e0 e1 e2 e3 f0 f1 f2 f3 c0 c1 c3 hb
 obtain⟨⟨b0,b1,b2⟩,_⟩:=B1.out.1.get3
 obtain⟨⟨e0,e1,e2,e3⟩,f0,f1,f2,f3⟩:=B1.out.2.get
 obtain⟨⟨s0,s1,s2,s3⟩,h0',h1,h2,h3⟩:=B1.out.2.getR
 go_wp2_with fail
 refine(ref_with (some ad) n c room fuse false k ⟨l[k].nm,l[k].sf++l[k].wt,⟨#[]⟩⟩ l _ (HD.out.q B1.out.2.q) hkn).mono ?_
 rintro e w5 ⟨A5,c5,rfl,ho5,q5'⟩
 clear s0 s1 s2 s3 h0' h1 h2 h3
 obtain⟨⟨s0,s1,s2,s3⟩,h0',h1,h2,h3⟩:=(B1.out.2.step q5').getR
 go_wp2
 refine bodyPost_ret (v:=.tuple #[dkv A5 n c5 room fuse false,.int .i64 0]) (by simp[results,Tryz.results97,go_sem,s0,s1,s2,s3]) rfl ?_
 exact B1.out.2.endO (d:=⟨l.set k ⟨l[k].nm,l[k].sf++l[k].wt,⟨#[]⟩⟩,room,fuse,false⟩) q5' ho5 (by omega) 0 _ _ _ _
theorem ref_app_off (nm s:ByteArray)(A:Option Addr)(n c:Nat)(room fuse:Int)(l:List Fil)(w:World)(hd:Dsk w A n c l) :
  Calls Tryz.prog 98 #[dkv A n c room fuse true,.string nm,.string s] w fun e w'=>RetDK w A n ⟨l,room,fuse,true⟩ 6 e w':=by
 have HD:=hid hd
 clear hd
 go_enter Tryz.func98,Tryz.ntmps98
 go_wp2
 refine bodyPost_ret (v:=.tuple #[dkv A n c room fuse true,.int .i64 6]) (by simp[results,Tryz.results98,go_sem]) rfl ?_
 exact⟨A,n,c,rfl,HD.out.q (((Q.refl _).alloc _).alloc _),.inl ⟨rfl,rfl⟩,((Q.refl _).alloc _).alloc _⟩
theorem ref_app_arg (nm s:ByteArray)(A:Option Addr)(n c:Nat)(room fuse:Int)(l:List Fil)(w:World)(hd:Dsk w A n c l)(hk:nmOk nm=false) :
  Calls Tryz.prog 98 #[dkv A n c room fuse false,.string nm,.string s] w fun e w'=>RetDK w A n ⟨l,room,fuse,false⟩ 1 e w':=by
 have HD:=hid hd
 have hfew:=hd.few
 clear hd
 rcases nmOk_no hk with h | h
 case' inl=>have h':(nm.size:Int)<1:=by omega
 case' inr=>have h':¬ (nm.size:Int)<1:=by omega
 all_goals
   clear hk
   go_enter Tryz.func98,Tryz.ntmps98
   go_wp2
   refine bodyPost_ret (v:=.tuple #[dkv A n c room fuse false,.int .i64 1]) (by simp[results,Tryz.results98,go_sem]) rfl ?_
   exact⟨A,n,c,rfl,HD.out.q (((Q.refl _).alloc _).alloc _),.inl ⟨rfl,rfl⟩,((Q.refl _).alloc _).alloc _⟩
theorem ref_app_full (nm s:ByteArray)(A:Option Addr)(n c:Nat)(room fuse:Int)(l:List Fil)(w:World)(hd:Dsk w A n c l)(hk:nmOk nm=true)(p:Int)(hp:plc nm l 0=p)(hfull:(p<0∧64≤n)∨room<s.size) :
  Calls Tryz.prog 98 #[dkv A n c room fuse false,.string nm,.string s] w fun e w'=>RetDK w A n ⟨l,room,fuse,false⟩ 5 e w':=by
 have HD:=hid hd
 have HP:=hid hp
 have hfew:=hd.few
 clear hd hp
 obtain⟨o1,o2⟩:=nmOk_yes hk
 have o3:¬ (nm.size:Int)<1:=by omega
 clear hk
 have S0:=hid (Sb.new w A n c room fuse false)
 have hc:(p<0∧(64:Int)≤(n:Int))∨(p<0∧¬ (64:Int)≤(n:Int)∧room<(s.size:Int))∨(¬ p<0∧room<(s.size:Int)):=by omega
 clear hfull
 rcases hc with ⟨g1,g2⟩ | ⟨g1,g2,g3⟩ | ⟨g1,g3⟩
 all_goals
   go_enter Tryz.func98,Tryz.ntmps98
   go_wp2_with fail
   refine(ref_at nm A n c room fuse false l _ (HD.out.files.q S0.out.q) HD.out.max).mono ?_
   rw[HP.out]
   rintro e w1 ⟨rfl,q1⟩
   have S1:=hid (S0.out.step q1)
   clear S0 q1
   obtain⟨⟨e0,e1,e2,e3⟩,f0,f1,f2,f3⟩:=S1.out.get
   obtain⟨⟨s0,s1,s2,s3⟩,h0',h1,h2,h3⟩:=S1.out.getR
   go_wp2
   refine bodyPost_ret (v:=.tuple #[dkv A n c room fuse false,.int .i64 5]) (by simp[results,Tryz.results98,go_sem,s0,s1,s2,s3]) rfl ?_
   exact S1.out.endK HD.out 5 _ _ _ _
end
end Go.Proofs.YtccoknaaofmbcaaGreatDoor
