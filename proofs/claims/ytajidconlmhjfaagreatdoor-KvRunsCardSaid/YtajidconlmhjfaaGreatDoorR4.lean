/- DiskShown, DiskDoes, DiskDoes2, DiskInv, WalDisk, PairMath, TableMath, RunMath, BatchMath, DiskRef, DiskRef2, DiskRef3, DiskSv, DiskRef4, DiskRef7, DiskRef8, Held, HeldL, App, DiskRef9, DiskRef10, DiskRef5, RunLay: merged. -/
import Derived.Test.YtajidconlmhjfaaGreatDoorR3
import Derived.Test.YtajidconlmhjfaaGreatDoorR1
import Derived.Outline
import Derived.Deep.RegionHeld3
import Derived.Maps.AppendAt
import Derived.Laws.AppendOwnNone
import Derived.Deep.DeepCutAuto
import Derived.Test.YtajidconlmhjfaaGreatDoorR2
set_option linter.unusedVariables false
set_option linter.unusedSimpArgs false
set_option maxRecDepth 100000
namespace Go.Proofs.YtajidconlmhjfaaGreatDoor
section
open Go.RowKit Dkm
theorem Own.few {w:World} {base:Nat} {A:Option Addr} {n c:Nat} {l:List Fil} (h:Own w base A n c l) (hl:l.length≤1000):Dsk w A n c l:=h.dsk (by have:=h.len;omega)
structure DV (W:World) (B:Nat) (A:Option Addr) (n c:Nat) (d:Dk):Prop where
  box:Bx W B [.slice A n c,.int .i64 d.room,.int .i64 d.fuse,.bool d.off]
  dsk:Dsk W A n c d.fs
theorem DV.q {W W':World} {B:Nat} {A:Option Addr} {n c:Nat} {d:Dk} (h:DV W B A n c d) (hq:Q W W'):DV W' B A n c d:=⟨h.box.q hq,h.dsk.q hq⟩
theorem DV.new {W:World} {A:Option Addr} {n c:Nat} {d:Dk} (h:Dsk W A n c d.fs):DV (W.alloc (.cells #[.slice A n c,.int .i64 d.room,.int .i64 d.fuse,.bool d.off] 24)) W.heap.size A n c d:=
  ⟨Bx.new W [.slice A n c,.int .i64 d.room,.int .i64 d.fuse,.bool d.off] 24,h.q ((Q.refl _).alloc _)⟩
theorem DV.put {W W':World} {B:Nat} {A A':Option Addr} {n c n' c':Nat} {d d':Dk} (h:DV W B A n c d) (hq:Q W W') (ho:Own W' W.heap.size A' n' c' d'.fs) (hn:n' * 48≤140737488355328) :
    DV ((((W'.setCell ⟨B,0,none⟩ (.slice A' n' c')).setCell ⟨B,1,none⟩ (.int .i64 d'.room)).setCell ⟨B,2,none⟩ (.int .i64 d'.fuse)).setCell ⟨B,3,none⟩ (.bool d'.off)) B A' n' c' d':=
  ⟨(h.box.q hq).put4 _ _ _ _,(ho.set4 h.box.lt _ _ _ _).dsk hn⟩
theorem DV.get {W:World} {B:Nat} {A:Option Addr} {n c:Nat} {d:Dk} (h:DV W B A n c d):(W.cell? ⟨B,0,none⟩=some (.slice A n c)∧W.cell? ⟨B,1,none⟩=some (.int .i64 d.room)∧W.cell? ⟨B,2,none⟩=some (.int .i64 d.fuse)∧W.cell? ⟨B,3,none⟩=some (.bool d.off)) ∧
    W.frozen? ⟨B,0,none⟩=false∧W.frozen? ⟨B,1,none⟩=false∧W.frozen? ⟨B,2,none⟩=false∧W.frozen? ⟨B,3,none⟩=false:=h.box.get4
end
section
open Go.RowKit Dkm
namespace Dkm
theorem lss_len (d:Dk) (k:Nat):(lss d k).fs.length≤d.fs.length:=by unfold lss;simp [List.length_eraseIdx];split<;>omega
theorem pow_fs (d:Dk):(pow d).1.fs=d.fs:=by unfold pow;split;rfl;split<;>rfl
theorem del_len (d:Dk) (nm:ByteArray):(del d nm).1.fs.length≤d.fs.length:=by
 unfold del
 split;exact Nat.le_refl _
 split;exact Nat.le_refl _
 split
 · rw [pow_fs];exact Nat.le_refl _
 · exact Nat.le_trans (lss_len _ _) (by rw [pow_fs];exact Nat.le_refl _)
theorem nmd_len (d:Dk) (k:Nat) (tu:ByteArray):(nmd d k tu).fs.length=d.fs.length:=by unfold nmd;simp
theorem ren_len (d:Dk) (fr tu:ByteArray):(ren d fr tu).1.fs.length≤d.fs.length:=by
 unfold ren
 split;exact Nat.le_refl _
 split;exact Nat.le_refl _
 split;exact Nat.le_refl _
 split;exact Nat.le_refl _
 split
 · rw [pow_fs];exact Nat.le_refl _
 split
 · exact Nat.le_trans (lss_len _ _) (by rw [nmd_len,pow_fs];exact Nat.le_refl _)
 · rw [nmd_len,pow_fs];exact Nat.le_refl _
theorem appd_few (d:Dk) (nm s:ByteArray):(appd d nm s).1.fs.length≤max d.fs.length 64:=by
 have h:=appd_len d nm s
 by_cases h1:d.fs.length<64
 · omega
 · unfold appd
   split;exact Nat.le_max_left _ _
   split;exact Nat.le_max_left _ _
   split;exact Nat.le_max_left _ _
   split;exact Nat.le_max_left _ _
   rename_i _ _ h3 _
   show (put _ _ _).length≤_
   unfold put
   split
   · exact absurd (Or.inl ⟨by assumption,by omega⟩) h3
   · simp only [List.length_set];exact Nat.le_max_left _ _
end Dkm
theorem Own.far_ {w:World} {base:Nat} {A:Option Addr} {n c:Nat} {l:List Fil} (h:Own w base A n c l):∀ ad,A=some ad→base≤ad.block:=by
 intro ad e
 rcases h.parts with ⟨rfl,_⟩ | ⟨g,cur,rfl,hb,_⟩
 · cases e
 · injection e with e;subst e;exact hb
theorem Holds.away {w:World} {B k:Nat} {A:Option Addr} {n:Nat} {xs:List Value} (h:Holds w B k A n xs) {b:Nat} (ha:∀ ad,A=some ad→ad.block≠b) (o:Nat) (u:Value):Holds (w.setCell ⟨b,o,none⟩ u) B k A n xs:=
  ⟨h.1,fun j v hj=>by
    obtain ⟨ad,e,hb,hc⟩:=h.2 j v hj
    exact ⟨ad,e,hb,(World.cell?_setCell_other _ _ _ _ (by intro x;have:=congrArg Addr.block x;rw [addr_block] at this;exact ha ad e this.symm)).trans hc⟩⟩
theorem Dsk.away {w:World} {A:Option Addr} {n c:Nat} {l:List Fil} (h:Dsk w A n c l) {b:Nat} (ha:∀ ad,A=some ad→ad.block≠b) (o:Nat) (u:Value):Dsk (w.setCell ⟨b,o,none⟩ u) A n c l:=
  ⟨by have:=Holds.away h.files ha o u;rw [show w.heap.size=(w.setCell ⟨b,o,none⟩ u).heap.size by simp [World.setCell]] at this;exact this,h.nil,h.le,h.cap,h.few⟩
end
section
open Go.RowKit Dkm
end
section
open Go.RowKit Dkm
namespace Dkm
theorem erase_sum {B:Nat} {l:List Fil} (h:∀ f∈l,f.sf.size+f.wt.size≤B) (k:Nat):∀ f∈l.eraseIdx k,f.sf.size+f.wt.size≤B:=fun f hf=>h f (List.mem_of_mem_eraseIdx hf)
theorem lss_sum {B:Nat} (d:Dk) (k:Nat) (h:∀ f∈d.fs,f.sf.size+f.wt.size≤B):∀ f∈(lss d k).fs,f.sf.size+f.wt.size≤B:=erase_sum h k
theorem nmd_sum {B:Nat} (d:Dk) (k:Nat) (tu:ByteArray) (h:∀ f∈d.fs,f.sf.size+f.wt.size≤B):∀ f∈(nmd d k tu).fs,f.sf.size+f.wt.size≤B:=by
 unfold nmd
 by_cases hk:k<d.fs.length
 · refine set_sum h ?_
   simp only [List.getD_eq_getElem?_getD,List.getElem?_eq_getElem hk,Option.getD_some]
   exact h _ (List.getElem_mem hk)
 · show ∀ f∈d.fs.set k _,_
   rw [List.set_eq_of_length_le (by omega)];exact h
theorem pow_sum {B:Nat} (d:Dk) (h:∀ f∈d.fs,f.sf.size+f.wt.size≤B):∀ f∈(pow d).1.fs,f.sf.size+f.wt.size≤B:=by rw [pow_fs];exact h
theorem del_sum {B:Nat} (d:Dk) (nm:ByteArray) (h:∀ f∈d.fs,f.sf.size+f.wt.size≤B):∀ f∈(del d nm).1.fs,f.sf.size+f.wt.size≤B:=by
 unfold del
 split;exact h
 split;exact h
 split;exact pow_sum d h
 exact lss_sum _ _ (pow_sum d h)
theorem ren_sum {B:Nat} (d:Dk) (fr tu:ByteArray) (h:∀ f∈d.fs,f.sf.size+f.wt.size≤B):∀ f∈(ren d fr tu).1.fs,f.sf.size+f.wt.size≤B:=by
 unfold ren
 split;exact h
 split;exact h
 split;exact h
 split;exact h
 split;exact pow_sum d h
 split
 · exact lss_sum _ _ (nmd_sum _ _ _ (pow_sum d h))
 · exact nmd_sum _ _ _ (pow_sum d h)
def In64 (x:Int):Prop:=-9223372036854775808≤x∧x≤9223372036854775807
theorem appd_rng (d:Dk) (nm s:ByteArray) (h1:In64 d.room) (h2:In64 d.fuse):In64 (appd d nm s).1.room∧In64 (appd d nm s).1.fuse:=by
 unfold appd
 split;exact ⟨h1,h2⟩
 split;exact ⟨h1,h2⟩
 split;exact ⟨h1,h2⟩
 split;exact ⟨h1,h2⟩
 rename_i _ _ h3 _
 have hc:=cut_size d.fuse s
 unfold In64 at *
 have h4:¬ d.room<s.size:=fun h=>h3 (.inr h)
 have h5:0≤d.fuse→(cut d.fuse s).size≤d.fuse.toNat∨¬ short d.fuse s:=by
  intro h0
  by_cases hsh:short d.fuse s
  · left;unfold cut;rw [if_pos hsh,ByteArray.size_extract];omega
  · exact .inr hsh
 have h6:0≤d.fuse→((cut d.fuse s).size:Int)≤d.fuse:=by
  intro h0
  rcases h5 h0 with h | h
  · omega
  · unfold cut;rw [if_neg h]
    unfold short at h
    simp only [decide_eq_true_eq] at h
    omega
 simp only
 refine ⟨by omega,?_⟩
 split
 · have:=h6 (by assumption);omega
 · exact h2
theorem pow_rng (d:Dk) (h1:In64 d.room) (h2:In64 d.fuse):In64 (pow d).1.room∧In64 (pow d).1.fuse:=by
 unfold pow
 split;exact ⟨h1,h2⟩
 split
 · exact ⟨h1,by unfold In64 at *;simp only;omega⟩
 · exact ⟨h1,h2⟩
theorem lss_rng (d:Dk) (k:Nat) (h2:In64 d.fuse):In64 (lss d k).room∧In64 (lss d k).fuse:=⟨wrap_rng _,h2⟩
theorem del_rng (d:Dk) (nm:ByteArray) (h1:In64 d.room) (h2:In64 d.fuse):In64 (del d nm).1.room∧In64 (del d nm).1.fuse:=by
 have hp:=pow_rng d h1 h2
 unfold del
 split;exact ⟨h1,h2⟩
 split;exact ⟨h1,h2⟩
 split;exact hp
 exact lss_rng _ _ hp.2
theorem ren_rng (d:Dk) (fr tu:ByteArray) (h1:In64 d.room) (h2:In64 d.fuse):In64 (ren d fr tu).1.room∧In64 (ren d fr tu).1.fuse:=by
 have hp:=pow_rng d h1 h2
 unfold ren
 split;exact ⟨h1,h2⟩
 split;exact ⟨h1,h2⟩
 split;exact ⟨h1,h2⟩
 split;exact ⟨h1,h2⟩
 split;exact hp
 split
 · exact lss_rng _ _ hp.2
 · exact hp
theorem syn_rng (d:Dk) (nm:ByteArray) (h1:In64 d.room) (h2:In64 d.fuse):In64 (syn d nm).1.room∧In64 (syn d nm).1.fuse:=by
 unfold syn
 split;exact ⟨h1,h2⟩
 split<;>exact ⟨h1,h2⟩
theorem croom_in (ks:List Int) (l:List Fil) (room:Int) (h:In64 room):∀ k,In64 (croom ks l room k)
  | 0=>h
  | k+1=>wrap_rng _
end Dkm
end
section
open Dkm
namespace Wm
def sealB (r:ByteArray):ByteArray:=⟨(sld r.data.toList).toArray⟩
theorem sealB_list (r:ByteArray):(sealB r).data.toList=sld r.data.toList:=rfl
theorem sealB_size (r:ByteArray):(sealB r).size=(sld r.data.toList).length:=by show (sld r.data.toList).toArray.size=_;simp
def putA (d:Dk) (seg:Int) (rec:ByteArray):Dk×Int×Int:=((appd d (namB seg) (sealB rec)).1,seg,(appd d (namB seg) (sealB rec)).2)
def putB (d:Dk) (seg:Int) (rec:ByteArray):Dk×Int×Int:=
  if (redd (namB seg) d.fs).1.size<256 then putA d seg rec
  else if (syn d (namB seg)).2≠0 then ((syn d (namB seg)).1,seg,(syn d (namB seg)).2)
  else if seg=1000000 then ((syn d (namB seg)).1,seg,5)
  else putA (syn d (namB seg)).1 (seg+1) rec
def putM (d:Dk) (seg:Int) (rec:ByteArray):Dk×Int×Int:=
  if ¬ segOk seg then (d,seg,1) else if 2048<rec.size then (d,seg,4) else putB d seg rec
def syncM (d:Dk) (seg:Int):Dk×Int:=if (hit (namB seg) d.fs).2 then syn d (namB seg) else (d,0)
def cut1 (d:Dk):Dk×Int:=if (hit freshB d.fs).2 then del d freshB else (d,0)
def cut2 (d:Dk) (s:ByteArray):Dk×Int:=if (cut1 d).2=0 then appd (cut1 d).1 freshB s else cut1 d
def cut3 (d:Dk) (s:ByteArray):Dk×Int:=if (cut2 d s).2=0 then syn (cut2 d s).1 freshB else cut2 d s
def cut4 (d:Dk) (seg:Int) (s:ByteArray):Dk×Int:=if (cut3 d s).2=0 then ren (cut3 d s).1 freshB (namB seg) else cut3 d s
def dels:Nat→Dk→Int→Dk×Int
  | 0,d,_=>(d,0)
  | n+1,d,seg=>if segOk seg∧(hit (namB seg) d.fs).2 then (if (del d (namB seg)).2=0 then dels n (del d (namB seg)).1 (seg+1) else del d (namB seg)) else (d,0)
def fuelOf (seg:Int):Nat:=(1000001 - seg).toNat
def cutM (d:Dk) (seg:Int) (s:ByteArray):Dk×Int:=
  if (cut4 d seg s).2=0 then dels (fuelOf (seg+1)) (cut4 d seg s).1 (seg+1) else cut4 d seg s
def recF:Nat→Dk→Int→Int→List (List UInt8)→Int→Dk×List (List UInt8)×Int×Int
  | 0,d,_,_,rs,last=>(d,rs,last,0)
  | n+1,d,from_,seg,rs,last =>
    if ¬ segOk seg then (d,rs,last,0)
    else if (redd (namB seg) d.fs).2≠0 then (d,rs,last,0)
    else if (scn (redd (namB seg) d.fs).1.data.toList).2=[] then recF n d from_ (seg+1) (rs++(scn (redd (namB seg) d.fs).1.data.toList).1) seg
    else if (cutM d seg ⟨(flat (scn (redd (namB seg) d.fs).1.data.toList).1).toArray⟩).2≠0 then ((cutM d seg ⟨(flat (scn (redd (namB seg) d.fs).1.data.toList).1).toArray⟩).1,[],from_,(cutM d seg ⟨(flat (scn (redd (namB seg) d.fs).1.data.toList).1).toArray⟩).2)
    else ((cutM d seg ⟨(flat (scn (redd (namB seg) d.fs).1.data.toList).1).toArray⟩).1,rs++(scn (redd (namB seg) d.fs).1.data.toList).1,seg,0)
def recM (d:Dk) (from_:Int):Dk×List (List UInt8)×Int×Int:=
  if ¬ segOk from_ then (d,[],from_,1) else recF (fuelOf from_) d from_ from_ [] from_
def drops:List Int→Dk→Dk×Int
  | [],d=>(d,0)
  | k :: ks,d=>if (del d (namB k)).2=0 then drops ks (del d (namB k)).1 else del d (namB k)
structure Bnd (B:Nat) (d:Dk):Prop where
  sum:∀ f∈d.fs,f.sf.size+f.wt.size≤B
  few:d.fs.length*48≤140737488355328
  room:In64 d.room
  fuse:In64 d.fuse
theorem Bnd.appd {B:Nat} {d:Dk} (h:Bnd B d) (hB:65536≤B) (nm s:ByteArray):Bnd B (appd d nm s).1:=⟨appd_sum d nm s hB h.sum,by have h1:=appd_few d nm s;have h2:=h.few;omega,(appd_rng d nm s h.room h.fuse).1,(appd_rng d nm s h.room h.fuse).2⟩
theorem Bnd.syn {B:Nat} {d:Dk} (h:Bnd B d) (nm:ByteArray):Bnd B (syn d nm).1:=⟨syn_sum d nm h.sum,by rw [syn_len];exact h.few,(syn_rng d nm h.room h.fuse).1,(syn_rng d nm h.room h.fuse).2⟩
theorem Bnd.del {B:Nat} {d:Dk} (h:Bnd B d) (nm:ByteArray):Bnd B (del d nm).1:=⟨del_sum d nm h.sum,by have h1:=del_len d nm;have h2:=h.few;omega,(del_rng d nm h.room h.fuse).1,(del_rng d nm h.room h.fuse).2⟩
theorem Bnd.ren {B:Nat} {d:Dk} (h:Bnd B d) (a b:ByteArray):Bnd B (ren d a b).1:=⟨ren_sum d a b h.sum,by have h1:=ren_len d a b;have h2:=h.few;omega,(ren_rng d a b h.room h.fuse).1,(ren_rng d a b h.room h.fuse).2⟩
theorem Bnd.cut1 {B:Nat} {d:Dk} (h:Bnd B d):Bnd B (cut1 d).1:=by unfold Wm.cut1;split;exact h.del _;exact h
theorem Bnd.cut2 {B:Nat} {d:Dk} (h:Bnd B d) (hB:65536≤B) (s:ByteArray):Bnd B (cut2 d s).1:=by unfold Wm.cut2;split;exact h.cut1.appd hB _ _;exact h.cut1
theorem Bnd.cut3 {B:Nat} {d:Dk} (h:Bnd B d) (hB:65536≤B) (s:ByteArray):Bnd B (cut3 d s).1:=by unfold Wm.cut3;split;exact (h.cut2 hB s).syn _;exact h.cut2 hB s
theorem Bnd.cut4 {B:Nat} {d:Dk} (h:Bnd B d) (hB:65536≤B) (seg:Int) (s:ByteArray):Bnd B (cut4 d seg s).1:=by unfold Wm.cut4;split;exact (h.cut3 hB s).ren _ _;exact h.cut3 hB s
theorem Bnd.dels {B:Nat}:∀ (n:Nat) {d:Dk} (seg:Int),Bnd B d→Bnd B (dels n d seg).1
  | 0,_,_,h=>h
  | n + 1,d,seg,h=>by
    unfold Wm.dels
    split
    · split
      · exact Bnd.dels n _ (h.del _)
      · exact h.del _
    · exact h
theorem Bnd.cutM {B:Nat} {d:Dk} (h:Bnd B d) (hB:65536≤B) (seg:Int) (s:ByteArray):Bnd B (cutM d seg s).1:=by unfold Wm.cutM;split;exact Bnd.dels _ _ (h.cut4 hB seg s);exact h.cut4 hB seg s
theorem Bnd.putA {B:Nat} {d:Dk} (h:Bnd B d) (hB:65536≤B) (seg:Int) (r:ByteArray):Bnd B (putA d seg r).1:=h.appd hB _ _
theorem Bnd.putM {B:Nat} {d:Dk} (h:Bnd B d) (hB:65536≤B) (seg:Int) (r:ByteArray):Bnd B (putM d seg r).1:=by
 unfold Wm.putM
 split;exact h
 split;exact h
 unfold Wm.putB
 split;exact h.putA hB _ _
 split;exact h.syn _
 split;exact h.syn _
 exact (h.syn _).putA hB _ _
theorem Bnd.syncM {B:Nat} {d:Dk} (h:Bnd B d) (seg:Int):Bnd B (syncM d seg).1:=by unfold Wm.syncM;split;exact h.syn _;exact h
end Wm
end
end Go.Proofs.YtajidconlmhjfaaGreatDoor
namespace Go.Proofs.YtajidconlmhjfaaGreatDoor.Prm
def lt (a b:ByteArray):Bool:=Op.bytesLess a.data.toList b.data.toList
theorem lt_data (a b:ByteArray):Op.bytesLess a.toList b.toList=lt a b:=by unfold lt;rw [ByteArray.toList_eq,ByteArray.toList_eq]
theorem less_eq:∀ (x y:List UInt8),Op.bytesLess x y=decide (x<y)
  | [],y=>by cases y<;>simp [Op.bytesLess]
  | a :: x,[]=>by simp [Op.bytesLess]
  | a :: x,b :: y=>by
    simp only [Op.bytesLess,less_eq x y,List.cons_lt_cons_iff,Bool.decide_or,Bool.decide_and]
    rfl
theorem lt_iff (a b:ByteArray):lt a b=true↔a.data.toList<b.data.toList:=by unfold lt;rw [less_eq];simp
theorem lt_irrefl (a:ByteArray):lt a a=false:=by
 cases h:lt a a with
 | false=>rfl
 | true=>exact absurd ((lt_iff a a).1 h) (List.lt_irrefl _)
theorem lt_trans {a b c:ByteArray} (h:lt a b=true) (k:lt b c=true):lt a c=true:=(lt_iff a c).2 (List.lt_trans ((lt_iff a b).1 h) ((lt_iff b c).1 k))
theorem lt_asymm {a b:ByteArray} (h:lt a b=true):lt b a=false:=by
 cases k:lt b a with
 | false=>rfl
 | true=>have:=lt_trans h k;rw [lt_irrefl] at this;cases this
theorem lt_tri {a b:ByteArray} (h:a≠b) (k:lt a b=false):lt b a=true:=by
 rcases Std.lt_trichotomy (α:=List UInt8) a.data.toList b.data.toList with h1 | h1 | h1
 · rw [(lt_iff a b).2 h1] at k;cases k
 · exact absurd (ByteArray.ext (Array.ext' h1)) h
 · exact (lt_iff b a).2 h1
structure Pr where
  key:ByteArray
  val:ByteArray
deriving DecidableEq
structure Wr where
  key:ByteArray
  val:ByteArray
  del:Bool
deriving DecidableEq
def idx {α:Type} (p:α→Bool) (l:List α) (i:Nat):Int:=
  match l with
  | []=>-1
  | a :: l=>if p a then i else idx p l (i+1)
theorem idx_drop {α:Type} (p:α→Bool) (l:List α) {k:Nat} (hk:k<l.length):idx p (l.drop k) k=if p l[k] then (k:Int) else idx p (l.drop (k+1)) (k+1):=by
 rw [List.drop_eq_getElem_cons hk];rfl
theorem idx_end {α:Type} (p:α→Bool) (l:List α) {k:Nat} (hk:l.length≤k):idx p (l.drop k) k=-1:=by rw [List.drop_of_length_le hk];rfl
theorem idx_cases {α:Type} (p:α→Bool):∀ (l:List α) (i:Nat),(idx p l i=-1∧∀ a∈l,p a=false)∨∃ k,∃ h:k<l.length,idx p l i=((i+k:Nat):Int)∧p l[k]=true∧∀ j,∀ hj:j<l.length,j<k→p l[j]=false
  | [],i=>.inl ⟨rfl,by simp⟩
  | a :: l,i=>by
    by_cases h:p a=true
    · exact .inr ⟨0,by simp,by simp [idx,h],by simpa using h,fun j _ hj=>by omega⟩
    · have h':p a=false:=by simpa using h
      rcases idx_cases p l (i+1) with ⟨e,hall⟩ | ⟨k,hk,e,hp,hfirst⟩
      · refine .inl ⟨by simp [idx,h',e],fun b hb=>?_⟩
        rcases List.mem_cons.1 hb with rfl | hb
        · exact h'
        · exact hall b hb
      · refine .inr ⟨k+1,by simpa using hk,by simp only [idx,h',e];simp;omega,by simpa using hp,fun j hj hjk=>?_⟩
        cases j with
        | zero=>simpa using h'
        | succ j=>simpa using hfirst j (by simpa using hj) (by omega)
def hasK (k:ByteArray) (p:Pr):Bool:=decide (p.key=k)
def aboveK (k:ByteArray) (p:Pr):Bool:=lt k p.key
def find (k:ByteArray):List Pr→ByteArray×Bool
  | []=>(⟨#[]⟩,false)
  | p :: l=>if hasK k p then (p.val,true) else find k l
theorem find_none {k:ByteArray}:∀ {l:List Pr},(∀ a∈l,hasK k a=false)→find k l=(⟨#[]⟩,false)
  | [],_=>rfl
  | p :: l,h=>by rw [find,h p (by simp)];exact find_none fun a ha=>h a (by simp [ha])
theorem find_at {k:ByteArray}:∀ {l:List Pr} {i:Nat} (hi:i<l.length),hasK k l[i]=true→(∀ j,∀ hj:j<l.length,j<i→hasK k l[j]=false)→find k l=(l[i].val,true)
  | p :: l,0,_,h,_=>by rw [find,if_pos (by simpa using h)];rfl
  | p :: l,i+1,hi,h,hf=>by
    have h0:=hf 0 (by simp) (by omega)
    simp only [List.getElem_cons_zero] at h0
    rw [find,h0]
    exact find_at (l:=l) (i:=i) (by simpa using hi) (by simpa using h) fun j hj hji=>hf (j+1) (by simpa using hj) (by omega)
def ins (p:Pr):List Pr→List Pr
  | []=>[p]
  | q :: l=>if lt p.key q.key then p :: q :: l else q :: ins p l
def setF (p:Pr):List Pr→List Pr
  | []=>[]
  | q :: l=>if hasK p.key q then p :: l else q :: setF p l
def put (l:List Pr) (p:Pr):List Pr:=if (find p.key l).2 then setF p l else ins p l
def drop (l:List Pr) (k:ByteArray):List Pr:=l.filter fun q=>!hasK k q
def act (l:List Pr) (w:Wr):List Pr:=if w.del then drop l w.key else put l ⟨w.key,w.val⟩
def apply (l:List Pr) (ws:List Wr):List Pr:=ws.foldl act l
def right:List Pr→Bool
  | []=>true
  | p :: l=>(match l with | []=>true | q :: _=>lt p.key q.key)&&right l
theorem ins_len (p:Pr) (l:List Pr):(ins p l).length=l.length+1:=by
 induction l with
 | nil=>rfl
 | cons q l ih=>simp only [ins];split<;>simp [ih]
theorem setF_len (p:Pr) (l:List Pr):(setF p l).length=l.length:=by
 induction l with
 | nil=>rfl
 | cons q l ih=>simp only [setF];split<;>simp [ih]
theorem put_len (l:List Pr) (p:Pr):(put l p).length≤l.length+1:=by
 unfold put;split
 · rw [setF_len];omega
 · rw [ins_len];exact Nat.le_refl _
theorem drop_len (l:List Pr) (k:ByteArray):(drop l k).length≤l.length:=List.length_filter_le _ _
theorem act_len (l:List Pr) (w:Wr):(act l w).length≤l.length+1:=by
 unfold act;split
 · have:=drop_len l w.key;omega
 · exact put_len _ _
theorem apply_snoc (l:List Pr) (ws:List Wr) {k:Nat} (hk:k<ws.length):apply l (ws.take (k+1))=act (apply l (ws.take k)) ws[k]:=by
 unfold apply
 rw [List.take_succ_eq_append_getElem hk,List.foldl_append];rfl
theorem apply_len (l:List Pr) (ws:List Wr):(apply l ws).length≤l.length+ws.length:=by
 induction ws generalizing l with
 | nil=>simp [apply]
 | cons w ws ih =>
   have h1:=ih (act l w)
   have h2:=act_len l w
   simp only [apply,List.foldl_cons,List.length_cons] at h1 ⊢
   omega
theorem put_has {l:List Pr} {p:Pr} {i:Nat} (hi:i<l.length) (h:hasK p.key l[i]=true) (hf:∀ j,∀ hj:j<l.length,j<i→hasK p.key l[j]=false):put l p=l.set i p:=by
 unfold put
 rw [find_at hi h hf]
 simp only [if_true]
 induction l generalizing i with
 | nil=>simp at hi
 | cons q l ih =>
   cases i with
   | zero=>simp only [List.getElem_cons_zero] at h;simp [setF,h]
   | succ i =>
     have h0:=hf 0 (by simp) (by omega)
     simp only [List.getElem_cons_zero] at h0
     simp only [setF,h0,List.set_cons_succ]
     rw [←ih (i:=i) (by simpa using hi) (by simpa using h) fun j hj hji=>hf (j+1) (by simpa using hj) (by omega)]
     simp
theorem put_new {l:List Pr} {p:Pr} (h:∀ a∈l,hasK p.key a=false):put l p=ins p l:=by
 unfold put;rw [find_none h];simp
theorem ins_at {l:List Pr} {p:Pr} {i:Nat} (hi:i≤l.length) (h:∀ hi:i<l.length,aboveK p.key l[i]=true) (hf:∀ j,∀ hj:j<l.length,j<i→aboveK p.key l[j]=false):ins p l=l.take i++p :: l.drop i:=by
 induction l generalizing i with
 | nil => have:i=0:=by simpa using hi
          subst this;rfl
 | cons q l ih =>
   cases i with
   | zero =>
     have h1:=h (by simp)
     simp only [List.getElem_cons_zero,aboveK] at h1
     simp [ins,h1]
   | succ i =>
     have h0:=hf 0 (by simp) (by omega)
     simp only [List.getElem_cons_zero,aboveK] at h0
     simp only [ins,h0,List.take_succ_cons,List.drop_succ_cons,List.cons_append]
     rw [←ih (i:=i) (by simpa using hi) (fun hi'=>h (by simpa using hi')) fun j hj hji=>hf (j+1) (by simpa using hj) (by omega)]
     simp
end Go.Proofs.YtajidconlmhjfaaGreatDoor.Prm
namespace Go.Proofs.YtajidconlmhjfaaGreatDoor.Prm
theorem hasK_same (p:Pr):hasK p.key p=true:=by simp [hasK]
theorem find_cons (o:ByteArray) (p:Pr) (l:List Pr):find o (p :: l)=if hasK o p then (p.val,true) else find o l:=rfl
theorem find_ins_same {p:Pr}:∀ (l:List Pr),(∀ a∈l,hasK p.key a=false)→find p.key (ins p l)=(p.val,true)
  | [],_=>by simp [ins,find_cons,hasK_same]
  | q :: l,h=>by
    simp only [ins]
    split
    · rw [find_cons,hasK_same];rfl
    · rw [find_cons,h q (by simp),find_ins_same l fun a ha=>h a (by simp [ha])];rfl
theorem find_some_or {k:ByteArray}:∀ (l:List Pr),(find k l).2=false→∀ a∈l,hasK k a=false
  | [],_,a,ha=>by simp at ha
  | q :: l,h,a,ha=>by
    rw [find_cons] at h
    by_cases hq:hasK k q=true
    · rw [if_pos hq] at h;cases h
    · rw [if_neg hq] at h
      rcases List.mem_cons.1 ha with rfl | ha
      · simpa using hq
      · exact find_some_or l h a ha
theorem find_setF_same {p:Pr}:∀ (l:List Pr),(find p.key l).2=true→find p.key (setF p l)=(p.val,true)
  | [],h=>by cases h
  | q :: l,h=>by
    simp only [setF]
    by_cases hq:hasK p.key q=true
    · rw [if_pos hq,find_cons,hasK_same];rfl
    · rw [if_neg hq,find_cons,if_neg hq]
      rw [find_cons,if_neg hq] at h
      exact find_setF_same l h
theorem find_put_same (l:List Pr) (p:Pr):find p.key (put l p)=(p.val,true):=by
 unfold put
 cases h:(find p.key l).2 with
 | true=>exact find_setF_same l h
 | false=>exact find_ins_same l (find_some_or l h)
theorem mem_ins {p a:Pr}:∀ {l:List Pr},a∈ins p l→a=p∨a∈l
  | [],h=>by simp [ins] at h;exact .inl h
  | q :: l,h=>by
    simp only [ins] at h
    split at h
    · rcases List.mem_cons.1 h with rfl | h
      · exact .inl rfl
      · exact .inr h
    · rcases List.mem_cons.1 h with rfl | h
      · exact .inr (by simp)
      · rcases mem_ins h with rfl | h
        · exact .inl rfl
        · exact .inr (by simp [h])
end Go.Proofs.YtajidconlmhjfaaGreatDoor.Prm
namespace Go.Proofs.YtajidconlmhjfaaGreatDoor
section
open Prm
namespace Rn
def big (p:Pr):Bool:=decide (65536<p.key.size)||decide (65536<p.val.size)
def may (l:List Pr):Bool:=right l && !l.any big
def ptx (s:ByteArray):List UInt8:=Dm.num s.data.toList.length++s.data.toList
def one (p:Pr):List UInt8:=ptx p.key++ptx p.val
def flat:List Pr→List UInt8
  | []=>[]
  | p :: l=>one p++flat l
def body (l:List Pr):List UInt8:=Dm.num l.length++flat l
def bytes (l:List Pr):List UInt8:=sld (body l)
def tkp:Nat→List UInt8→List Pr→List Pr×List UInt8×Nat
  | 0,r,acc=>(acc,r,0)
  | n+1,r,acc =>
    if (Dm.ttext r 65536).2.2≠0 then (acc,[],(Dm.ttext r 65536).2.2)
    else if (Dm.ttext (Dm.ttext r 65536).2.1 65536).2.2≠0 then (acc,[],(Dm.ttext (Dm.ttext r 65536).2.1 65536).2.2)
    else tkp n (Dm.ttext (Dm.ttext r 65536).2.1 65536).2.1 (acc++[⟨⟨(Dm.ttext r 65536).1.toArray⟩,⟨(Dm.ttext (Dm.ttext r 65536).2.1 65536).1.toArray⟩⟩])
def tkps (s:List UInt8):List Pr×List UInt8×Nat:=
  if (Dm.tnum s).2.2≠0 then ([],[],(Dm.tnum s).2.2) else tkp (Dm.tnum s).1 (Dm.tnum s).2.1 []
def tk2 (x:List Pr×List UInt8×Nat):List Pr×Nat:=if x.2.2≠0∨x.2.1≠[]∨may x.1=false then ([],3) else (x.1,0)
def tk1 (x:List UInt8×List UInt8×Nat):List Pr×Nat:=if x.2.2≠0∨x.2.1≠[] then ([],3) else tk2 (tkps x.1)
def take (s:List UInt8) (most:Int):List Pr×Nat:=tk1 (topen s most)
theorem may_big {l:List Pr} (h:may l=true):∀ p∈l,p.key.size≤65536∧p.val.size≤65536:=by
 intro p hp
 unfold may at h
 simp only [Bool.and_eq_true,Bool.not_eq_true',List.any_eq_false] at h
 have:=h.2 p hp
 simp only [big,Bool.or_eq_true,decide_eq_true_eq,not_or] at this
 omega
theorem flat_app (l m:List Pr):flat (l++m)=flat l++flat m:=by
 induction l with
 | nil=>rfl
 | cons p l ih=>simp [flat,ih]
theorem flat_snoc (l:List Pr) {k:Nat} (hk:k<l.length):flat (l.take (k+1))=flat (l.take k)++one l[k]:=by
 rw [List.take_succ_eq_append_getElem hk,flat_app];simp [flat]
theorem size_data (s:ByteArray):s.data.toList.length=s.size:=by simp
theorem mk_data (s:ByteArray):(⟨s.data.toList.toArray⟩:ByteArray)=s:=by simp
theorem ttext_ptx (s:ByteArray) (r:List UInt8) (h:s.size≤65536):Dm.ttext (ptx s++r) 65536=(s.data.toList,r,0):=by
 unfold ptx
 rw [List.append_assoc]
 exact Dm.ttext_text _ r 65536 (by rw [size_data];unfold Dm.maxU;omega) (by rw [size_data];omega)
theorem tkp_flat:∀ (l:List Pr) (r:List UInt8) (acc:List Pr),(∀ p∈l,p.key.size≤65536∧p.val.size≤65536)→tkp l.length (flat l++r) acc=(acc++l,r,0)
  | [],r,acc,_=>by simp [tkp,flat]
  | p :: l,r,acc,h=>by
    have hp:=h p (by simp)
    have e1:flat (p :: l)++r=ptx p.key++(ptx p.val++(flat l++r)):=by simp [flat,one]
    rw [List.length_cons,tkp,e1,ttext_ptx _ _ hp.1]
    simp only [ne_eq,not_true_eq_false,if_false]
    rw [ttext_ptx _ _ hp.2]
    simp only [ne_eq,not_true_eq_false,if_false]
    rw [mk_data,mk_data,tkp_flat l r _ (fun q hq=>h q (by simp [hq]))]
    simp
theorem tkps_body (l:List Pr) (h:∀ p∈l,p.key.size≤65536∧p.val.size≤65536) (hl:l.length≤Dm.maxU):tkps (body l)=(l,[],0):=by
 unfold tkps body
 rw [Dm.tnum_num _ _ hl]
 simp only [ne_eq,not_true_eq_false,if_false]
 have:=tkp_flat l [] [] h
 simpa using this
theorem take_bytes (l:List Pr) (most:Int) (h:may l=true) (hl:(body l).length≤Dm.maxU) (hm:((body l).length:Int)≤most):take (bytes l) most=(l,0):=by
 have hn:l.length≤Dm.maxU:=by
  have h1:l.length≤(flat l).length:=by
   clear h hl hm
   induction l with
   | nil=>simp
   | cons p l ih =>
     simp only [flat,one,ptx,List.length_append,List.length_cons]
     have:=Dm.dg_pos p.key.data.toList.length
     simp only [Dm.num,List.length_append,List.length_singleton]
     omega
  unfold body at hl;rw [List.length_append] at hl;omega
 unfold take bytes
 have e:=topen_sld (body l) [] most hl hm
 rw [List.append_nil] at e
 rw [e,tk1]
 simp only [ne_eq,not_true_eq_false,or_self,if_false]
 rw [tkps_body l (may_big h) hn,tk2]
 simp [h]
end Rn
end
section
open Prm
namespace Bm
structure Bt where
  kind:Int
  tok:ByteArray
  ws:List Wr
deriving DecidableEq
structure Sta where
  data:List Pr
  toks:List Pr
deriving DecidableEq
def wrong (w:Wr):Bool:=decide (w.key.size<1)||decide (32<w.key.size)||decide ((if w.del then 0 else 64)<w.val.size)
def keys (l:List Wr):List Pr:=l.map fun w=>⟨w.key,⟨#[]⟩⟩
def rise (l:List Wr):Bool:=right (keys l)
def may (b:Bt):Bool:=
  if b.tok.size<1∨16<b.tok.size then false
  else if b.kind=1 then decide (b.ws.length≤24)&&rise b.ws && !b.ws.any wrong
  else if b.kind=2 then decide (b.ws.length=0)
  else false
theorem may_tok {b:Bt} (h:may b=true):1≤b.tok.size∧b.tok.size≤16:=by
 unfold may at h
 split at h
 · cases h
 · omega
theorem may_kind {b:Bt} (h:may b=true):b.kind=1∨b.kind=2:=by
 unfold may at h
 split at h
 · cases h
 · split at h
   · left;assumption
   · split at h
     · right;assumption
     · cases h
theorem may_len {b:Bt} (h:may b=true):b.ws.length≤24:=by
 unfold may at h
 split at h
 · cases h
 · split at h
   · simp only [Bool.and_eq_true,decide_eq_true_eq] at h;exact h.1.1
   · split at h
     · simp only [decide_eq_true_eq] at h;omega
     · cases h
theorem may_ok {b:Bt} (h:may b=true):rise b.ws=true∧∀ w∈b.ws,wrong w=false:=by
 unfold may at h
 split at h
 · cases h
 · split at h
   · simp only [Bool.and_eq_true,Bool.not_eq_true',List.any_eq_false] at h
     exact ⟨h.1.2,fun w hw=>by simpa using h.2 w hw⟩
   · split at h
     · simp only [decide_eq_true_eq] at h
       have e:=List.eq_nil_of_length_eq_zero h
       rw [e]
       exact ⟨rfl,by simp⟩
     · cases h
theorem wrong_iff {x:Wr}:wrong x=true↔(x.key.size<1∨32<x.key.size∨(if x.del then 0 else 64)<x.val.size):=by
 unfold wrong
 simp only [Bool.or_eq_true,decide_eq_true_eq,or_assoc]
theorem wrong_t {x:Wr} (h:x.key.size<1∨32<x.key.size∨(if x.del then 0 else 64)<x.val.size):wrong x=true:=wrong_iff.2 h
theorem wrong_f {x:Wr} (h:¬(x.key.size<1∨32<x.key.size∨(if x.del then 0 else 64)<x.val.size)):wrong x=false:=by
 cases e:wrong x with
 | false=>rfl
 | true=>exact absurd (wrong_iff.1 e) h
theorem wrong_not {w:Wr} (h:wrong w=false):1≤w.key.size∧w.key.size≤32∧w.val.size≤64∧(w.del=true→w.val.size=0):=by
 unfold wrong at h
 simp only [Bool.or_eq_false_iff,decide_eq_false_iff_not] at h
 obtain ⟨⟨a,b⟩,c⟩:=h
 refine ⟨by omega,by omega,?_,fun hd=>?_⟩
 · split at c<;>omega
 · rw [if_pos hd] at c;omega
def del (w:Wr):Nat:=if w.del then 1 else 0
def one (w:Wr):List UInt8:=Dm.num (del w)++Rn.ptx w.key++Rn.ptx w.val
def flat:List Wr→List UInt8
  | []=>[]
  | w :: l=>one w++flat l
def head (b:Bt):List UInt8:=Dm.num b.kind.toNat++Rn.ptx b.tok++Dm.num b.ws.length
def bytes (b:Bt):List UInt8:=head b++flat b.ws
def bytesM (b:Bt):List UInt8×Int:=if may b then (bytes b,0) else ([],1)
theorem flat_app (l m:List Wr):flat (l++m)=flat l++flat m:=by
 induction l with
 | nil=>rfl
 | cons p l ih=>simp [flat,ih]
theorem flat_snoc (l:List Wr) {k:Nat} (hk:k<l.length):flat (l.take (k+1))=flat (l.take k)++one l[k]:=by
 rw [List.take_succ_eq_append_getElem hk,flat_app];simp [flat]
theorem ptx_len (s:ByteArray) (h:s.size≤1000):(Rn.ptx s).length≤21+s.size:=by
 unfold Rn.ptx
 rw [List.length_append,Rn.size_data]
 have:=Dm.num_length s.size (by omega)
 omega
theorem one_len (w:Wr) (h:wrong w=false):(one w).length≤159:=by
 obtain ⟨a,b,c,_⟩:=wrong_not h
 have h1:=ptx_len w.key (by omega)
 have h2:=ptx_len w.val (by omega)
 have h3:=Dm.num_length (del w) (by unfold del;split<;>omega)
 unfold one
 rw [List.length_append,List.length_append]
 omega
theorem flat_len:∀ (l:List Wr),(∀ w∈l,wrong w=false)→(flat l).length≤l.length*159
  | [],_=>by simp [flat]
  | w :: l,h=>by
    have h1:=one_len w (h w (by simp))
    have h2:=flat_len l fun q hq=>h q (by simp [hq])
    simp only [flat,List.length_append,List.length_cons,Nat.add_mul]
    omega
theorem head_len {b:Bt} (h:may b=true):(head b).length≤79:=by
 have h1:=ptx_len b.tok (by have:=(may_tok h).2;omega)
 have h2:=Dm.num_length b.kind.toNat (by have:=may_kind h;omega)
 have h3:=Dm.num_length b.ws.length (by have:=may_len h;omega)
 have:=(may_tok h).2
 unfold head
 rw [List.length_append,List.length_append]
 omega
theorem bytes_len {b:Bt} (h:may b=true):(bytes b).length≤4000:=by
 have h1:=head_len h
 have h2:=flat_len b.ws (may_ok h).2
 have h3:=may_len h
 have h4:b.ws.length*159≤24*159:=Nat.mul_le_mul_right _ h3
 unfold bytes
 rw [List.length_append]
 omega
abbrev Hs:=List UInt8×Bool
def tkN (most:Nat) (x:Hs):Nat×Hs:=if (Dm.tnum x.1).2.2≠0∨most<(Dm.tnum x.1).1 then (0,(Dm.tnum x.1).2.1,false) else ((Dm.tnum x.1).1,(Dm.tnum x.1).2.1,x.2)
def tkT (most:Int) (x:Hs):List UInt8×Hs:=((Dm.ttext x.1 most).1,(Dm.ttext x.1 most).2.1,x.2&&decide ((Dm.ttext x.1 most).2.2=0))
def tkW (x:Hs):Wr×Hs:=
  (⟨⟨(tkT 32 (tkN 1 x).2).1.toArray⟩,⟨(tkT 64 (tkT 32 (tkN 1 x).2).2).1.toArray⟩,decide ((tkN 1 x).1=1)⟩,(tkT 64 (tkT 32 (tkN 1 x).2).2).2)
def tkWs:Nat→List Wr→Hs→List Wr×Hs
  | 0,acc,x=>(acc,x)
  | n+1,acc,x=>tkWs n (acc++[(tkW x).1]) (tkW x).2
def tkH (x:Hs):Nat×List UInt8×Nat×Hs:=((tkN 2 x).1,(tkT 16 (tkN 2 x).2).1,(tkN 24 (tkT 16 (tkN 2 x).2).2).1,(tkN 24 (tkT 16 (tkN 2 x).2).2).2)
def tkB (x:Hs):Bt×Hs:=
  (⟨((tkH x).1:Nat),⟨(tkH x).2.1.toArray⟩,(tkWs (tkH x).2.2.1 [] (tkH x).2.2.2).1⟩,(tkWs (tkH x).2.2.1 [] (tkH x).2.2.2).2)
def fin (x:Bt×Hs):Bt×Nat:=if x.2.2=true∧x.2.1=[]∧may x.1=true then (x.1,0) else (⟨0,⟨#[]⟩,[]⟩,3)
def take (s:List UInt8):Bt×Nat:=fin (tkB (s,true))
theorem tkN_num {v most:Nat} (r:List UInt8) (o:Bool) (h:v≤most) (hm:most≤1000):tkN most (Dm.num v++r,o)=(v,r,o):=by
 unfold tkN
 rw [Dm.tnum_num v r (by unfold Dm.maxU;omega)]
 rw [if_neg (by simp;omega)]
theorem tkT_ptx {s:ByteArray} {most:Int} (r:List UInt8) (o:Bool) (h:(s.size:Int)≤most) (hm:most≤1000):tkT most (Rn.ptx s++r,o)=(s.data.toList,r,o):=by
 unfold tkT Rn.ptx
 simp only [List.append_assoc]
 rw [Dm.ttext_text _ r most (by rw [Rn.size_data];unfold Dm.maxU;omega) (by rw [Rn.size_data];exact h)]
 simp
theorem tkW_one {w:Wr} (r:List UInt8) (o:Bool) (h:wrong w=false):tkW (one w++r,o)=(w,r,o):=by
 obtain ⟨a,b,c,_⟩:=wrong_not h
 have e1:tkN 1 (one w++r,o)=(del w,Rn.ptx w.key++(Rn.ptx w.val++r),o):=by
  unfold one
  rw [List.append_assoc,List.append_assoc]
  exact tkN_num _ _ (by unfold del;split<;>omega) (by omega)
 have e2:=tkT_ptx (s:=w.key) (most:=32) (Rn.ptx w.val++r) o (by omega) (by omega)
 have e3:=tkT_ptx (s:=w.val) (most:=64) r o (by omega) (by omega)
 unfold tkW
 rw [e1];dsimp only
 rw [e2];dsimp only
 rw [e3];dsimp only
 rw [Rn.mk_data,Rn.mk_data]
 have:decide (del w=1)=w.del:=by unfold del;cases w.del<;>rfl
 rw [this]
theorem tkWs_flat:∀ (l acc:List Wr) (r:List UInt8) (o:Bool),(∀ w∈l,wrong w=false)→tkWs l.length acc (flat l++r,o)=(acc++l,r,o)
  | [],acc,r,o,_=>by simp [tkWs,flat]
  | w :: l,acc,r,o,h=>by
    rw [List.length_cons,tkWs,flat,List.append_assoc,tkW_one _ _ (h w (by simp))]
    dsimp only
    rw [tkWs_flat l _ r o fun q hq=>h q (by simp [hq])]
    simp
theorem tkB_bytes {b:Bt} (r:List UInt8) (o:Bool) (h:may b=true):tkB (bytes b++r,o)=(b,r,o):=by
 have ht:=may_tok h
 have hk:=may_kind h
 have hl:=may_len h
 have e1:tkN 2 (bytes b++r,o)=(b.kind.toNat,Rn.ptx b.tok++(Dm.num b.ws.length++(flat b.ws++r)),o):=by
  unfold bytes head
  rw [List.append_assoc,List.append_assoc,List.append_assoc]
  exact tkN_num _ _ (by omega) (by omega)
 have e2:=tkT_ptx (s:=b.tok) (most:=16) (Dm.num b.ws.length++(flat b.ws++r)) o (by omega) (by omega)
 have e3:=tkN_num (v:=b.ws.length) (most:=24) (flat b.ws++r) o hl (by omega)
 have e4:=tkWs_flat b.ws [] r o (may_ok h).2
 have eh:tkH (bytes b++r,o)=(b.kind.toNat,b.tok.data.toList,b.ws.length,(flat b.ws++r,o)):=by
  unfold tkH
  rw [e1];dsimp only
  rw [e2];dsimp only
  rw [e3]
 unfold tkB
 rw [eh];dsimp only
 rw [e4,Rn.mk_data,List.nil_append]
 have:((b.kind.toNat:Nat):Int)=b.kind:=by omega
 rw [this]
theorem take_bytes {b:Bt} (h:may b=true):take (bytes b)=(b,0):=by
 have:=tkB_bytes [] true h
 rw [List.append_nil] at this
 unfold take fin
 rw [this]
 simp [h]
def word (k:Int):ByteArray:=if k=1 then ⟨#[99]⟩ else ⟨#[103]⟩
def doo (s:Sta) (b:Bt):Sta×Nat:=
  if may b=false then (s,1) else if (find b.tok s.toks).2=true then (s,8) else (⟨apply s.data b.ws,put s.toks ⟨b.tok,word b.kind⟩⟩,0)
def mk1 (m:UInt8) (p:Pr):Pr:=⟨⟨([m]++p.key.data.toList).toArray⟩,p.val⟩
def marked (m:UInt8) (l:List Pr):List Pr:=l.map (mk1 m)
def pairs (s:Sta):List Pr:=marked 100 s.data++marked 116 s.toks
def isM (m:UInt8) (k:ByteArray):Bool:=decide (k.data.toList.head? = some m)
def cut (k:ByteArray):ByteArray:=⟨k.data.toList.tail.toArray⟩
def cg (v:ByteArray):Bool:=decide (v=⟨#[99]⟩)||decide (v=⟨#[103]⟩)
def step (s:Sta) (p:Pr):Option Sta:=
  if isM 100 p.key=true∧s.toks=[] then some ⟨s.data++[⟨cut p.key,p.val⟩],s.toks⟩
  else if isM 116 p.key=true∧cg p.val=true then some ⟨s.data,s.toks++[⟨cut p.key,p.val⟩]⟩
  else none
def backL:List Pr→Sta→Option Sta
  | [],s=>some s
  | p :: l,s=>match step s p with | some t=>backL l t | none=>none
def back (l:List Pr):Sta×Nat:=match backL l ⟨[],[]⟩ with | some s=>(s,0) | none=>(⟨[],[]⟩,3)
theorem isM_mk (m:UInt8) (p:Pr):isM m (mk1 m p).key=true:=by simp [isM,mk1]
theorem isM_mk_not {m m':UInt8} (h:m≠m') (p:Pr):isM m' (mk1 m p).key=false:=by simp [isM,mk1,h]
theorem cut_mk (m:UInt8) (p:Pr):(⟨cut (mk1 m p).key,(mk1 m p).val⟩:Pr)=p:=by
 obtain ⟨k,v⟩:=p
 simp [cut,mk1]
theorem backL_data:∀ (l:List Pr) (m:List Pr) (d:List Pr),backL (marked 100 l++m) ⟨d,[]⟩=backL m ⟨d++l,[]⟩
  | [],m,d=>by simp [marked]
  | p :: l,m,d=>by
    have e:step ⟨d,[]⟩ (mk1 100 p)=some ⟨d++[p],[]⟩:=by
     unfold step
     rw [if_pos ⟨isM_mk 100 p,rfl⟩,cut_mk]
    show (match step ⟨d,[]⟩ (mk1 100 p) with | some t=>backL (marked 100 l++m) t | none=>none)=_
    rw [e]
    show backL (marked 100 l++m) ⟨d++[p],[]⟩=_
    rw [backL_data l m (d++[p])]
    simp
theorem backL_toks:∀ (l:List Pr) (d t:List Pr),(∀ p∈l,cg p.val=true)→backL (marked 116 l) ⟨d,t⟩=some ⟨d,t++l⟩
  | [],d,t,_=>by simp [marked,backL]
  | p :: l,d,t,h=>by
    have e:step ⟨d,t⟩ (mk1 116 p)=some ⟨d,t++[p]⟩:=by
     unfold step
     rw [if_neg (by rw [isM_mk_not (by decide)];simp),if_pos ⟨isM_mk 116 p,by have:=h p (by simp);exact this⟩,cut_mk]
    show (match step ⟨d,t⟩ (mk1 116 p) with | some t=>backL (marked 116 l) t | none=>none)=_
    rw [e]
    show backL (marked 116 l) ⟨d,t++[p]⟩=_
    rw [backL_toks l d (t++[p]) fun q hq=>h q (by simp [hq])]
    simp
theorem back_pairs {s:Sta} (h:∀ p∈s.toks,cg p.val=true):back (pairs s)=(s,0):=by
 unfold back pairs
 rw [backL_data s.data _ [],backL_toks s.toks _ [] h]
 simp
def cgs (l:List Pr):Prop:=∀ p∈l,cg p.val=true
theorem cg_word (k:Int):cg (word k)=true:=by unfold word cg;split<;>simp
theorem mem_setF {p a:Pr}:∀ {l:List Pr},a∈setF p l→a=p∨a∈l
  | [],h=>by simp [setF] at h
  | q :: l,h=>by
    simp only [setF] at h
    split at h
    · rcases List.mem_cons.1 h with rfl | h
      · exact .inl rfl
      · exact .inr (by simp [h])
    · rcases List.mem_cons.1 h with rfl | h
      · exact .inr (by simp)
      · rcases mem_setF h with rfl | h
        · exact .inl rfl
        · exact .inr (by simp [h])
theorem mem_put {p a:Pr} {l:List Pr} (h:a∈put l p):a=p∨a∈l:=by
 unfold put at h
 split at h
 · exact mem_setF h
 · exact mem_ins h
theorem cgs_put {l:List Pr} {k:ByteArray} (v:Int) (h:cgs l):cgs (put l ⟨k,word v⟩):=fun p hp=>by
 rcases mem_put hp with rfl | hp
 · exact cg_word v
 · exact h p hp
def good (s:Sta):Prop:=right s.data=true∧right s.toks=true∧cgs s.toks
theorem doo_ok {s:Sta} {b:Bt} (h:(doo s b).2=0):may b=true∧find b.tok (doo s b).1.toks=(word b.kind,true):=by
 unfold doo at h ⊢
 split at h
 · simp at h
 · rename_i h1
   split at h
   · simp at h
   · rename_i h2
     rw [if_neg h1,if_neg h2]
     exact ⟨by simpa using h1,find_put_same s.toks ⟨b.tok,word b.kind⟩⟩
theorem doo_len (s:Sta) (b:Bt):(doo s b).1.data.length≤s.data.length+24∧(doo s b).1.toks.length≤s.toks.length+1:=by
 unfold doo
 split
 · simp
 · rename_i h1
   split
   · simp
   · have:=may_len (b:=b) (by simpa using h1)
     have h3:=apply_len s.data b.ws
     exact ⟨by simp only;omega,put_len _ _⟩
end Bm
end
section
open Go.RowKit Dkm
set_option maxHeartbeats 1000000 in
theorem ref_new_neg (room:Int) (w:World) (h:room<0) :
    Calls Tryz.prog 28 #[.int .i64 room] w fun e w'=>e=.returned (.tuple #[dkv none 0 0 0 0 false,.int .i64 1])∧Q w w':=by
  go_enter Tryz.func28,Tryz.ntmps28
  go_wp2
  exact bodyPost_ret (v:=.tuple #[dkv none 0 0 0 0 false,.int .i64 1]) (by simp [results,Tryz.results28,go_sem]) rfl ⟨rfl,(Q.refl _).alloc _⟩
set_option maxHeartbeats 1000000 in
theorem ref_new_any (room:Int) (w:World) (h:0≤room) :
    Calls Tryz.prog 28 #[.int .i64 room] w fun e w'=>e=.returned (.tuple #[dkv none 0 0 room (-1) false,.int .i64 0])∧Q w w':=by
  go_enter Tryz.func28,Tryz.ntmps28
  go_wp2
  exact bodyPost_ret (v:=.tuple #[dkv none 0 0 room (-1) false,.int .i64 0]) (by simp [results,Tryz.results28,go_sem]) rfl ⟨rfl,(Q.refl _).alloc _⟩
end
section
open Go.RowKit Dkm
end
section
open Go.RowKit Dkm
def RetDK (w:World) (A0:Option Addr) (n0:Nat) (d:Dk) (er:Int) (e:Ending) (w':World):Prop:=
  ∃ A' n' c',e=.returned (.tuple #[dkv A' n' c' d.room d.fuse d.off,.int .i64 er])∧Dsk w' A' n' c' d.fs∧(A'=A0∧n'=n0∨∀ ad,A'=some ad→w.heap.size≤ad.block)∧Q w w'
structure Sb (w:World) (A:Option Addr) (n c:Nat) (room fuse:Int) (off:Bool) (wr:World):Prop where
  box:Bx wr w.heap.size [.slice A n c,.int .i64 room,.int .i64 fuse,.bool off]
  res:Bx wr (w.heap.size+1) [.slice none 0 0,.int .i64 0,.int .i64 0,.bool false]
  q:Q w wr
theorem Sb.new (w:World) (A:Option Addr) (n c:Nat) (room fuse:Int) (off:Bool):Sb w A n c room fuse off ((w.alloc (.cells #[.slice A n c,.int .i64 room,.int .i64 fuse,.bool off] 24)).alloc (.cells #[.slice none 0 0,.int .i64 0,.int .i64 0,.bool false] 24)):=
  ⟨(two_new w (.slice A n c) (.int .i64 room) (.int .i64 fuse) (.bool off) (.slice none 0 0) (.int .i64 0) (.int .i64 0) (.bool false) 24).1,(two_new w (.slice A n c) (.int .i64 room) (.int .i64 fuse) (.bool off) (.slice none 0 0) (.int .i64 0) (.int .i64 0) (.bool false) 24).2,((Q.refl w).alloc _).alloc _⟩
section
variable {w wr:World} {A:Option Addr} {n c:Nat} {room fuse:Int} {off:Bool}
theorem Sb.step {w2:World} (h:Sb w A n c room fuse off wr) (q:Q wr w2):Sb w A n c room fuse off w2:=⟨h.box.q q,h.res.q q,h.q.trans q⟩
theorem Sb.put4 (h:Sb w A n c room fuse off wr) (A2:Option Addr) (n2 c2:Nat) (room2 fuse2:Int) (off2:Bool) :
    Sb w A2 n2 c2 room2 fuse2 off2 ((((wr.setCell ⟨w.heap.size,0,none⟩ (.slice A2 n2 c2)).setCell ⟨w.heap.size,1,none⟩ (.int .i64 room2)).setCell ⟨w.heap.size,2,none⟩ (.int .i64 fuse2)).setCell ⟨w.heap.size,3,none⟩ (.bool off2)):=
  ⟨h.box.put4 _ _ _ _,h.res.far4 (c:=w.heap.size) (by omega) _ _ _ _,h.q.set4 (b:=w.heap.size) (Nat.le_refl _) _ _ _ _⟩
theorem Sb.get (h:Sb w A n c room fuse off wr):((wr.cell? ⟨w.heap.size,0,none⟩=some (.slice A n c)∧wr.cell? ⟨w.heap.size,1,none⟩=some (.int .i64 room)∧wr.cell? ⟨w.heap.size,2,none⟩=some (.int .i64 fuse)∧wr.cell? ⟨w.heap.size,3,none⟩=some (.bool off)) ∧
    wr.frozen? ⟨w.heap.size,0,none⟩=false∧wr.frozen? ⟨w.heap.size,1,none⟩=false∧wr.frozen? ⟨w.heap.size,2,none⟩=false∧wr.frozen? ⟨w.heap.size,3,none⟩=false):=h.box.get4
theorem Sb.getR (h:Sb w A n c room fuse off wr):((wr.cell? ⟨w.heap.size+1,0,none⟩=some (.slice none 0 0)∧wr.cell? ⟨w.heap.size+1,1,none⟩=some (.int .i64 0)∧wr.cell? ⟨w.heap.size+1,2,none⟩=some (.int .i64 0)∧wr.cell? ⟨w.heap.size+1,3,none⟩=some (.bool false)) ∧
    wr.frozen? ⟨w.heap.size+1,0,none⟩=false∧wr.frozen? ⟨w.heap.size+1,1,none⟩=false∧wr.frozen? ⟨w.heap.size+1,2,none⟩=false∧wr.frozen? ⟨w.heap.size+1,3,none⟩=false):=h.res.get4
theorem Sb.endK (h:Sb w A n c room fuse off wr) {l:List Fil} (hd:Dsk w A n c l) (er:Int) (x y z u:Value):RetDK w A n ⟨l,room,fuse,off⟩ er (.returned (.tuple #[dkv A n c room fuse off,.int .i64 er])) ((((wr.setCell ⟨w.heap.size+1,0,none⟩ x).setCell ⟨w.heap.size+1,1,none⟩ y).setCell ⟨w.heap.size+1,2,none⟩ z).setCell ⟨w.heap.size+1,3,none⟩ u):=
  ⟨A,n,c,rfl,hd.q (h.q.set4 (b:=w.heap.size+1) (by omega) _ _ _ _),.inl ⟨rfl,rfl⟩,h.q.set4 (b:=w.heap.size+1) (by omega) _ _ _ _⟩
end
end
section
open Go.RowKit Dkm Wm
structure Sv (w:World) (A:Option Addr) (n c:Nat) (d:Dk) (wr:World):Prop where
  sb:Sb w A n c d.room d.fuse d.off wr
  dsk:Dsk wr A n c d.fs
  away:0<n→∀ ad,A=some ad→ad.block≠w.heap.size∧ad.block≠w.heap.size+1
def Far (w:World) (A:Option Addr):Prop:=∀ ad,A=some ad→w.heap.size≤ad.block
section
variable {w wr:World} {A:Option Addr} {n c:Nat} {d:Dk}
theorem Sv.step {w2:World} (h:Sv w A n c d wr) (q:Q wr w2):Sv w A n c d w2:=⟨h.sb.step q,h.dsk.q q,h.away⟩
theorem Files.blk {w:World} {A:Option Addr} {n:Nat} {l:List Fil} (h:Files w A n l) (hn:0<n):∀ ad,A=some ad→ad.block<w.heap.size:=by
 intro ad e
 have hl:=h.len
 obtain ⟨ad',e',hb,_⟩:=h.load (k:=0) hn (by omega)
 rw [e] at e';injection e' with e';subst e';exact hb
theorem Dsk.away1 {w:World} {l:List Fil} (h:Dsk w A n c l) {b:Nat} (ha:0<n→∀ ad,A=some ad→ad.block≠b) (o:Nat) (u:Value):Dsk (w.setCell ⟨b,o,none⟩ u) A n c l:=by
 by_cases hn:0<n
 · exact h.away (ha hn) o u
 · have e:n=0:=by omega
   subst e
   have hl:l=[]:=List.eq_nil_of_length_eq_zero h.len
   subst hl
   exact ⟨Holds.none_ _ _ _ _,h.nil,h.le,h.cap,h.few⟩
theorem Sv.new (w:World) (h:Dsk w A n c d.fs):Sv w A n c d ((w.alloc (.cells #[.slice A n c,.int .i64 d.room,.int .i64 d.fuse,.bool d.off] 24)).alloc (.cells #[.slice none 0 0,.int .i64 0,.int .i64 0,.bool false] 24)):=
  ⟨Sb.new w A n c d.room d.fuse d.off,h.q (((Q.refl _).alloc _).alloc _),fun hn ad e=>by have:=h.files.blk hn ad e;omega⟩
theorem Sv.put {w5:World} {A5:Option Addr} {n5 c5:Nat} {d5:Dk} (h:Sv w A n c d wr) (q:Q wr w5) (ho:Own w5 wr.heap.size A5 n5 c5 d5.fs) (hn:n5*48≤140737488355328) :
    Sv w A5 n5 c5 d5 ((((w5.setCell ⟨w.heap.size,0,none⟩ (.slice A5 n5 c5)).setCell ⟨w.heap.size,1,none⟩ (.int .i64 d5.room)).setCell ⟨w.heap.size,2,none⟩ (.int .i64 d5.fuse)).setCell ⟨w.heap.size,3,none⟩ (.bool d5.off))∧Far w A5:=by
  have hlt:=h.sb.res.lt
  exact ⟨⟨(h.sb.step q).put4 A5 n5 c5 d5.room d5.fuse d5.off,(ho.set4 (b:=w.heap.size) (by omega) _ _ _ _).dsk hn,fun _ ad e=>by have:=ho.far_ ad e;omega⟩,fun ad e=>by have:=ho.far_ ad e;omega⟩
theorem Sv.putK {w5:World} {A5:Option Addr} {n5 c5:Nat} {d5:Dk} (h:Sv w A n c d wr) (q:Q wr w5) (ho:Dsk w5 A5 n5 c5 d5.fs) (hf:A5=A∧n5=n∨∀ ad,A5=some ad→wr.heap.size≤ad.block) :
    Sv w A5 n5 c5 d5 ((((w5.setCell ⟨w.heap.size,0,none⟩ (.slice A5 n5 c5)).setCell ⟨w.heap.size,1,none⟩ (.int .i64 d5.room)).setCell ⟨w.heap.size,2,none⟩ (.int .i64 d5.fuse)).setCell ⟨w.heap.size,3,none⟩ (.bool d5.off)):=by
  have hlt:=h.sb.res.lt
  have haw:0<n5→∀ ad,A5=some ad→ad.block≠w.heap.size∧ad.block≠w.heap.size+1:=by
   intro hn ad e
   rcases hf with ⟨rfl,rfl⟩ | hf
   · exact h.away hn ad e
   · have:=hf ad e;omega
  have a1:0<n5→∀ ad,A5=some ad→ad.block≠w.heap.size:=fun hn ad e=>(haw hn ad e).1
  exact ⟨(h.sb.step q).put4 A5 n5 c5 d5.room d5.fuse d5.off,(((ho.away1 a1 0 _).away1 a1 1 _).away1 a1 2 _).away1 a1 3 _,haw⟩
theorem Sv.farK {A5 A0:Option Addr} {n5 n0:Nat} (h:Sv w A n c d wr) (h0:A=A0∧n=n0∨Far w A) (hf:A5=A∧n5=n∨∀ ad,A5=some ad→wr.heap.size≤ad.block):A5=A0∧n5=n0∨Far w A5:=by
 rcases hf with ⟨rfl,rfl⟩ | hf
 · exact h0
 · exact .inr fun ad e=>by have:=hf ad e;have:=h.sb.res.lt;omega
theorem Sv.endK (h:Sv w A n c d wr) {A0:Option Addr} {n0:Nat} (hf:A=A0∧n=n0∨Far w A) (er:Int) (x y z u:Value) :
    RetDK w A0 n0 d er (.returned (.tuple #[dkv A n c d.room d.fuse d.off,.int .i64 er])) ((((wr.setCell ⟨w.heap.size+1,0,none⟩ x).setCell ⟨w.heap.size+1,1,none⟩ y).setCell ⟨w.heap.size+1,2,none⟩ z).setCell ⟨w.heap.size+1,3,none⟩ u):=
  ⟨A,n,c,rfl,(((h.dsk.away1 (fun hn ad e=>(h.away hn ad e).2) 0 _).away1 (fun hn ad e=>(h.away hn ad e).2) 1 _).away1 (fun hn ad e=>(h.away hn ad e).2) 2 _).away1 (fun hn ad e=>(h.away hn ad e).2) 3 _,hf,h.sb.q.set4 (b:=w.heap.size+1) (by omega) _ _ _ _⟩
end
theorem few_own {w:World} {base B:Nat} {A:Option Addr} {n c:Nat} {d:Dk} (h:Own w base A n c d.fs) (hB:Bnd B d):n*48≤140737488355328:=by have h1:=h.len;have h2:=hB.few;omega
end
section
open Go.RowKit Dkm
end
section
open Go.RowKit Dkm
end
section
open Go.RowKit Dkm
end
end Go.Proofs.YtajidconlmhjfaaGreatDoor
namespace Go
section
variable {P:Program} {ops:Array Oper} {Q:Exit→Act→World→Prop} {md:Region.Mode} {S S':World→Prop}
end
end Go
namespace Go.Proofs.YtajidconlmhjfaaGreatDoor
section
variable {P:Program} {ops:Array Oper} {Q:Exit→Act→World→Prop} {md:Region.Mode} {S:World→Prop}
theorem sA {α:Type _} {l:List α} {i:Nat} {a:α}:l.toArray.setIfInBounds i a=(l.set i a).toArray:=List.setIfInBounds_toArray ..
theorem sB {α:Type _} {a:α} {l:List α} {b:α}:(a :: l).set 0 b=b :: l:=List.set_cons_zero
theorem sC {α:Type _} {a:α} {l:List α} {n:Nat} {b:α}:(a :: l).set (n+1) b=a :: l.set n b:=List.set_cons_succ
theorem takeH (i:Nat) {oi:Oper} (v:Value) {fuel:Nat} {listed:Array Bool} {a a':Act} {w:World} (hy:∀ w,S w→(execOp a.eval oi).run P w=.ok (.value v) w) (h:wpAnyH P md ops Q S fuel (listed.setIfInBounds i true) a' w) (hi:ops[i]? = some oi:=by (simp only [List.getElem?_toArray,List.getElem?_cons_zero,List.getElem?_cons_succ];rfl))
    (hs:Region.noSelect ops=true:=by kernel_rfl) (hf:Region.free md ops listed i=true:=by kernel_rfl) (hr:(Region.ready md ops listed).contains i=true:=by kernel_rfl)
    (hw:Region.wanted oi (yielded ops a.tmps)=true:=by rfl) (hQ:∀ c a w,Q (.panic c) (a.put oi.dst v) w→Q (.panic c) a w:=by exact fun _ _ _ h=>h) (hS:S w:=by first | assumption | trivial) (ha:a.put oi.dst v=a':=by (simp only [Act.put,sA,sB,sC];try rfl)):wpAnyH P md ops Q S (fuel+1) listed a w:=
  wpAnyH_take hi hs hf hr hQ (.inl ⟨hw,hy⟩) hS (ha ▸ h)
theorem takH (i:Nat) {oi:Oper} {v:Value} {fuel:Nat} {listed:Array Bool} {a a':Act} {w:World} (h:wpAnyH P md ops Q S fuel (listed.setIfInBounds i true) a' w) (hi:ops[i]? = some oi:=by (simp only [List.getElem?_toArray,List.getElem?_cons_zero,List.getElem?_cons_succ];rfl)) (hy:∀ w,S w→(execOp a.eval oi).run P w=.ok (.value v) w:=by (intro w hSw;go_simp;try with_reducible rfl))
    (hs:Region.noSelect ops=true:=by kernel_rfl) (hf:Region.free md ops listed i=true:=by kernel_rfl) (hr:(Region.ready md ops listed).contains i=true:=by kernel_rfl)
    (hw:Region.wanted oi (yielded ops a.tmps)=true:=by rfl) (hQ:∀ c a w,Q (.panic c) (a.put oi.dst v) w→Q (.panic c) a w:=by exact fun _ _ _ h=>h) (hS:S w:=by first | assumption | trivial) (ha:a.put oi.dst v=a':=by (simp only [Act.put,sA,sB,sC];try rfl)):wpAnyH P md ops Q S (fuel+1) listed a w:=
  wpAnyH_take hi hs hf hr hQ (.inl ⟨hw,hy⟩) hS (ha ▸ h)
theorem tadH (i:Nat) {oi:Oper} {v:Value} {fuel:Nat} {listed:Array Bool} {a a':Act} {w:World} (h:wpAnyH P md ops Q S fuel (listed.setIfInBounds i true) a' w) (hi:ops[i]? = some oi:=by (simp only [List.getElem?_toArray,List.getElem?_cons_zero,List.getElem?_cons_succ];rfl)) (hy:∀ w,S w→(execOp a.eval oi).run P w=.ok (.value v) w:=by (intro w hSw;(try dsimp only at hSw);go_simp;try with_reducible rfl))
    (hs:Region.noSelect ops=true:=by kernel_rfl) (hf:Region.free md ops listed i=true:=by kernel_rfl) (hr:(Region.ready md ops listed).contains i=true:=by kernel_rfl)
    (hw:Region.wanted oi (yielded ops a.tmps)=true:=by rfl) (hQ:∀ c a w,Q (.panic c) (a.put oi.dst v) w→Q (.panic c) a w:=by exact fun _ _ _ h=>h) (hS:S w:=by first | assumption | trivial) (ha:a.put oi.dst v=a':=by (simp only [Act.put,sA,sB,sC];try rfl)):wpAnyH P md ops Q S (fuel+1) listed a w:=
  wpAnyH_take hi hs hf hr hQ (.inl ⟨hw,hy⟩) hS (ha ▸ h)
theorem skipH (i:Nat) {oi:Oper} {fuel:Nat} {listed:Array Bool} {a a':Act} {w:World} (h:wpAnyH P md ops Q S fuel (listed.setIfInBounds i true) a' w) (hi:ops[i]? = some oi:=by (simp only [List.getElem?_toArray,List.getElem?_cons_zero,List.getElem?_cons_succ];rfl))
    (hs:Region.noSelect ops=true:=by kernel_rfl) (hf:Region.free md ops listed i=true:=by kernel_rfl) (hr:(Region.ready md ops listed).contains i=true:=by kernel_rfl)
    (hw:Region.wanted oi (yielded ops a.tmps)=false:=by rfl) (hQ:∀ c a w,Q (.panic c) (a.put oi.dst undef) w→Q (.panic c) a w:=by exact fun _ _ _ h=>h) (hS:S w:=by first | assumption | trivial) (ha:a.put oi.dst undef=a':=by (simp only [Act.put,sA,sB,sC];try rfl)):wpAnyH P md ops Q S (fuel+1) listed a w:=
  wpAnyH_take hi hs hf hr hQ (.inr ⟨hw,rfl⟩) hS (ha ▸ h)
theorem oneH (i:Nat) {fuel:Nat} {listed:Array Bool} {a:Act} {w:World} {o:Oper}
    (h:∀ K:Act→World→Prop,Shut (∀ a w,S w→(S w→wpAnyH P md ops Q S fuel (listed.setIfInBounds i true) a w)→K a w)→if Region.wanted o (yielded ops a.tmps)=true then Oper.wp P o a w K Q else K (a.put o.dst undef) w)
    (hr:Region.ready md ops listed=[i]:=by kernel_rfl) (ho:ops[i]? = some o:=by (simp only [List.getElem?_toArray,List.getElem?_cons_zero,List.getElem?_cons_succ];rfl)):wpAnyH P md ops Q S (fuel+1) listed a w:=wpAnyH_ready hr (by simp) (AllReadyH.cons ho h AllReadyH.nil)
theorem consH {fuel:Nat} {listed:Array Bool} {a:Act} {w:World} {i:Nat} {o:Oper} {rs:List Nat}
    (h:∀ K:Act→World→Prop,Shut (∀ a w,S w→(S w→wpAnyH P md ops Q S fuel (listed.setIfInBounds i true) a w)→K a w)→if Region.wanted o (yielded ops a.tmps)=true then Oper.wp P o a w K Q else K (a.put o.dst undef) w)
    (hs:AllReadyH P md ops Q S fuel listed a w rs) (ho:ops[i]? = some o:=by (simp only [List.getElem?_toArray,List.getElem?_cons_zero,List.getElem?_cons_succ];rfl)):AllReadyH P md ops Q S fuel listed a w (i :: rs):=AllReadyH.cons ho h hs
end
end Go.Proofs.YtajidconlmhjfaaGreatDoor
namespace Go.Proofs.YtajidconlmhjfaaGreatDoor
section
section
variable {P:Program} {ops:Array Oper} {Q:Exit→Act→World→Prop} {md:Region.Mode} {k:Nat}
def Till (k:Nat) (S:World→Prop) (T:Array Bool→Act→World→Prop) (l:Array Bool):Act→World→Prop:=fun a w=>(l.getD k true=false→S w)∧T l a w
def wpAnyL (P:Program) (md:Region.Mode) (ops:Array Oper) (Q:Exit→Act→World→Prop) (k:Nat) (S:World→Prop) (fuel:Nat):Array Bool→Act→World→Prop:=
  Nat.rec (fun l a w=>Region.ready md ops l=[]∧Q .normal a w)
    (fun _ T l a w=>(Region.ready md ops l=[]→Q .normal a w)∧∀ j,j∈Region.ready md ops l→wpOp P ops Q j (Till k S T (l.setIfInBounds j true)) a w) fuel
variable {S S':World→Prop}
theorem wpAnyL_zero {l:Array Bool} {a:Act} {w:World}:wpAnyL P md ops Q k S 0 l a w↔Region.ready md ops l=[]∧Q .normal a w:=Iff.rfl
theorem wpAnyL_succ {n:Nat} {l:Array Bool} {a:Act} {w:World}:wpAnyL P md ops Q k S (n+1) l a w ↔
    (Region.ready md ops l=[]→Q .normal a w)∧∀ j,j∈Region.ready md ops l→wpOp P ops Q j (Till k S (wpAnyL P md ops Q k S n) (l.setIfInBounds j true)) a w:=Iff.rfl
theorem wpAnyL_plain (n:Nat):∀ (l:Array Bool) (a:Act) (w:World),wpAnyL P md ops Q k S n l a w→wpAny P md ops Q n l a w:=by
 induction n with
 | zero=>exact fun l a w h=>h
 | succ n ih=>exact fun l a w h=>⟨(wpAnyL_succ.1 h).1,fun j hj=>wpOp_mono (fun a' w' h'=>ih _ a' w' h'.2) ((wpAnyL_succ.1 h).2 j hj)⟩
theorem getD_set_up {l:Array Bool} {j:Nat} (h:l.getD k true=true):(l.setIfInBounds j true).getD k true=true:=by
 rcases Nat.decEq j k with e | rfl
 · rw [getD_set_ne true e];exact h
 · simp [Array.getElem?_setIfInBounds];split<;>simp
theorem wpAnyL_free (n:Nat):∀ (l:Array Bool) (a:Act) (w:World),l.getD k true=true→wpAnyH P md ops Q (fun _=>True) n l a w→wpAnyL P md ops Q k S n l a w:=by
 induction n with
 | zero=>exact fun l a w _ h=>h
 | succ n ih =>
   intro l a w hl h
   refine wpAnyL_succ.2 ⟨h.1,fun j hj=>wpOp_mono (fun a' w' h'=>⟨fun e=>?_,ih _ a' w' (getD_set_up hl) h'.2⟩) (h.2 j hj)⟩
   rw [getD_set_up hl] at e
   cases e
def waitsFor (md:Region.Mode) (ops:Array Oper) (k i:Nat):Bool:=match ops[k]? with | some o=>o.after.any (fun e=>Region.binds md e&&e.on == i) | none=>false
theorem ready_free {l:Array Bool} {i j:Nat} {o:Oper} (hi:i∈Region.ready md ops l) (hj:j∈Region.ready md ops l) (ho:ops[j]? = some o):∀ e∈o.after,Region.binds md e=true→e.on≠i:=by
 obtain ⟨hi0,_⟩:=mem_ready.1 hi
 obtain ⟨_,o',ho',hall⟩:=mem_ready.1 hj
 obtain rfl:o=o':=by rw [ho] at ho';injection ho'
 intro e he hb heq
 have hl:=hall e he hb
 rw [heq] at hl
 cases hg:l[i]? with
 | none=>simp [hg] at hl
 | some b=>simp [hg] at hi0 hl;rw [hi0] at hl;cases hl
theorem not_waits {l:Array Bool} {i:Nat} (hi:i∈Region.ready md ops l) (hk:waitsFor md ops k i=true):¬ k∈Region.ready md ops l:=fun hj=>by
 unfold waitsFor at hk
 split at hk
 · rename_i o ho
   obtain ⟨e,he,h2⟩:=Array.any_eq_true'.1 hk
   rw [Bool.and_eq_true,beq_iff_eq] at h2
   exact ready_free hi hj ho e he h2.1 h2.2
 · cases hk
theorem wpAnyL_take {i:Nat} {oi:Oper} {v:Value} {fuel:Nat} {listed:Array Bool} {a:Act} {w:World} (hi:ops[i]? = some oi)
    (hs:Region.noSelect ops=true) (hf:Region.free md ops listed i=true) (hr:(Region.ready md ops listed).contains i=true)
    (hk:(listed.getD k true == false&&waitsFor md ops k i&&i != k)=true)
    (hQ:∀ c a w,Q (.panic c) (a.put oi.dst v) w→Q (.panic c) a w) (hy:YieldsIf P ops S oi v a) (hS:S w)
    (h:wpAnyL P md ops Q k S fuel (listed.setIfInBounds i true) (a.put oi.dst v) w):wpAnyL P md ops Q k S (fuel+1) listed a w:=by
  simp only [Bool.and_eq_true,beq_iff_eq,bne_iff_ne,ne_eq] at hk
  obtain ⟨⟨hku,hkw⟩,hik⟩:=hk
  have hap:=Region.free_spec hi hf
  have hr':i∈Region.ready md ops listed:=by simpa using hr
  have hno:=Region.noSelect_spec hs
  clear hf hr
  induction fuel generalizing listed a w with
  | zero =>
    refine wpAnyL_succ.2 ⟨fun e=>absurd hr' (by rw [e];exact List.not_mem_nil),fun j hj=>?_⟩
    rcases Nat.decEq j i with e | rfl
    · exact absurd (ready_mono hj e) (by rw [(wpAnyL_zero.1 h).1];exact List.not_mem_nil)
    · exact hy.wpOp hi hS ⟨fun _=>hS,h⟩
  | succ n ih =>
    refine wpAnyL_succ.2 ⟨fun e=>absurd hr' (by rw [e];exact List.not_mem_nil),fun j hj=>?_⟩
    rcases Nat.decEq j i with e | rfl
    case isTrue=>exact hy.wpOp hi hS ⟨fun _=>hS,h⟩
    have hjk:j≠k:=by rintro rfl;exact not_waits hr' hkw hj
    obtain ⟨hun,oj,hoj,_⟩:=mem_ready.1 hj
    have other:=wpOp_putIf hoj (hap j oj hoj e hun (ready_free hr' hj hoj)) (fun cs b=>hno i oi cs b hi) (fun cs b=>hno j oj cs b hoj) hQ hy ((wpAnyL_succ.1 h).2 j (ready_mono hj e))
    have hku':(listed.setIfInBounds j true).getD k true=false:=(getD_set_ne true hjk).trans hku
    refine wpOp_mono (fun a' w' ⟨hy',hS',hT⟩=>?_) other
    have hSw:S w':=hS' (by rw [getD_set_ne true hjk,getD_set_ne true hik];exact hku)
    rw [Array.setIfInBounds_comm _ _ (Ne.symm e)] at hT
    refine ⟨fun _=>hSw,ih hy' hSw hT hku' (fun m om hm hmi hmu hme=>hap m om hm hmi ?_ hme) (ready_mono hr' (Ne.symm e))⟩
    rcases Nat.decEq j m with e2 | rfl
    · rwa [getD_set_ne true e2] at hmu
    · exact hun
def AllReadyL (P:Program) (md:Region.Mode) (ops:Array Oper) (Q:Exit→Act→World→Prop) (k:Nat) (S:World→Prop) (fuel:Nat) (listed:Array Bool) (a:Act) (w:World) (rs:List Nat):Prop:=
  ∀ j,j∈rs→wpOp P ops Q j (Till k S (wpAnyL P md ops Q k S fuel) (listed.setIfInBounds j true)) a w
theorem AllReadyL.nil {fuel:Nat} {listed:Array Bool} {a:Act} {w:World}:AllReadyL P md ops Q k S fuel listed a w []:=fun _ h=>absurd h List.not_mem_nil
theorem AllReadyL.cons {fuel:Nat} {listed:Array Bool} {a:Act} {w:World} {i:Nat} {o:Oper} {rs:List Nat} (ho:ops[i]? = some o)
    (h:∀ K:Act→World→Prop,Shut (∀ a w,S w→(S w→wpAnyL P md ops Q k S fuel (listed.setIfInBounds i true) a w)→K a w)→if Region.wanted o (yielded ops a.tmps)=true then Oper.wp P o a w K Q else K (a.put o.dst undef) w)
    (hs:AllReadyL P md ops Q k S fuel listed a w rs):AllReadyL P md ops Q k S fuel listed a w (i :: rs):=
  List.forall_mem_cons.2 ⟨wpOp_step ho fun K hK=>h K fun a w h1 h2=>hK a w ⟨fun _=>h1,h2 h1⟩,hs⟩
theorem AllReadyL.consK {fuel:Nat} {listed:Array Bool} {a:Act} {w:World} {o:Oper} {rs:List Nat} (ho:ops[k]? = some o) (hl:(listed.setIfInBounds k true).getD k true=true)
    (h:∀ K:Act→World→Prop,Shut (∀ a w,wpAnyH P md ops Q (fun _=>True) fuel (listed.setIfInBounds k true) a w→K a w)→if Region.wanted o (yielded ops a.tmps)=true then Oper.wp P o a w K Q else K (a.put o.dst undef) w)
    (hs:AllReadyL P md ops Q k S fuel listed a w rs):AllReadyL P md ops Q k S fuel listed a w (k :: rs):=
  List.forall_mem_cons.2 ⟨wpOp_step ho fun K hK=>h K fun a w h2=>hK a w ⟨(fun e=>by rw [hl] at e;cases e),wpAnyL_free fuel _ a w hl h2⟩,hs⟩
theorem wpAnyL_ready {rs:List Nat} {fuel:Nat} {listed:Array Bool} {a:Act} {w:World} (hr:Region.ready md ops listed=rs) (hne:rs≠[])
    (h:AllReadyL P md ops Q k S fuel listed a w rs):wpAnyL P md ops Q k S (fuel+1) listed a w:=
  wpAnyL_succ.2 ⟨fun e=>absurd (hr.symm.trans e) hne,fun j hj=>h j (by rwa [hr] at hj)⟩
theorem wp_region_heldL (k:Nat) (S:World→Prop) {id:Nat} {a:Act} {w:World} (hm:P.follows .mixedOrders=true) (hS:S w.drew)
    (h:S w.drew→wpAnyL P .any ops Q k S ops.size (Array.replicate ops.size false) a w.drew):(Code.region id ops true).wp P Q a w:=
  wp_region_any hm (wpAnyL_plain _ _ _ _ (h hS))
end
section
variable {P:Program} {ops:Array Oper} {Q:Exit→Act→World→Prop} {md:Region.Mode} {k:Nat} {S:World→Prop}
theorem takeL (i:Nat) {oi:Oper} (v:Value) {fuel:Nat} {listed:Array Bool} {a a':Act} {w:World} (hy:∀ w,S w→(execOp a.eval oi).run P w=.ok (.value v) w) (h:wpAnyL P md ops Q k S fuel (listed.setIfInBounds i true) a' w) (hi:ops[i]? = some oi:=by (simp only [List.getElem?_toArray,List.getElem?_cons_zero,List.getElem?_cons_succ];rfl))
    (hs:Region.noSelect ops=true:=by kernel_rfl) (hf:Region.free md ops listed i=true:=by kernel_rfl) (hr:(Region.ready md ops listed).contains i=true:=by kernel_rfl) (hk:(listed.getD k true == false&&waitsFor md ops k i&&i != k)=true:=by kernel_rfl)
    (hw:Region.wanted oi (yielded ops a.tmps)=true:=by rfl) (hQ:∀ c a w,Q (.panic c) (a.put oi.dst v) w→Q (.panic c) a w:=by exact fun _ _ _ h=>h) (hS:S w:=by first | assumption | trivial) (ha:a.put oi.dst v=a':=by (simp only [Act.put,sA,sB,sC];try rfl)):wpAnyL P md ops Q k S (fuel+1) listed a w:=
  wpAnyL_take hi hs hf hr hk hQ (.inl ⟨hw,hy⟩) hS (ha ▸ h)
theorem takL (i:Nat) {oi:Oper} {v:Value} {fuel:Nat} {listed:Array Bool} {a a':Act} {w:World} (h:wpAnyL P md ops Q k S fuel (listed.setIfInBounds i true) a' w) (hi:ops[i]? = some oi:=by (simp only [List.getElem?_toArray,List.getElem?_cons_zero,List.getElem?_cons_succ];rfl)) (hy:∀ w,S w→(execOp a.eval oi).run P w=.ok (.value v) w:=by (intro w hSw;go_simp;try with_reducible rfl))
    (hs:Region.noSelect ops=true:=by kernel_rfl) (hf:Region.free md ops listed i=true:=by kernel_rfl) (hr:(Region.ready md ops listed).contains i=true:=by kernel_rfl) (hk:(listed.getD k true == false&&waitsFor md ops k i&&i != k)=true:=by kernel_rfl)
    (hw:Region.wanted oi (yielded ops a.tmps)=true:=by rfl) (hQ:∀ c a w,Q (.panic c) (a.put oi.dst v) w→Q (.panic c) a w:=by exact fun _ _ _ h=>h) (hS:S w:=by first | assumption | trivial) (ha:a.put oi.dst v=a':=by (simp only [Act.put,sA,sB,sC];try rfl)):wpAnyL P md ops Q k S (fuel+1) listed a w:=
  wpAnyL_take hi hs hf hr hk hQ (.inl ⟨hw,hy⟩) hS (ha ▸ h)
theorem tadL (i:Nat) {oi:Oper} {v:Value} {fuel:Nat} {listed:Array Bool} {a a':Act} {w:World} (h:wpAnyL P md ops Q k S fuel (listed.setIfInBounds i true) a' w) (hi:ops[i]? = some oi:=by (simp only [List.getElem?_toArray,List.getElem?_cons_zero,List.getElem?_cons_succ];rfl)) (hy:∀ w,S w→(execOp a.eval oi).run P w=.ok (.value v) w:=by (intro w hSw;(try dsimp only at hSw);go_simp;try with_reducible rfl))
    (hs:Region.noSelect ops=true:=by kernel_rfl) (hf:Region.free md ops listed i=true:=by kernel_rfl) (hr:(Region.ready md ops listed).contains i=true:=by kernel_rfl) (hk:(listed.getD k true == false&&waitsFor md ops k i&&i != k)=true:=by kernel_rfl)
    (hw:Region.wanted oi (yielded ops a.tmps)=true:=by rfl) (hQ:∀ c a w,Q (.panic c) (a.put oi.dst v) w→Q (.panic c) a w:=by exact fun _ _ _ h=>h) (hS:S w:=by first | assumption | trivial) (ha:a.put oi.dst v=a':=by (simp only [Act.put,sA,sB,sC];try rfl)):wpAnyL P md ops Q k S (fuel+1) listed a w:=
  wpAnyL_take hi hs hf hr hk hQ (.inl ⟨hw,hy⟩) hS (ha ▸ h)
theorem oneL (i:Nat) {fuel:Nat} {listed:Array Bool} {a:Act} {w:World} {o:Oper}
    (h:∀ K:Act→World→Prop,Shut (∀ a w,S w→(S w→wpAnyL P md ops Q k S fuel (listed.setIfInBounds i true) a w)→K a w)→if Region.wanted o (yielded ops a.tmps)=true then Oper.wp P o a w K Q else K (a.put o.dst undef) w)
    (hr:Region.ready md ops listed=[i]:=by kernel_rfl) (ho:ops[i]? = some o:=by (simp only [List.getElem?_toArray,List.getElem?_cons_zero,List.getElem?_cons_succ];rfl)):wpAnyL P md ops Q k S (fuel+1) listed a w:=wpAnyL_ready hr (by simp) (AllReadyL.cons ho h AllReadyL.nil)
theorem oneK {fuel:Nat} {listed:Array Bool} {a:Act} {w:World} {o:Oper}
    (h:∀ K:Act→World→Prop,Shut (∀ a w,wpAnyH P md ops Q (fun _=>True) fuel (listed.setIfInBounds k true) a w→K a w)→if Region.wanted o (yielded ops a.tmps)=true then Oper.wp P o a w K Q else K (a.put o.dst undef) w)
    (hr:Region.ready md ops listed=[k]:=by kernel_rfl) (ho:ops[k]? = some o:=by (simp only [List.getElem?_toArray,List.getElem?_cons_zero,List.getElem?_cons_succ];rfl)) (hl:(listed.setIfInBounds k true).getD k true=true:=by kernel_rfl):wpAnyL P md ops Q k S (fuel+1) listed a w:=wpAnyL_ready hr (by simp) (AllReadyL.consK ho hl h AllReadyL.nil)
theorem consL {fuel:Nat} {listed:Array Bool} {a:Act} {w:World} {i:Nat} {o:Oper} {rs:List Nat}
    (h:∀ K:Act→World→Prop,Shut (∀ a w,S w→(S w→wpAnyL P md ops Q k S fuel (listed.setIfInBounds i true) a w)→K a w)→if Region.wanted o (yielded ops a.tmps)=true then Oper.wp P o a w K Q else K (a.put o.dst undef) w)
    (hs:AllReadyL P md ops Q k S fuel listed a w rs) (ho:ops[i]? = some o:=by (simp only [List.getElem?_toArray,List.getElem?_cons_zero,List.getElem?_cons_succ];rfl)):AllReadyL P md ops Q k S fuel listed a w (i :: rs):=AllReadyL.cons ho h hs
theorem consK {fuel:Nat} {listed:Array Bool} {a:Act} {w:World} {o:Oper} {rs:List Nat}
    (h:∀ K:Act→World→Prop,Shut (∀ a w,wpAnyH P md ops Q (fun _=>True) fuel (listed.setIfInBounds k true) a w→K a w)→if Region.wanted o (yielded ops a.tmps)=true then Oper.wp P o a w K Q else K (a.put o.dst undef) w)
    (hs:AllReadyL P md ops Q k S fuel listed a w rs) (ho:ops[k]? = some o:=by (simp only [List.getElem?_toArray,List.getElem?_cons_zero,List.getElem?_cons_succ];rfl)) (hl:(listed.setIfInBounds k true).getD k true=true:=by kernel_rfl):AllReadyL P md ops Q k S fuel listed a w (k :: rs):=AllReadyL.consK ho hl h hs
end
end
section
open Go.RowKit
theorem run_appG {P:Program} {w:World} (base:Nat) (t ty e:TypeId) (z:Value) (size bytes:Nat) (ht:P.underlying t=some (.slice e)) (hinfo:(P.info? e).map (fun i=>(i.zero,i.size,i.bytes))=some (some z,size,bytes))
    (hzs:z.cells.size=size) (hsz:0<size) (A:Option Addr) (n c:Nat) (xs:List Value) (h:w.ownsRow base e size (.slice A n c) n xs)
    (A2:Option Addr) (m c2:Nat) (news:List Value) (hl:news.length=m*size) (hnews:∀ j u,news[j]? = some u→∃ a,A2=some a∧w.cell? (a.add j)=some u) (h1:∀ u∈news,u.oneCell'=true)
    (hnil:A2=none→m=0∧c2=0) (hmax:n+m≤maxLen) (hb:(n+m)*bytes≤140737488355328) (hbase:base≤w.heap.size) :
    ∃ A' c' w',(Builtin.append_ #[t,t] ty #[.slice A n c,.slice A2 m c2]).run P w=.ok (.slice A' (n+m) c') w'∧w'.ownsRow base e size (.slice A' (n+m) c') (n+m) (xs++news) ∧
      w.grownBy w' (Value.slice A n c).ownBlock∧((Value.slice A' (n+m) c').ownBlock=(Value.slice A n c).ownBlock∨(Value.slice A' (n+m) c').ownBlock=some w.heap.size):=by
  obtain ⟨i,hi,hz,hs,hy⟩:=info_parts hinfo
  cases A2 with
  | none =>
    obtain ⟨rfl,rfl⟩:=hnil rfl
    have e2:news=[]:=List.eq_nil_of_length_eq_zero (by omega)
    subst e2
    exact ⟨A,c,w,run_append_owned_none (P:=P) (w:=w) base _ ty e i size ht hi _ n xs h,by simpa using h,World.grownBy.refl _ _,.inl rfl⟩
  | some ad =>
    obtain ⟨v',w',hr,ho,hg,hn,hat⟩:=run_append_own_at (P:=P) (w:=w) base t ty e i z size bytes ht hi hz hs hy hzs hsz (.slice A n c) n xs h ad m c2 news hl
      (fun j u hu=>by obtain ⟨a',e,hc⟩:=hnews j u hu;injection e with e;subst e;exact hc) h1 hmax hb hbase
    rcases ho.2 with ⟨e,h0⟩ | ⟨g,cap,cur,e,_⟩
    · have h00:Value.slice none 0 0=.slice none (n+m) 0:=by rw [h0]
      rw [h00] at e
      subst e
      exact ⟨none,0,w',hr,ho,hg,hat⟩
    · subst e
      exact ⟨_,cap,w',hr,ho,hg,hat⟩
theorem wanted_plain {ops:Array Oper} {o:Oper} {a:Act} (hgd:o.guard=none):Region.wanted o (yielded ops a.tmps)=true:=by simp [Region.wanted,hgd]
theorem below_grown {B:Nat} {w w':World} {row:Option Nat} (hg:w.grownBy w' row) (hB:B≤w.heap.size) (hr:∀ k,row=some k→B≤k):Below B w w':=(Below.refl _ _).grown hg hB hr
end
section
open Go.RowKit Dkm
theorem Files.grown {w w':World} {A:Option Addr} {n:Nat} {l:List Fil} {row:Option Nat} (h:Files w A n l) (hg:w.grownBy w' row) (hne:∀ ad,A=some ad→some ad.block≠row):Files w' A n l:=by
 refine ⟨h.1,fun j u hu=>?_⟩
 obtain ⟨a,e,hb,hc⟩:=h.2 j u hu
 have hblk:(a.add j).block=a.block:=by unfold Addr.add;split<;>rfl
 exact ⟨a,e,Nat.lt_of_lt_of_le hb hg.size,hg.cell hc (by rw [hblk];exact hne a e)⟩
section
variable {w wr:World} {A:Option Addr} {n c:Nat} {room fuse:Int} {off:Bool}
theorem Sb.setRoom (h:Sb w A n c room fuse off wr) (x:Int):Sb w A n c x fuse off (wr.setCell ⟨w.heap.size,1,none⟩ (.int .i64 x)):=
  ⟨h.box.set (k:=1) (by simp) _,h.res.far (p:=⟨w.heap.size,1,none⟩) (by simp) _,h.q.setCell (p:=⟨w.heap.size,1,none⟩) (Nat.le_refl _) _⟩
theorem Sb.setFuse (h:Sb w A n c room fuse off wr) (x:Int):Sb w A n c room x off (wr.setCell ⟨w.heap.size,2,none⟩ (.int .i64 x)):=
  ⟨h.box.set (k:=2) (by simp) _,h.res.far (p:=⟨w.heap.size,2,none⟩) (by simp) _,h.q.setCell (p:=⟨w.heap.size,2,none⟩) (Nat.le_refl _) _⟩
theorem Sb.setOff (h:Sb w A n c room fuse off wr) (x:Bool):Sb w A n c room fuse x (wr.setCell ⟨w.heap.size,3,none⟩ (.bool x)):=
  ⟨h.box.set (k:=3) (by simp) _,h.res.far (p:=⟨w.heap.size,3,none⟩) (by simp) _,h.q.setCell (p:=⟨w.heap.size,3,none⟩) (Nat.le_refl _) _⟩
structure Sd (w:World) (A:Option Addr) (n c:Nat) (room fuse:Int) (off:Bool) (L:List Fil) (wr:World):Prop where
  sb:Sb w A n c room fuse off wr
  own:Own wr (w.heap.size+2) A n c L
variable {L:List Fil}
theorem Sd.setRoom (h:Sd w A n c room fuse off L wr) (x:Int):Sd w A n c x fuse off L (wr.setCell ⟨w.heap.size,1,none⟩ (.int .i64 x)):=⟨h.sb.setRoom x,h.own.setCell (p:=⟨w.heap.size,1,none⟩) (by simp) _⟩
theorem Sd.setFuse (h:Sd w A n c room fuse off L wr) (x:Int):Sd w A n c room x off L (wr.setCell ⟨w.heap.size,2,none⟩ (.int .i64 x)):=⟨h.sb.setFuse x,h.own.setCell (p:=⟨w.heap.size,2,none⟩) (by simp) _⟩
theorem Sd.setOff (h:Sd w A n c room fuse off L wr) (x:Bool):Sd w A n c room fuse x L (wr.setCell ⟨w.heap.size,3,none⟩ (.bool x)):=⟨h.sb.setOff x,h.own.setCell (p:=⟨w.heap.size,3,none⟩) (by simp) _⟩
theorem Sd.new {w5:World} {A0:Option Addr} {n0 c0:Nat} (h:Sb w A0 n0 c0 room fuse off wr) (q:Q wr w5) (ho:Own w5 wr.heap.size A n c L) :
    Sd w A n c room fuse off L ((((w5.setCell ⟨w.heap.size,0,none⟩ (.slice A n c)).setCell ⟨w.heap.size,1,none⟩ (.int .i64 room)).setCell ⟨w.heap.size,2,none⟩ (.int .i64 fuse)).setCell ⟨w.heap.size,3,none⟩ (.bool off)):=
  ⟨(h.step q).put4 A n c room fuse off,(ho.lower (by have:=h.res.lt;omega)).set4 (b:=w.heap.size) (by omega) _ _ _ _⟩
theorem Sd.endK (h:Sd w A n c room fuse off L wr) (hn:n*48≤140737488355328) {A0:Option Addr} {n0:Nat} (er:Int) (x y z u:Value):RetDK w A0 n0 ⟨L,room,fuse,off⟩ er (.returned (.tuple #[dkv A n c room fuse off,.int .i64 er])) ((((wr.setCell ⟨w.heap.size+1,0,none⟩ x).setCell ⟨w.heap.size+1,1,none⟩ y).setCell ⟨w.heap.size+1,2,none⟩ z).setCell ⟨w.heap.size+1,3,none⟩ u):=
  ⟨A,n,c,rfl,(h.own.set4 (b:=w.heap.size+1) (by omega) _ _ _ _).dsk hn,.inr (fun ad e=>by
    rcases h.own.2 with ⟨e',_⟩ | ⟨g,cap,cur,e',hb,_⟩
    · simp only [Value.slice.injEq] at e';rw [e'.1] at e;cases e
    · simp only [Value.slice.injEq] at e';rw [e'.1] at e;injection e with e;subst e;simp only;omega),h.sb.q.set4 (b:=w.heap.size+1) (by omega) _ _ _ _⟩
end
end
section
open Go.RowKit Dkm
end
section
open Go.RowKit Dkm
end
section
open Go.RowKit Dkm Wm
namespace Rn
def freshB (nm:ByteArray):ByteArray:=⟨#[110,46]⟩++nm
def lay1 (d:Dk) (nm:ByteArray):Dk×Int:=if (hit (freshB nm) d.fs).2 then del d (freshB nm) else (d,0)
def lay2 (d:Dk) (nm s:ByteArray):Dk×Int:=if (lay1 d nm).2=0 then appd (lay1 d nm).1 (freshB nm) s else lay1 d nm
def lay3 (d:Dk) (nm s:ByteArray):Dk×Int:=if (lay2 d nm s).2=0 then syn (lay2 d nm s).1 (freshB nm) else lay2 d nm s
def lay (d:Dk) (nm s:ByteArray):Dk×Int:=if (lay3 d nm s).2=0 then ren (lay3 d nm s).1 (freshB nm) nm else lay3 d nm s
end Rn
theorem Wm.Bnd.lay1 {B:Nat} {d:Dk} (h:Bnd B d) (nm:ByteArray):Bnd B (Rn.lay1 d nm).1:=by unfold Rn.lay1;split;exact h.del _;exact h
theorem Wm.Bnd.lay2 {B:Nat} {d:Dk} (h:Bnd B d) (hB:65536≤B) (nm s:ByteArray):Bnd B (Rn.lay2 d nm s).1:=by unfold Rn.lay2;split;exact (h.lay1 nm).appd hB _ _;exact h.lay1 nm
theorem Wm.Bnd.lay3 {B:Nat} {d:Dk} (h:Bnd B d) (hB:65536≤B) (nm s:ByteArray):Bnd B (Rn.lay3 d nm s).1:=by unfold Rn.lay3;split;exact (h.lay2 hB nm s).syn _;exact h.lay2 hB nm s
theorem Wm.Bnd.lay {B:Nat} {d:Dk} (h:Bnd B d) (hB:65536≤B) (nm s:ByteArray):Bnd B (Rn.lay d nm s).1:=by unfold Rn.lay;split;exact (h.lay3 hB nm s).ren _ _;exact h.lay3 hB nm s
theorem RetDE.k {w w':World} {d:Dk} {er:Int} {e:Ending} {A0:Option Addr} {n0 B:Nat} (h:RetDE w d er e w') (hB:Bnd B d):RetDK w A0 n0 d er e w':=by
 obtain ⟨A,n,c,rfl,ho,q⟩:=h
 exact ⟨A,n,c,rfl,ho.dsk (few_own ho hB),.inr ho.far_,q⟩
def Ls (w:World) (A0:Option Addr) (n0:Nat) (x:Dk×Int) (s9:Value) (wx:World):Prop:=∃ A n c,s9=.int .i64 x.2∧Sv w A n c x.1 wx∧(A=A0∧n=n0∨Far w A)
set_option maxHeartbeats 8000000 in
theorem lay_any (nm s:ByteArray) (A:Option Addr) (n c:Nat) (d:Dk) (w:World) (hd:Dsk w A n c d.fs) (hB:Bnd 2305843009213693952 d) (hs:s.size≤2305843009213693952) (hn:nm.size≤140737488351232) :
    Calls Tryz.prog 104 #[dkv A n c d.room d.fuse d.off,.string nm,.string s] w fun e w'=>RetDK w A n (Rn.lay d nm s).1 (Rn.lay d nm s).2 e w':=by
  have HN:=Lib.hid hd.max
  have B1:=hB.lay1 nm
  have B2:=hB.lay2 (by omega) nm s
  have B3:=hB.lay3 (by omega) nm s
  have BD:=hB.del (Rn.freshB nm)
  have mx:∀ {d:Dk},Bnd 2305843009213693952 d→∀ f∈d.fs,f.sf.size+f.wt.size≤maxLen:=fun h f hf=>Nat.le_trans (h.sum f hf) (by unfold maxLen;omega)
  have C1:=Lib.hid (show Rn.lay1 d nm=if (hit (Rn.freshB nm) d.fs).2 then del d (Rn.freshB nm) else (d,0) from rfl)
  have C2:=Lib.hid (show Rn.lay2 d nm s=if (Rn.lay1 d nm).2=0 then appd (Rn.lay1 d nm).1 (Rn.freshB nm) s else Rn.lay1 d nm from rfl)
  have C3:=Lib.hid (show Rn.lay3 d nm s=if (Rn.lay2 d nm s).2=0 then syn (Rn.lay2 d nm s).1 (Rn.freshB nm) else Rn.lay2 d nm s from rfl)
  have C4:=Lib.hid (show Rn.lay d nm s=if (Rn.lay3 d nm s).2=0 then ren (Rn.lay3 d nm s).1 (Rn.freshB nm) nm else Rn.lay3 d nm s from rfl)
  generalize Rn.lay d nm s=x4 at C4 ⊢
  generalize Rn.lay3 d nm s=x3 at C3 C4 B3
  generalize Rn.lay2 d nm s=x2 at C2 C3 B2
  generalize Rn.lay1 d nm=x1 at C1 C2 B1
  have HFr:=Lib.hid (show (⟨#[110,46]⟩:ByteArray)++nm=Rn.freshB nm from rfl)
  have BA:=B1.appd (by omega) (Rn.freshB nm) s
  have BY:=B2.syn (Rn.freshB nm)
  have BR:=B3.ren (Rn.freshB nm) nm
  generalize Rn.freshB nm=fr at *
  have KD:=Lib.hid (fun A n c w hd=>(del_any fr A n c d w hd (mx hB) hB.fuse.2).mono fun _ _ h=>RetDE.k (A0:=A) (n0:=n) h BD)
  have KF:=Lib.hid (fun w hf=>find_any fr A n c d.room d.fuse d.off d.fs w hf HN.out)
  have KA:=Lib.hid (fun A n c w hd=>(append_any fr s A n c x1.1 w hd B1.sum hs B1.room.2 B1.fuse.2).mono fun _ _ h=>RetDE.k (A0:=A) (n0:=n) h BA)
  have KY:=Lib.hid (fun A n c w hd=>(sync_any fr A n c x2.1 w hd (mx B2)).mono fun _ _ h=>RetDE.k (A0:=A) (n0:=n) h BY)
  have KRN:=Lib.hid (fun A n c w hd=>(ren_any fr nm A n c x3.1 w hd (mx B3) B3.fuse.2).mono fun _ _ h=>RetDE.k (A0:=A) (n0:=n) h BR)
  have HD:=Lib.hid hd
  have hz:(⟨#[110,46]⟩:ByteArray).size=2:=rfl
  have HZ:=Lib.hid hz
  clear hd hB hs B1 B2 B3 BD BA BY BR hz
  generalize hit fr d.fs=bb at KF C1
  obtain ⟨bf,b⟩:=bb
  generalize del d fr=xd at KD C1
  have hn2:(⟨#[110,46]⟩:ByteArray).size+nm.size≤140737488351234:=by rw [HZ.out];omega
  go_enter Tryz.func104,Tryz.ntmps104
  go_wp2_with fail
  rw [HFr.out]
  refine (KF.out _ (HD.out.files.q (((Q.refl _).alloc _).alloc _))).mono ?_
  rintro e w1 ⟨rfl,q1⟩
  have V:=Lib.hid (((Sv.new w HD.out).step q1).step ((Q.refl w1).alloc (.cells #[.string bf.nm,.string bf.sf,.string bf.wt] 76)))
  clear q1
  go_upto_if 20 with (fail)
  go_cut [9] (fun s9 wx=>Ls w A n x1 s9 wx)
  case first =>
   cases b
   · go_wp2_with fail
     go_meet
     exact ⟨A,n,c,by rw [C1.out];rfl,by rw [C1.out];exact V.out,.inl ⟨rfl,rfl⟩⟩
   · obtain ⟨⟨e0,e1,e2,e3⟩,f0,f1,f2',f3⟩:=V.out.sb.get
     go_wp2_with fail
     refine (KD.out A n c _ V.out.dsk).mono ?_
     rintro e w2 ⟨A2,n2,c2,rfl,ho,hf,q2⟩
     have P:=Lib.hid (V.out.putK q2 ho hf)
     have PF:=Lib.hid (V.out.farK (.inl ⟨rfl,rfl⟩) hf)
     clear e0 e1 e2 e3 f0 f1 f2' f3
     obtain ⟨⟨e0,e1,e2,e3⟩,f0,f1,f2',f3⟩:=(V.out.sb.step q2).get
     clear ho q2 hf
     go_wp2_with fail
     go_meet
     exact ⟨A2,n2,c2,by rw [C1.out];rfl,by rw [C1.out];exact P.out,PF.out⟩
  case rest =>
   clear V
   obtain ⟨A1,n1,c1,rfl,v1,r1⟩:=hcut
   have V:=Lib.hid v1
   have R:=Lib.hid r1
   clear v1 r1
   go_upto_if 28 with (fail)
   go_cut [9] (fun s9 wx=>Ls w A n x2 s9 wx)
   case first =>
    by_cases g:x1.2=0
    · have CC:=C2.out
      rw [if_pos g] at CC
      have HC:=Lib.hid CC
      clear CC
      obtain ⟨⟨e0,e1,e2,e3⟩,f0,f1,f2',f3⟩:=V.out.sb.get
      have g':(x1.2 == 0)=true:=by simpa using g
      clear g
      go_wp2_with fail
      refine (KA.out _ _ _ _ V.out.dsk).mono ?_
      rintro e w2 ⟨A2,n2,c2,rfl,ho,hf,q2⟩
      rw [←HC.out] at ho
      have P:=Lib.hid (V.out.putK q2 ho hf)
      have PF:=Lib.hid (V.out.farK R.out hf)
      clear e0 e1 e2 e3 f0 f1 f2' f3
      obtain ⟨⟨e0,e1,e2,e3⟩,f0,f1,f2',f3⟩:=(V.out.sb.step q2).get
      clear ho q2 hf
      go_wp2_with fail
      go_meet
      rw [←HC.out]
      exact ⟨A2,n2,c2,rfl,P.out,PF.out⟩
    · have CC:=C2.out
      rw [if_neg g] at CC
      have HC:=Lib.hid CC
      clear CC
      have g':(x1.2 == 0)=false:=by simpa using g
      clear g
      go_wp2_with fail
      go_meet
      rw [HC.out]
      exact ⟨_,_,_,rfl,V.out,R.out⟩
   case rest =>
    clear V R
    obtain ⟨A1,n1,c1,rfl,v1,r1⟩:=hcut
    have V:=Lib.hid v1
    have R:=Lib.hid r1
    clear v1 r1
    go_upto_if 37 with (fail)
    go_cut [9] (fun s9 wx=>Ls w A n x3 s9 wx)
    case first =>
     by_cases g:x2.2=0
     · have CC:=C3.out
       rw [if_pos g] at CC
       have HC:=Lib.hid CC
       clear CC
       obtain ⟨⟨e0,e1,e2,e3⟩,f0,f1,f2',f3⟩:=V.out.sb.get
       have g':(x2.2 == 0)=true:=by simpa using g
       clear g
       go_wp2_with fail
       refine (KY.out _ _ _ _ V.out.dsk).mono ?_
       rintro e w2 ⟨A2,n2,c2,rfl,ho,hf,q2⟩
       rw [←HC.out] at ho
       have P:=Lib.hid (V.out.putK q2 ho hf)
       have PF:=Lib.hid (V.out.farK R.out hf)
       clear e0 e1 e2 e3 f0 f1 f2' f3
       obtain ⟨⟨e0,e1,e2,e3⟩,f0,f1,f2',f3⟩:=(V.out.sb.step q2).get
       clear ho q2 hf
       go_wp2_with fail
       go_meet
       rw [←HC.out]
       exact ⟨A2,n2,c2,rfl,P.out,PF.out⟩
     · have CC:=C3.out
       rw [if_neg g] at CC
       have HC:=Lib.hid CC
       clear CC
       have g':(x2.2 == 0)=false:=by simpa using g
       clear g
       go_wp2_with fail
       go_meet
       rw [HC.out]
       exact ⟨_,_,_,rfl,V.out,R.out⟩
    case rest =>
     clear V R
     obtain ⟨A1,n1,c1,rfl,v1,r1⟩:=hcut
     have V:=Lib.hid v1
     have R:=Lib.hid r1
     clear v1 r1
     go_upto_if 45 with (fail)
     go_cut [9] (fun s9 wx=>Ls w A n x4 s9 wx)
     case first =>
      by_cases g:x3.2=0
      · have CC:=C4.out
        rw [if_pos g] at CC
        have HC:=Lib.hid CC
        clear CC
        obtain ⟨⟨e0,e1,e2,e3⟩,f0,f1,f2',f3⟩:=V.out.sb.get
        have g':(x3.2 == 0)=true:=by simpa using g
        clear g
        go_wp2_with fail
        refine (KRN.out _ _ _ _ V.out.dsk).mono ?_
        rintro e w2 ⟨A2,n2,c2,rfl,ho,hf,q2⟩
        rw [←HC.out] at ho
        have P:=Lib.hid (V.out.putK q2 ho hf)
        have PF:=Lib.hid (V.out.farK R.out hf)
        clear e0 e1 e2 e3 f0 f1 f2' f3
        obtain ⟨⟨e0,e1,e2,e3⟩,f0,f1,f2',f3⟩:=(V.out.sb.step q2).get
        clear ho q2 hf
        go_wp2_with fail
        go_meet
        rw [←HC.out]
        exact ⟨A2,n2,c2,rfl,P.out,PF.out⟩
      · have CC:=C4.out
        rw [if_neg g] at CC
        have HC:=Lib.hid CC
        clear CC
        have g':(x3.2 == 0)=false:=by simpa using g
        clear g
        go_wp2_with fail
        go_meet
        rw [HC.out]
        exact ⟨_,_,_,rfl,V.out,R.out⟩
     case rest =>
      clear V R
      obtain ⟨A1,n1,c1,rfl,v1,r1⟩:=hcut
      have V:=Lib.hid v1
      have R:=Lib.hid r1
      clear v1 r1 KD KF KA KY KRN C1 C2 C3 C4
      obtain ⟨⟨e0,e1,e2,e3⟩,f0,f1,f2',f3⟩:=V.out.sb.get
      obtain ⟨⟨s0,s1,s2,s3⟩,h0,h1,h2,h3⟩:=V.out.sb.getR
      go_wp2
      refine bodyPost_ret (v:=.tuple #[dkv A1 n1 c1 x4.1.room x4.1.fuse x4.1.off,.int .i64 x4.2]) (by simp [results,Tryz.results104,go_sem,s0,s1,s2,s3]) rfl ?_
      exact V.out.endK R.out _ _ _ _ _
end
end Go.Proofs.YtajidconlmhjfaaGreatDoor
