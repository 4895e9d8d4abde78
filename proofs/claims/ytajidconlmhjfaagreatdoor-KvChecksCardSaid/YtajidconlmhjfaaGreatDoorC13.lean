/- AppK, BatchRun, KvLastW, KvChkW, KvMan, KvMan2, KvBegin, BatchBack, KvLoad, KvOpen3, WalDrop: merged. -/
import Derived.Test.YtajidconlmhjfaaGreatDoorC5
import Derived.Test.YtajidconlmhjfaaGreatDoorC4
import Derived.Test.YtajidconlmhjfaaGreatDoorC8
import Derived.Test.YtajidconlmhjfaaGreatDoorC12
import Derived.Test.YtajidconlmhjfaaGreatDoorC6
import Derived.Test.YtajidconlmhjfaaGreatDoorC1
import Derived.Lib.MinMax
import Derived.Test.YtajidconlmhjfaaGreatDoorC11
import Derived.Test.YtajidconlmhjfaaGreatDoorC7
import Derived.Test.YtajidconlmhjfaaGreatDoorShelfC
import Derived.Test.YtajidconlmhjfaaGreatDoorC9
set_option linter.unusedVariables false
set_option linter.unusedSimpArgs false
set_option maxRecDepth 100000
namespace Go.Proofs.YtajidconlmhjfaaGreatDoor
section
open Go.RowKit
variable {α:Type}
theorem run_appKG (K:Kind α) (w:World) (base:Nat) (A:Option Addr) (n c:Nat) (l:List α) (h:OwnK K w base A n c l) (A2:Option Addr) (m c2:Nat) (l2:List α) (h2:Lst K w A2 m l2) (hnil:A2=none→m=0∧c2=0)
    (hb:(n+m)*K.bs≤140737488355328) (hbase:base≤w.heap.size) (ty:TypeId) :
    ∃ A' c' w',(Builtin.append_ #[K.S,K.S] ty #[.slice A n c,.slice A2 m c2]).run Tryz.prog w=.ok (.slice A' (n+m) c') w'∧OwnK K w' base A' (n+m) c' (l++l2)∧w.grownBy w' (Value.slice A n c).ownBlock ∧
      ((Value.slice A' (n+m) c').ownBlock=(Value.slice A n c).ownBlock∨(Value.slice A' (n+m) c').ownBlock=some w.heap.size):=by
  have hmax:n+m≤maxLen:=by
   have:(n+m)*1≤(n+m)*K.bs:=Nat.mul_le_mul_left _ K.bpos
   unfold maxLen;omega
  obtain ⟨A',c',w',h1,h3,h4,h5⟩:=run_appG (P:=Tryz.prog) (w:=w) base K.S ty K.T K.z K.k K.bs K.und K.info K.zc K.pos A n c (K.rows l) h A2 m c2 (K.rows l2) h2.1
    (fun j u hu=>by obtain ⟨a,e,_,hc⟩:=h2.2 j u hu;exact ⟨a,e,hc⟩) (K.rows_one l2) hnil hmax hb hbase
  rw [←K.rows_app] at h3
  exact ⟨A',c',w',h1,h3,h4,h5⟩
theorem grown_below {K:Kind α} {w w':World} {base:Nat} {A:Option Addr} {n c:Nat} {l:List α} (h:OwnK K w base A n c l) (hg:w.grownBy w' (Value.slice A n c).ownBlock) (hbase:base≤w.heap.size):Below base w w':=
  below_grown hg hbase fun k hk=>by
   rcases h.parts with ⟨rfl,_⟩ | ⟨g,cur,rfl,hb,_⟩
   · cases hk
   · simp only [Value.ownBlock,Option.some.injEq] at hk;omega
theorem wpl_appKG (K:Kind α) {w:World} {ops:Array Oper} {rest:List Oper} {o:Oper} {a:Act} {R:Exit→Act→World→Prop} (hgd:o.guard=none) (s x:Operand) (t:TypeId) (ht:t=K.S)
    (ho:o.op=.call { callee:=.builtin .append,args:=#[s,x],argTypes:=#[t,t] })
    (base:Nat) (A:Option Addr) (n c:Nat) (l:List α) (hs:a.eval s=.slice A n c) (h:OwnK K w base A n c l) (A2:Option Addr) (m c2:Nat) (l2:List α) (hx:a.eval x=.slice A2 m c2) (h2:Lst K w A2 m l2) (hnil:A2=none→m=0∧c2=0)
    (hb:(n+m)*K.bs≤140737488355328) (hbase:base≤w.heap.size)
    (hk:∀ A' c' w',OwnK K w' base A' (n+m) c' (l++l2)→w.grownBy w' (Value.slice A n c).ownBlock →
      ((Value.slice A' (n+m) c').ownBlock=(Value.slice A n c).ownBlock∨(Value.slice A' (n+m) c').ownBlock=some w.heap.size)→wpList Tryz.prog ops R rest (a.put o.dst (.slice A' (n+m) c')) w'):wpList Tryz.prog ops R (o :: rest) a w:=by
  subst ht
  refine wpList_plain hgd fun X hX=>?_
  obtain ⟨A',c',w',hr,h3,h4,h5⟩:=run_appKG K w base A n c l h A2 m c2 l2 h2 hnil hb hbase o.type
  unfold Oper.wp execOp
  simp only [ho,resolve,invoke,builtin,Sem.run_bind,Sem.run_pure,Result.andThen_ok,List.map_toArray,List.map_cons,List.map_nil,hs,hx,hr]
  exact hX _ _ (hk A' c' w' h3 h4 h5)
def Apt (A B:Option Addr):Prop:=∀ a b,A=some a→B=some b→a.block≠b.block
theorem OwnK.away {K:Kind α} {w w':World} {base:Nat} {A B:Option Addr} {n c m d:Nat} {l:List α} (h:OwnK K w base B m d l) (hg:w.grownBy w' (Value.slice A n c).ownBlock) (hap:Apt A B) (hA:A=none→True):OwnK K w' base B m d l:=by
 refine ⟨h.1,?_⟩
 rcases h.2 with ⟨e,h0⟩ | ⟨g,cap,cur,e,hg2,hh,r⟩
 · exact .inl ⟨e,h0⟩
 · refine .inr ⟨g,cap,cur,e,hg2,(hg.block g (Array.getElem?_eq_some_iff.1 hh).1 ?_).trans hh,r⟩
   intro e2
   injection e with e
   cases A with
   | none=>cases e2
   | some a =>
     simp only [Value.ownBlock,Option.some.injEq] at e2
     exact hap a ⟨g,0,none⟩ rfl e e2.symm
theorem Apt.app {K:Kind α} {w:World} {base:Nat} {A B A':Option Addr} {n c m d n' c':Nat} {l:List α} (h:OwnK K w base B m d l) (hap:Apt A B)
    (ht:(Value.slice A' n' c').ownBlock=(Value.slice A n c).ownBlock∨(Value.slice A' n' c').ownBlock=some w.heap.size):Apt A' B:=by
  intro a b ea eb
  subst ea eb
  have hb:b.block<w.heap.size:=by
   rcases h.parts with ⟨e,_⟩ | ⟨g,cur,e,hb,hh,_⟩
   · cases e
   · injection e with e;subst e;exact (Array.getElem?_eq_some_iff.1 hh).1
  rcases ht with ht | ht
  · cases A with
    | none=>simp [Value.ownBlock] at ht
    | some a0 =>
      simp only [Value.ownBlock,Option.some.injEq] at ht
      rw [ht];exact hap a0 b rfl rfl
  · simp only [Value.ownBlock,Option.some.injEq] at ht
    omega
theorem Apt.symm {A B:Option Addr} (h:Apt A B):Apt B A:=fun a b ea eb e=>h b a eb ea e.symm
end
section
open Go.ChangeShapes Go.WideShapes Go.RowKit Prm
namespace Bm
def st (bl:List Bt) (j:Nat):Sta:=(bl.take j).foldl (fun s b=>(doo s b).1) ⟨[],[]⟩
def short (l:List Pr):Prop:=∀ p∈l,p.key.size≤32
theorem short_put {l:List Pr} {p:Pr} (h:short l) (hp:p.key.size≤32):short (put l p):=fun q hq=>by
 rcases mem_put hq with rfl | hq
 · exact hp
 · exact h q hq
theorem short_act {l:List Pr} {x:Wr} (h:short l) (hx:x.key.size≤32):short (act l x):=by
 unfold act
 split
 · exact fun q hq=>h q (List.mem_filter.1 hq).1
 · exact short_put h hx
theorem short_apply (ws:List Wr):∀ {l:List Pr},short l→(∀ x∈ws,x.key.size≤32)→short (apply l ws):=by
 induction ws with
 | nil=>intro l h _;exact h
 | cons x ws ih=>intro l h hw;exact ih (l:=act l x) (short_act h (hw x (by simp))) fun y hy=>hw y (by simp [hy])
theorem short_doo {s:Sta} (b:Bt) (h:short s.data∧short s.toks):short (doo s b).1.data∧short (doo s b).1.toks:=by
 unfold doo
 split
 · exact h
 · rename_i h1
   have hm:may b=true:=by simpa using h1
   split
   · exact h
   · exact ⟨short_apply _ h.1 fun x hx=>(wrong_not ((may_ok hm).2 x hx)).2.1,short_put h.2 (by have:=(may_tok hm).2;simp only;omega)⟩
theorem short_low {l:List Pr} (h:short l):∀ p∈l,p.key.size≤4611686018427387904:=fun p hp=>by have:=h p hp;omega
end Bm
section
variable {w wi wj:World} {g:Nat} {P R P' R':Option Addr} {pc rc pc' rc':Nat} {s s':Bm.Sta}
end
end
section
open Dkm Prm Wm Du Wl
namespace Km
theorem Bnd.drpK {B:Nat}:∀ (n:Nat) {d:Dk} (s til:Int),Bnd B d→Bnd B (drpF n d s til).1
  | 0,d,s,til,h=>h
  | n + 1,d,s,til,h=>by
    unfold drpF
    split
    · split
      · split
        · exact h.del _
        · exact Bnd.drpK n _ _ (h.del _)
      · exact Bnd.drpK n _ _ h
    · exact h
theorem Bnd.swpK {B:Nat} {d:Dk} (h:Bnd B d) (run frm til:Int):Bnd B (swpM d run frm til).1:=by
 unfold swpM swpB
 have e:Bnd B (if (hit (rnamB run) d.fs).2=true then del d (rnamB run) else (d,(0:Int))).1:=by
  split
  · exact h.del _
  · exact h
 generalize (if (hit (rnamB run) d.fs).2=true then del d (rnamB run) else (d,(0:Int)))=x at e ⊢
 split
 · exact e
 · exact Bnd.drpK _ _ _ e
theorem Bnd.chkK {B:Nat} {x:Ks} (h:Bnd B x.d) (hB:65536≤B):Bnd B (chkM x).1.d:=by
 unfold chkM
 split
 · exact h
 split
 · exact h
 split
 · exact h
 have h1:=Wm.Bnd.lay h hB (rnamB (x.run+1)) ⟨(rbM (Bm.pairs x.s)).1.toArray⟩
 generalize Rn.lay x.d (rnamB (x.run+1)) ⟨(rbM (Bm.pairs x.s)).1.toArray⟩=p at h1 ⊢
 unfold chkA
 split
 · exact h1
 have h2:=Wm.Bnd.lay h1 hB mB (manB (x.seg+1) (x.run+1))
 generalize Rn.lay p.1 mB (manB (x.seg+1) (x.run+1))=q at h2 ⊢
 unfold chkB
 split
 · exact h2
 have h3:=Bnd.swpK h2 x.run x.frm (x.seg+1)
 unfold chkC
 split
 · exact h3
 · exact h3
theorem Bnd.armK {B:Nat} {x:Ks} (h:Bnd B x.d) {fuse:Int} (hf:In64 fuse):Bnd B (armM x fuse).d:=by
 refine ⟨h.sum,h.few,h.room,?_⟩
 show In64 (max fuse (-1))
 obtain ⟨a,b⟩:=hf
 constructor<;>omega
structure Kz (N:Nat) (x:Ks) (all:List Bm.Bt) (sure:Nat):Prop where
  kl:Kl N x
  st:x.s=Bm.st all sure
  le:sure=all.length∨(sure+1=all.length∧x.down=true)
end Km
end
section
open Dkm Prm Wm Du Wl
namespace Km
structure Kc (N:Nat) (x:Ks):Prop where
  kn:Kn N x
  kl:Kl N x
  bnd:Bnd 2097152 x.d
theorem Kc.com {N:Nat} {x:Ks} (h:Kc N x) (b:Bm.Bt):Kc (N+1) (comM x b).1:=⟨(h.kn.com b).1,h.kl.com b,Bnd.com h.bnd (by omega) b⟩
theorem Kc.new_ {room:Int} (hr:In64 room):Kc 0 (openM ⟨[],room,-1,false⟩).1:=
  ⟨open_kn room,open_kl room,by rw [open_new];exact ⟨fun f hf=>(by cases hf),(by show 0*48≤140737488355328;omega),hr,⟨by show (-9223372036854775808:Int)≤-1;decide,by show (-1:Int)≤9223372036854775807;decide⟩⟩⟩
theorem Kc.chk {N:Nat} {x:Ks} (h:Kc N x) {fuse:Int} (hf:In64 fuse) (ks:List Int) :
    (chkM (armM x fuse)).1.s=x.s∧(crsM (chkM (armM x fuse)).1 ks).2=0∧(crsM (chkM (armM x fuse)).1 ks).1.s=x.s ∧
    Bnd 2097152 (armM x fuse).d∧Bnd 2097152 (chkM (armM x fuse)).1.d ∧
    (recM (crs (chkM (armM x fuse)).1.d ks) (begM (crs (chkM (armM x fuse)).1.d ks).fs).1).2.1.length≤N:=by
  obtain ⟨h1,h2⟩:=chk_crash h.kn h.kl.ki h.kl.cg fuse ks
  have hb:=Bnd.armK h.bnd hf
  exact ⟨chk_state _,h1,h2,hb,Bnd.chkK hb (by omega),(h.kl.arm fuse).chk.len ks⟩
end Km
end
section
open Go.RowKit Dkm Prm Km
theorem runName_any (n:Int) (w:World) (hT:Tab w):Calls Tryz.prog 14 #[.int .i64 n] w fun e w'=>e=.returned (.string (rnamB n))∧Q w w':=by
 by_cases h:runOk n
 · have hR:=rnamB_size n
   have e:rnamB n=(⟨#[114]⟩:ByteArray)++⟨(Dm.dg n.toNat).toArray⟩:=by
    rw [rnamB_ok h];rw [app_lists [114]];rfl
   have hI:=itoa_any n h
   have hsz:(⟨(Dm.dg n.toNat).toArray⟩:ByteArray).size≤8:=by
    rw [e,ByteArray.size_append] at hR;omega
   have HE:=Lib.hid e
   have HT:=Lib.hid hT
   obtain ⟨h1,h2⟩:=h
   have h3:¬ n<1:=by omega
   have h4:¬ 1000000<n:=by omega
   clear e hR hT
   generalize (⟨(Dm.dg n.toNat).toArray⟩:ByteArray)=R at hI HE hsz
   go_enter Tryz.func14,Tryz.ntmps14
   go_wp2_with fail
   refine (hI _ HT.out).mono ?_
   rintro e w2 ⟨rfl,q2⟩
   go_wp2
   go_ret
   exact ⟨by rw [HE.out];rfl,q2⟩
 · rw [rnamB_no h]
   have hc:n<1∨¬ n<1∧1000000<n:=by unfold runOk at h;omega
   clear h
   rcases hc with h1 | ⟨h1,h2⟩
   all_goals
     go_enter Tryz.func14,Tryz.ntmps14
     go_wp2
     go_ret
     exact ⟨rfl,Q.refl _⟩
theorem manifest_any (f r:Int) (w:World) (hf:f≤9223372036854775807) (hr:r≤9223372036854775807):Calls Tryz.prog 16 #[.int .i64 f,.int .i64 r] w fun e w'=>e=.returned (.string (manB f r))∧Q w w':=by
 have KF:=Lib.hid (fun W=>num_any (max f 0) W (by omega) (by omega))
 have KR:=Lib.hid (fun W=>num_any (max r 0) W (by omega) (by omega))
 have l1:=Dm.num_length (max f 0).toNat (by omega)
 have l2:=Dm.num_length (max r 0).toNat (by omega)
 have hm:manB f r=⟨(sld ((⟨(Dm.num (max f 0).toNat).toArray⟩:ByteArray)++⟨(Dm.num (max r 0).toNat).toArray⟩).data.toList).toArray⟩:=by
  unfold manB manL
  rw [show (max f 0).toNat=f.toNat by omega,show (max r 0).toNat=r.toNat by omega,app_lists]
 have hz1:(⟨(Dm.num (max f 0).toNat).toArray⟩:ByteArray).size≤100:=by show (Dm.num (max f 0).toNat).toArray.size≤100;simp;omega
 have hz2:(⟨(Dm.num (max r 0).toNat).toArray⟩:ByteArray).size≤100:=by show (Dm.num (max r 0).toNat).toArray.size≤100;simp;omega
 have HM:=Lib.hid hm
 have m0:0≤max f 0:=by omega
 have m1:max f 0≤9223372036854775807:=by omega
 have m2:0≤max r 0:=by omega
 have m3:max r 0≤9223372036854775807:=by omega
 clear hm l1 l2
 generalize (⟨(Dm.num (max f 0).toNat).toArray⟩:ByteArray)=x at KF HM hz1
 generalize (⟨(Dm.num (max r 0).toNat).toArray⟩:ByteArray)=y at KR HM hz2
 go_enter Tryz.func16,Tryz.ntmps16
 go_wp2_with fail
 refine (KF.out _).mono ?_
 rintro e w1 ⟨rfl,q1⟩
 have Q1:=Lib.hid q1
 clear q1
 go_wp2_with fail
 refine (KR.out _).mono ?_
 rintro e w2 ⟨rfl,q2⟩
 have Q2:=Lib.hid (Q1.out.trans q2)
 clear q2
 go_wp2_with fail
 refine (seal_any _ _ (by rw [ByteArray.size_append];omega)).mono ?_
 rintro e w3 ⟨rfl,q3⟩
 go_wp2
 go_ret
 exact ⟨ret_str (by rw [HM.out,ByteArray.data_append,Array.toList_append]),Q2.out.trans q3⟩
end
section
open Go.RowKit Dkm Prm Km Wm
theorem toList_arr (l:List UInt8):(⟨l.toArray⟩:ByteArray).data.toList=l:=rfl
theorem size_arr (l:List UInt8):(⟨l.toArray⟩:ByteArray).size=l.length:=by show l.toArray.size=_;simp
set_option maxHeartbeats 2000000 in
theorem takeMan_any (s:ByteArray) (w:World) (hs:s.size≤maxLen) :
    Calls Tryz.prog 12 #[.string s] w fun e w'=>e=.returned (.tuple #[.int .i64 (tman s.data.toList).1,.int .i64 (tman s.data.toList).2.1,.int .i64 (tman s.data.toList).2.2])∧Q w w':=by
  have hl:s.data.toList.length=s.size:=Rn.size_data s
  have hs':s.size≤9223372036854775807:=by unfold maxLen at hs;omega
  have KO:=Lib.hid (fun W=>sopen_any s (s.size:Int) W hs (by omega) (by omega))
  have h1:=(topen_len s.data.toList (s.size:Int)).1
  rw [show (s.size:Int)=((s.data.toList.length:Nat):Int) by rw [hl]] at KO h1
  have hA:numA s.data.toList=(Dm.tnum (topen s.data.toList s.data.toList.length).1).1:=rfl
  have hB:numB s.data.toList=(Dm.tnum (Dm.tnum (topen s.data.toList s.data.toList.length).1).2.1).1:=rfl
  have hM:tman s.data.toList=if 1≤numA s.data.toList∧numA s.data.toList≤1000000∧numB s.data.toList≤1000000∧s.data.toList=manL (numA s.data.toList:Int) (numB s.data.toList:Int) then ((numA s.data.toList:Int),(numB s.data.toList:Int),0) else (0,0,3):=rfl
  generalize tman s.data.toList=R at hM ⊢
  have hz:=numA_le s.data.toList
  have hz2:=numB_le s.data.toList
  generalize numA s.data.toList=av at hA hM hz
  generalize numB s.data.toList=bv at hB hM hz2
  generalize topen s.data.toList s.data.toList.length=o at KO h1 hA hB
  obtain ⟨o,o2,oe⟩:=o
  simp only at h1 hA hB
  have KA:=Lib.hid (fun W=>takeNum_any ⟨o.toArray⟩ W (by rw [size_arr];unfold maxLen;omega))
  have h2:=Dm.tnum_len o
  simp only [toList_arr] at KA
  generalize Dm.tnum o=x at KA h2 hA hB
  obtain ⟨xa,xr,xe⟩:=x
  simp only at h2 hA hB
  have KB:=Lib.hid (fun W=>takeNum_any ⟨xr.toArray⟩ W (by rw [size_arr];unfold maxLen;omega))
  simp only [toList_arr] at KB
  generalize Dm.tnum xr=y at KB hB
  obtain ⟨ya,yr,ye⟩:=y
  simp only at hB
  subst hA hB
  rw [hl] at KO
  have hg:(s.data.toList=manL (av:Int) (bv:Int))↔s=manB (av:Int) (bv:Int):=by
   unfold manB
   constructor
   · intro e;rw [←e]
   · intro e
     have:=congrArg (fun z:ByteArray=>z.data.toList) e
     exact this
  have HM:=Lib.hid hM
  have KF:=Lib.hid (fun (h1:av≤1000000) (h2:bv≤1000000) W=>manifest_any (av:Int) (bv:Int) W (by omega) (by omega))
  have HG:=Lib.hid hg
  unfold Dm.maxU at hz hz2
  clear hM hg hl h1 h2 hs
  simp only [ttR,tnR] at KO KA KB
  generalize (⟨o.toArray⟩:ByteArray)=ob at KO KA
  generalize (⟨o2.toArray⟩:ByteArray)=o2b at KO
  generalize (⟨xr.toArray⟩:ByteArray)=rb at KA KB
  by_cases hn:1≤av∧av≤1000000∧bv≤1000000
  · obtain ⟨n1,n2,n3⟩:=hn
    have KF:=Lib.hid (KF.out n2 n3)
    have m1:(1:Int)≤(av:Int):=by omega
    have m2:(av:Int)≤1000000:=by omega
    have m3:(bv:Int)≤1000000:=by omega
    have b1:decide ((1:Int)≤(av:Int))=true:=decide_eq_true m1
    have b2:decide ((av:Int)≤1000000)=true:=decide_eq_true m2
    have b3:decide ((bv:Int)≤1000000)=true:=decide_eq_true m3
    by_cases he:s=manB (av:Int) (bv:Int)
    · have HR:Hid (R=((av:Int),(bv:Int),0)):=Lib.hid (by rw [HM.out,if_pos ⟨n1,n2,n3,HG.out.2 he⟩])
      clear HM HG
      generalize manB (av:Int) (bv:Int)=mb at KF he
      subst he
      go_enter Tryz.func12,Tryz.ntmps12
      go_wp2_with fail
      refine (KO.out _).mono ?_
      rintro e w1 ⟨rfl,q1⟩
      go_wp2_with fail
      refine (KA.out _).mono ?_
      rintro e w2 ⟨rfl,q2⟩
      go_wp2_with fail
      refine (KB.out _).mono ?_
      rintro e w3 ⟨rfl,q3⟩
      go_wp2_with fail
      refine (KF.out _).mono ?_
      rintro e w4 ⟨rfl,q4⟩
      go_wp2
      refine bodyPost_ret (v:=.tuple #[.int .i64 (av:Int),.int .i64 (bv:Int),.int .i64 0]) (by simp [results,Tryz.results12,go_sem]) rfl ?_
      rw [HR.out]
      exact ⟨rfl,((q1.trans q2).trans q3).trans q4⟩
    · have HR:Hid (R=(0,0,3)):=Lib.hid (by rw [HM.out,if_neg (fun h=>he (HG.out.1 h.2.2.2))])
      have hne:(s.toList == (manB (av:Int) (bv:Int)).toList)=false:=by rw [same_str];exact decide_eq_false he
      clear HM HG
      generalize manB (av:Int) (bv:Int)=mb at KF he hne
      go_enter Tryz.func12,Tryz.ntmps12
      go_wp2_with fail
      refine (KO.out _).mono ?_
      rintro e w1 ⟨rfl,q1⟩
      go_wp2_with fail
      refine (KA.out _).mono ?_
      rintro e w2 ⟨rfl,q2⟩
      go_wp2_with fail
      refine (KB.out _).mono ?_
      rintro e w3 ⟨rfl,q3⟩
      go_wp2_with fail
      refine (KF.out _).mono ?_
      rintro e w4 ⟨rfl,q4⟩
      go_wp2
      refine bodyPost_ret (v:=.tuple #[.int .i64 0,.int .i64 0,.int .i64 3]) (by simp [results,Tryz.results12,go_sem]) rfl ?_
      rw [HR.out]
      exact ⟨rfl,((q1.trans q2).trans q3).trans q4⟩
  · have HR:Hid (R=(0,0,3)):=Lib.hid (by rw [HM.out,if_neg (fun h=>hn ⟨h.1,h.2.1,h.2.2.1⟩)])
    have hc:(decide ((1:Int)≤(av:Int))=false)∨(decide ((1:Int)≤(av:Int))=true∧decide ((av:Int)≤1000000)=false)∨(decide ((1:Int)≤(av:Int))=true∧decide ((av:Int)≤1000000)=true∧decide ((bv:Int)≤1000000)=false):=by
     simp only [decide_eq_false_iff_not,decide_eq_true_eq]
     omega
    clear HM HG KF hn
    rcases hc with h1 | ⟨h1,h2⟩ | ⟨h1,h2,h3⟩
    all_goals
      go_enter Tryz.func12,Tryz.ntmps12
      go_wp2_with fail
      refine (KO.out _).mono ?_
      rintro e w1 ⟨rfl,q1⟩
      go_wp2_with fail
      refine (KA.out _).mono ?_
      rintro e w2 ⟨rfl,q2⟩
      go_wp2_with fail
      refine (KB.out _).mono ?_
      rintro e w3 ⟨rfl,q3⟩
      go_wp2
      refine bodyPost_ret (v:=.tuple #[.int .i64 0,.int .i64 0,.int .i64 3]) (by simp [results,Tryz.results12,go_sem]) rfl ?_
      rw [HR.out]
      exact ⟨rfl,(q1.trans q2).trans q3⟩
end
section
open Go.RowKit Dkm Prm Km Wm
def RetBg (w:World) (r:Int×Int×Int) (e:Ending) (w':World):Prop:=
  ∃ v,e=.returned (.tuple #[.int .i64 r.1,.int .i64 r.2.1,v])∧Q w w'∧(r.2.2=0∧v=.nilIface∨r.2.2≠0∧Ev v 3)
theorem unf_zero (a b:Addr):unfV a b 0=.nilIface:=unf_nil.2 rfl
theorem kbegin_any (A:Option Addr) (n c:Nat) (d:Dk) (w:World) (a b:Addr) (hS:Sen w a b) (hd:Dsk w A n c d.fs) (hs:∀ f∈d.fs,f.sf.size+f.wt.size≤maxLen) :
    Calls Tryz.prog 71 #[dkv A n c d.room d.fuse d.off] w (RetBg w (begM d.fs)):=by
  by_cases hm:(redd mB d.fs).2≠0
  · rw [show begM d.fs=(1,0,0) by unfold begM;rw [if_pos hm]]
    exact (kbegin_no A n c d w hd hs hm).mono fun e w' h=>⟨.nilIface,h.1,h.2,.inl ⟨rfl,rfl⟩⟩
  · have hz:(redd mB d.fs).1.size≤maxLen:=redd_size mB d.fs hs
    have hb:begM d.fs=tman (redd mB d.fs).1.data.toList:=by unfold begM;rw [if_neg hm]
    have h0:(redd mB d.fs).2=0:=by simpa using hm
    have HR:=Lib.hid (fun W (h:Files W A n d.fs)=>read_any ⟨#[109]⟩ A n c d.room d.fuse d.off d.fs W h hd.max hs)
    rw [hb]
    change Hid (∀ W,Files W A n d.fs→Calls _ _ _ W fun e w'=>e=.returned (.tuple #[.string (redd mB d.fs).1,.int .i64 (redd mB d.fs).2])∧Q W w') at HR
    rw [h0] at HR
    generalize (redd mB d.fs).1=s at HR hz ⊢
    have KT:=Lib.hid (fun W=>takeMan_any s W hz)
    generalize tman s.data.toList=r at KT ⊢
    obtain ⟨f,rn,er⟩:=r
    have HD:=Lib.hid hd
    have KU:=Lib.hid (fun W (q:Q w W)=>kunf_any er a b W (hS.q q))
    have HE:Hid (er=0∧unfV a b er=.nilIface∨er≠0∧Ev (unfV a b er) 3):=Lib.hid (by
     by_cases he:er=0
     · subst he;exact .inl ⟨rfl,unf_zero a b⟩
     · exact .inr ⟨he,ev_unf a b he⟩)
    generalize unfV a b er=v at KU HE
    simp only at KT
    clear hS hd hs hm hb h0 hz
    go_enter Tryz.func71,Tryz.ntmps71
    go_wp2_with fail
    refine (HR.out _ (HD.out.files.q ((Q.refl _).alloc _))).mono ?_
    rintro e w1 ⟨rfl,q1⟩
    have Q1:=Lib.hid (((Q.refl _).alloc _).trans q1)
    clear q1
    go_wp2_with fail
    refine (KT.out _).mono ?_
    rintro e w2 ⟨rfl,q2⟩
    have Q2:=Lib.hid (Q1.out.trans q2)
    clear q2
    go_wp2_with fail
    refine (KU.out _ Q2.out).mono ?_
    rintro e w3 ⟨rfl,rfl⟩
    go_wp2
    refine bodyPost_ret (v:=.tuple #[.int .i64 f,.int .i64 rn,v]) (by simp [results,Tryz.results71,go_sem]) rfl ?_
    exact ⟨v,rfl,Q2.out,HE.out⟩
end
section
open Go.RowKit Prm
theorem isM_pre (m:UInt8) (k:ByteArray):Lib.hasPrefix k.data.toList [m]=Bm.isM m k:=by
 unfold Lib.hasPrefix Bm.isM
 cases k.data.toList with
 | nil=>rfl
 | cons a l =>
   simp only [List.isPrefixOf,List.head?_cons,Bool.and_true]
   by_cases h:m=a
   · subst h;simp
   · simp [h,Ne.symm h]
theorem cutp_any (m:UInt8) (s:ByteArray) (w:World) :
    Calls Tryz.prog 161 #[.string s,.string ⟨#[m]⟩] w fun e w'=>e=.returned (.tuple #[.string (if Bm.isM m s then Bm.cut s else s),.bool (Bm.isM m s)])∧w'=w:=by
  have h:=Tryz.strings_CutPrefix s ⟨#[m]⟩ w
  have e1:Lib.hasPrefix s.data.toList (⟨#[m]⟩:ByteArray).data.toList=Bm.isM m s:=isM_pre m s
  have e2:(⟨(Lib.trimPrefix s.data.toList (⟨#[m]⟩:ByteArray).data.toList).toArray⟩:ByteArray)=if Bm.isM m s then Bm.cut s else s:=by
   unfold Lib.trimPrefix
   rw [e1]
   split
   · show (⟨(s.data.toList.drop 1).toArray⟩:ByteArray)=_
     unfold Bm.cut;rw [List.drop_one]
   · simp
  rw [e1,e2] at h
  exact h
structure Bk (w:World) (A:Option Addr) (n c:Nat) (B:Option Addr) (m d:Nat) (s:Bm.Sta) (wi:World):Prop where
  res:Bx wi w.heap.size [.slice none 0 0,.slice none 0 0]
  bb:Bx wi (w.heap.size+1) [.slice A n c,.slice B m d]
  o1:OwnK pairK wi (w.heap.size+1+1) A n c s.data
  o2:OwnK pairK wi (w.heap.size+1+1) B m d s.toks
  ap:Apt A B
  q:Q w wi
  l:w.heap.size+1+1≤wi.heap.size
section
variable {w wi wj:World} {A B:Option Addr} {n c m d:Nat} {s:Bm.Sta}
theorem Bk.step (h:Bk w A n c B m d s wi) (q:Q wi wj):Bk w A n c B m d s wj:=
  ⟨h.res.q q,h.bb.q q,h.o1.q q,h.o2.q q,h.ap,h.q.trans q,Nat.le_trans h.l q.size⟩
theorem Bk.setData (h:Bk w A n c B m d s wi) {A':Option Addr} {n' c':Nat} {l':List Pr} (ho:OwnK pairK wj (w.heap.size+1+1) A' n' c' l') (hg:wi.grownBy wj (Value.slice A n c).ownBlock)
    (ht:(Value.slice A' n' c').ownBlock=(Value.slice A n c).ownBlock∨(Value.slice A' n' c').ownBlock=some wi.heap.size):Bk w A' n' c' B m d ⟨l',s.toks⟩ (wj.setCell ⟨w.heap.size+1,0,none⟩ (.slice A' n' c')):=by
  have hb:=grown_below h.o1 hg h.l
  exact ⟨(h.res.below hb (by omega)).far (by simp only;omega) _,(h.bb.below hb (by omega)).set (k:=0) (by simp) _,ho.setCell (by simp only;omega) _,(h.o2.away hg h.ap (fun _=>trivial)).setCell (by simp only;omega) _,
    Apt.app (n:=n) (c:=c) h.o2 h.ap ht,Q.setCell (a:=w) (h.q.below.trans (hb.mono (by omega))) (by simp only;omega) _,by have:=h.l;have:=hb.size;simp only [World.size_setCell];omega⟩
theorem Bk.setToks (h:Bk w A n c B m d s wi) {B':Option Addr} {m' d':Nat} {l':List Pr} (ho:OwnK pairK wj (w.heap.size+1+1) B' m' d' l') (hg:wi.grownBy wj (Value.slice B m d).ownBlock)
    (ht:(Value.slice B' m' d').ownBlock=(Value.slice B m d).ownBlock∨(Value.slice B' m' d').ownBlock=some wi.heap.size):Bk w A n c B' m' d' ⟨s.data,l'⟩ (wj.setCell ⟨w.heap.size+1,1,none⟩ (.slice B' m' d')):=by
  have hb:=grown_below h.o2 hg h.l
  exact ⟨(h.res.below hb (by omega)).far (by simp only;omega) _,(h.bb.below hb (by omega)).set (k:=1) (by simp) _,(h.o1.away hg h.ap.symm (fun _=>trivial)).setCell (by simp only;omega) _,ho.setCell (by simp only;omega) _,
    (Apt.app (n:=m) (c:=d) h.o1 h.ap.symm ht).symm,Q.setCell (a:=w) (h.q.below.trans (hb.mono (by omega))) (by simp only;omega) _,by have:=h.l;have:=hb.size;simp only [World.size_setCell];omega⟩
theorem Bk.new (w:World):Bk w none 0 0 none 0 0 ⟨[],[]⟩ ((w.alloc (.cells #[.slice none 0 0,.slice none 0 0] 30)).alloc (.cells #[.slice none 0 0,.slice none 0 0] 30)):=by
 refine ⟨(Bx.new w [.slice none 0 0,.slice none 0 0] 30).alloc _,?_,OwnK.nil_ _ _ _,OwnK.nil_ _ _ _,(fun a b e=>by cases e),((Q.refl w).alloc _).alloc _,by simp⟩
 have:=Bx.new (w.alloc (.cells #[.slice none 0 0,.slice none 0 0] 30)) [.slice none 0 0,.slice none 0 0] 30
 simpa using this
end
namespace Bm
theorem backL_at {l:List Pr} {j:Nat} (h:j<l.length) (s:Sta):backL (l.drop j) s=match step s l[j] with | some t=>backL (l.drop (j+1)) t | none=>none:=by
 rw [List.drop_eq_getElem_cons h];rfl
theorem step_d {s:Sta} {p:Pr} (h1:isM 100 p.key=true) (h2:s.toks=[]):step s p=some ⟨s.data++[⟨cut p.key,p.val⟩],s.toks⟩:=by unfold step;rw [if_pos ⟨h1,h2⟩]
theorem step_t {s:Sta} {p:Pr} (h0:¬(isM 100 p.key=true∧s.toks=[])) (h1:isM 116 p.key=true) (h2:cg p.val=true):step s p=some ⟨s.data,s.toks++[⟨cut p.key,p.val⟩]⟩:=by unfold step;rw [if_neg h0,if_pos ⟨h1,h2⟩]
theorem step_n {s:Sta} {p:Pr} (h0:¬(isM 100 p.key=true∧s.toks=[])) (h1:¬(isM 116 p.key=true∧cg p.val=true)):step s p=none:=by unfold step;rw [if_neg h0,if_neg h1]
def none_:Sta×Nat:=(⟨[],[]⟩,3)
theorem back_some {l:List Pr} {s:Sta} (h:backL l ⟨[],[]⟩=some s):back l=(s,0):=by unfold back;rw [h]
theorem back_none {l:List Pr} (h:backL l ⟨[],[]⟩=none):back l=none_:=by unfold back;rw [h];rfl
theorem cg_c:cg ⟨#[99]⟩=true:=by decide
theorem cg_g:cg ⟨#[103]⟩=true:=by decide
theorem cg_no {v:ByteArray} (h1:¬ v=⟨#[99]⟩) (h2:¬ v=⟨#[103]⟩):cg v=false:=by unfold cg;simp [h1,h2]
theorem isM_two {k:ByteArray} (h:isM 100 k=true):isM 116 k=false:=by
 unfold isM at h ⊢
 simp only [decide_eq_true_eq] at h
 simp [h]
end Bm
set_option maxHeartbeats 8000000 in
theorem bback_any (A0 : Option Addr) (n c0:Nat) (l:List Pr) (w:World) (hf:Lst pairK w A0 n l) (hb:n*32≤140737488355328) :
    Calls Tryz.prog 120 #[.slice A0 n c0] w (RetS w (Bm.back l)):=by
  have HF:=Lib.hid hf
  have HL:=Lib.hid hf.len
  have hn0:n≤9223372036854775807:=by omega
  have hbn:=Lib.hid (fun h=>Bm.back_none (l:=l) h)
  have hbs:=Lib.hid (fun s h=>Bm.back_some (l:=l) (s:=s) h)
  clear hf
  generalize hR:Bm.back l=R at hbn hbs ⊢
  clear hR
  go_enter Tryz.func120,Tryz.ntmps120
  go_upto_region 2 with (fail)
  have X0:=Lib.hid (Bk.new w)
  generalize ((w.alloc (.cells #[.slice none 0 0,.slice none 0 0] 30)).alloc (.cells #[.slice none 0 0,.slice none 0 0] 30))=w2 at X0 ⊢
  go_wp2
  go_loopw [13] (fun i wr=>∃ (j:Nat) (sd st:List Pr) (A:Option Addr) (c:Nat) (B:Option Addr) (d:Nat),j≤n∧i=.int .i64 j∧Bk w A sd.length c B st.length d ⟨sd,st⟩ wr∧Bm.backL l ⟨[],[]⟩=Bm.backL (l.drop j) ⟨sd,st⟩∧sd.length+st.length=j) (fun i _=>n - (intOf i).toNat)
  case atStart=>exact ⟨0,[],[],none,0,none,0,Nat.zero_le _,rfl,X0.out,rfl,rfl⟩
  case round =>
   obtain ⟨j,sd,st,A,c,B,d,hj,rfl,x1,hT,hsum⟩:=hrel
   have X:=Lib.hid x1
   have HT:=Lib.hid hT
   clear x1 hT X0
   by_cases hlt:j<n
   · have hjl:j<l.length:=by have:=HL.out;omega
     have hjn:(j:Int)<(n:Int):=by omega
     have HA:=Lib.hid (HT.out.trans (Bm.backL_at hjl ⟨sd,st⟩))
     obtain ⟨ad,rfl,hab,y0,y1⟩:=load_pair (HF.out.q X.out.q) hlt hjl
     generalize l[j]=x at y0 y1 HA
     obtain ⟨a,b⟩:=x
     dsimp only at y0 y1
     have K1:=Lib.hid (fun W=>cutp_any 100 a W)
     have K2:=Lib.hid (fun W=>cutp_any 116 a W)
     have hs1:(sd.length+1)*32≤140737488355328:=by omega
     have hs2:(st.length+1)*32≤140737488355328:=by omega
     cases ha:Bm.isM 100 a with
     | true =>
       by_cases hst:st=[]
       · have HN:=Lib.hid (HA.out.trans (by rw [Bm.step_d (s:=⟨sd,st⟩) (p:=⟨a,b⟩) ha hst]):Bm.backL l ⟨[],[]⟩=Bm.backL (l.drop (j+1)) ⟨sd++[⟨Bm.cut a,b⟩],st⟩)
         rw [ha] at K1
         simp only [if_true] at K1
         generalize Bm.cut a=Ka at K1 HN
         generalize (if Bm.isM 116 a=true then Bm.cut a else a)=Kt at K2
         generalize Bm.isM 116 a=it at K2
         have hl0:((st.length:Int) == 0)=true:=by rw [hst];rfl
         obtain ⟨⟨b0,b1⟩,b2,b3⟩:=X.out.bb.get2
         clear ha HA hst
         go_wp2_with fail
         refine (K1.out _).mono ?_
         rintro e w5 ⟨rfl,rfl⟩
         go_wp2_with fail
         refine (K2.out _).mono ?_
         rintro e w6 ⟨rfl,rfl⟩
         obtain ⟨⟨p0,p1⟩,p2,p3⟩:=(X.out.step ((Q.refl _).alloc (.cells #[.string a,.string b] 83))).bb.get2
         go_wp2_with (at_builtin
                      refine wpl_appKG pairK rfl (.tmp 39) (.tmp 44) 28 rfl rfl (w.heap.size+1+1) A sd.length c sd rfl (X.out.step (((Q.refl _).alloc (.cells #[.string a,.string b] 83)).alloc _)).o1 (some ⟨wr.heap.size+1,0,none⟩) 1 1 [⟨Ka,b⟩] rfl (by have:=lit_pair (wr.alloc (.cells #[.string a,.string b] 83)) ⟨Ka,b⟩;simpa using this) (fun e=>by cases e) (by show (sd.length+1)*32≤_;omega) (X.out.step (((Q.refl _).alloc (.cells #[.string a,.string b] 83)).alloc _)).l ?_
                      intro A5 c5 w5 o5 g5 t5
                      have X5:=Lib.hid ((X.out.step (((Q.refl _).alloc (.cells #[.string a,.string b] 83)).alloc (.cells #[.string Ka,.string b] 83))).setData o5 g5 t5)
                      obtain ⟨⟨a0,a1⟩,a2,a3⟩:=((X.out.step (((Q.refl _).alloc (.cells #[.string a,.string b] 83)).alloc (.cells #[.string Ka,.string b] 83))).bb.below (grown_below (X.out.step (((Q.refl _).alloc (.cells #[.string a,.string b] 83)).alloc (.cells #[.string Ka,.string b] 83))).o1 g5 (X.out.step (((Q.refl _).alloc (.cells #[.string a,.string b] 83)).alloc _)).l) (by omega)).get2
                      clear o5 g5 t5)
         go_roundw
         case rel=>exact ⟨j+1,sd++[⟨Ka,b⟩],st,A5,c5,B,d,by omega,by go_num,by rw [List.length_append];exact X5.out,HN.out,by rw [List.length_append];show sd.length+1+st.length=_;omega⟩
         case measure=>simp [intOf];omega
       · have hl1:st.length≠0:=fun e=>hst (List.eq_nil_of_length_eq_zero e)
         generalize hmm:st.length=m at X hsum hs2 hl1
         clear hmm
         have hl0:((m:Int) == 0)=false:=by simp;omega
         clear hl1
         have HB:=Lib.hid (hbn.out (HA.out.trans (by rw [Bm.step_n (s:=⟨sd,st⟩) (p:=⟨a,b⟩) (fun h=>hst h.2) (fun h=>by have:=h.1;simp only at this;rw [Bm.isM_two ha] at this;cases this)])))
         rw [ha] at K1
         rw [Bm.isM_two ha] at K2
         simp only [if_true,Bool.false_eq_true,if_false] at K1 K2
         generalize Bm.cut a=Ka at K1
         clear ha HA hst
         go_wp2_with fail
         refine (K1.out _).mono ?_
         rintro e w5 ⟨rfl,rfl⟩
         go_wp2_with fail
         refine (K2.out _).mono ?_
         rintro e w6 ⟨rfl,rfl⟩
         have X6:=Lib.hid (X.out.step ((Q.refl _).alloc (.cells #[.string a,.string b] 83)))
         obtain ⟨⟨b0,b1⟩,b2,b3⟩:=X6.out.bb.get2
         obtain ⟨⟨p0,p1⟩,p2,p3⟩:=X6.out.res.get2
         go_wp2
         obtain ⟨⟨r0,r1⟩,_⟩:=(X6.out.res.set2 (.slice none 0 0) (.slice none 0 0)).get2
         refine bodyPost_ret (v:=.tuple #[staV none 0 0 none 0 0,.int .i64 3]) (by simp [results,Tryz.results120,go_sem,r0,r1]) rfl ?_
         rw [HB.out]
         exact ⟨none,0,none,0,rfl,OwnK.nil_ _ _ _,OwnK.nil_ _ _ _,X6.out.q.set2 (Nat.le_refl _) _ _⟩
     | false =>
       rw [ha] at K1
       simp only [Bool.false_eq_true,if_false] at K1
       cases ht:Bm.isM 116 a with
       | false =>
         have HB:=Lib.hid (hbn.out (HA.out.trans (by rw [Bm.step_n (s:=⟨sd,st⟩) (p:=⟨a,b⟩) (fun h=>by have:=h.1;simp only at this;rw [ha] at this;cases this) (fun h=>by have:=h.1;simp only at this;rw [ht] at this;cases this)])))
         rw [ht] at K2
         simp only [Bool.false_eq_true,if_false] at K2
         clear ha ht HA
         go_wp2_with fail
         refine (K1.out _).mono ?_
         rintro e w5 ⟨rfl,rfl⟩
         go_wp2_with fail
         refine (K2.out _).mono ?_
         rintro e w6 ⟨rfl,rfl⟩
         have X6:=Lib.hid (X.out.step ((Q.refl _).alloc (.cells #[.string a,.string b] 83)))
         obtain ⟨⟨p0,p1⟩,p2,p3⟩:=X6.out.res.get2
         go_wp2
         obtain ⟨⟨r0,r1⟩,_⟩:=(X6.out.res.set2 (.slice none 0 0) (.slice none 0 0)).get2
         refine bodyPost_ret (v:=.tuple #[staV none 0 0 none 0 0,.int .i64 3]) (by simp [results,Tryz.results120,go_sem,r0,r1]) rfl ?_
         rw [HB.out]
         exact ⟨none,0,none,0,rfl,OwnK.nil_ _ _ _,OwnK.nil_ _ _ _,X6.out.q.set2 (Nat.le_refl _) _ _⟩
       | true =>
         rw [ht] at K2
         simp only [if_true] at K2
         by_cases hc:b=⟨#[99]⟩
         · subst hc
           have HN:=Lib.hid (HA.out.trans (by rw [Bm.step_t (s:=⟨sd,st⟩) (p:=⟨a,⟨#[99]⟩⟩) (fun h=>by have:=h.1;simp only at this;rw [ha] at this;cases this) ht Bm.cg_c]):Bm.backL l ⟨[],[]⟩=Bm.backL (l.drop (j+1)) ⟨sd,st++[⟨Bm.cut a,⟨#[99]⟩⟩]⟩)
           generalize Bm.cut a=Kt at K2 HN
           clear ha ht HA
           go_wp2_with fail
           refine (K1.out _).mono ?_
           rintro e w5 ⟨rfl,rfl⟩
           go_wp2_with fail
           refine (K2.out _).mono ?_
           rintro e w6 ⟨rfl,rfl⟩
           obtain ⟨⟨p0,p1⟩,p2,p3⟩:=(X.out.step ((Q.refl _).alloc (.cells #[.string a,.string ⟨#[99]⟩] 83))).bb.get2
           go_wp2_with (at_builtin
                        refine wpl_appKG pairK rfl (.tmp 60) (.tmp 65) 28 rfl rfl (w.heap.size+1+1) B st.length d st rfl (X.out.step (((Q.refl _).alloc (.cells #[.string a,.string ⟨#[99]⟩] 83)).alloc _)).o2 (some ⟨wr.heap.size+1,0,none⟩) 1 1 [⟨Kt,⟨#[99]⟩⟩] rfl (by have:=lit_pair (wr.alloc (.cells #[.string a,.string ⟨#[99]⟩] 83)) ⟨Kt,⟨#[99]⟩⟩;simpa using this) (fun e=>by cases e) (by show (st.length+1)*32≤_;omega) (X.out.step (((Q.refl _).alloc (.cells #[.string a,.string ⟨#[99]⟩] 83)).alloc _)).l ?_
                        intro A5 c5 w5 o5 g5 t5
                        have X5:=Lib.hid ((X.out.step (((Q.refl _).alloc (.cells #[.string a,.string ⟨#[99]⟩] 83)).alloc (.cells #[.string Kt,.string ⟨#[99]⟩] 83))).setToks o5 g5 t5)
                        obtain ⟨⟨a0,a1⟩,a2,a3⟩:=((X.out.step (((Q.refl _).alloc (.cells #[.string a,.string ⟨#[99]⟩] 83)).alloc (.cells #[.string Kt,.string ⟨#[99]⟩] 83))).bb.below (grown_below (X.out.step (((Q.refl _).alloc (.cells #[.string a,.string ⟨#[99]⟩] 83)).alloc (.cells #[.string Kt,.string ⟨#[99]⟩] 83))).o2 g5 (X.out.step (((Q.refl _).alloc (.cells #[.string a,.string ⟨#[99]⟩] 83)).alloc _)).l) (by omega)).get2
                        clear o5 g5 t5)
           go_roundw
           case rel=>exact ⟨j+1,sd,st++[⟨Kt,⟨#[99]⟩⟩],A,c,A5,c5,by omega,by go_num,by rw [List.length_append];exact X5.out,HN.out,by rw [List.length_append];show sd.length+(st.length+1)=_;omega⟩
           case measure=>simp [intOf];omega
         · by_cases hg:b=⟨#[103]⟩
           · subst hg
             have HN:=Lib.hid (HA.out.trans (by rw [Bm.step_t (s:=⟨sd,st⟩) (p:=⟨a,⟨#[103]⟩⟩) (fun h=>by have:=h.1;simp only at this;rw [ha] at this;cases this) ht Bm.cg_g]):Bm.backL l ⟨[],[]⟩=Bm.backL (l.drop (j+1)) ⟨sd,st++[⟨Bm.cut a,⟨#[103]⟩⟩]⟩)
             generalize Bm.cut a=Kt at K2 HN
             clear ha ht HA hc
             go_wp2_with fail
             refine (K1.out _).mono ?_
             rintro e w5 ⟨rfl,rfl⟩
             go_wp2_with fail
             refine (K2.out _).mono ?_
             rintro e w6 ⟨rfl,rfl⟩
             obtain ⟨⟨p0,p1⟩,p2,p3⟩:=(X.out.step ((Q.refl _).alloc (.cells #[.string a,.string ⟨#[103]⟩] 83))).bb.get2
             go_wp2_with (at_builtin
                          refine wpl_appKG pairK rfl (.tmp 60) (.tmp 65) 28 rfl rfl (w.heap.size+1+1) B st.length d st rfl (X.out.step (((Q.refl _).alloc (.cells #[.string a,.string ⟨#[103]⟩] 83)).alloc _)).o2 (some ⟨wr.heap.size+1,0,none⟩) 1 1 [⟨Kt,⟨#[103]⟩⟩] rfl (by have:=lit_pair (wr.alloc (.cells #[.string a,.string ⟨#[103]⟩] 83)) ⟨Kt,⟨#[103]⟩⟩;simpa using this) (fun e=>by cases e) (by show (st.length+1)*32≤_;omega) (X.out.step (((Q.refl _).alloc (.cells #[.string a,.string ⟨#[103]⟩] 83)).alloc _)).l ?_
                          intro A5 c5 w5 o5 g5 t5
                          have X5:=Lib.hid ((X.out.step (((Q.refl _).alloc (.cells #[.string a,.string ⟨#[103]⟩] 83)).alloc (.cells #[.string Kt,.string ⟨#[103]⟩] 83))).setToks o5 g5 t5)
                          obtain ⟨⟨a0,a1⟩,a2,a3⟩:=((X.out.step (((Q.refl _).alloc (.cells #[.string a,.string ⟨#[103]⟩] 83)).alloc (.cells #[.string Kt,.string ⟨#[103]⟩] 83))).bb.below (grown_below (X.out.step (((Q.refl _).alloc (.cells #[.string a,.string ⟨#[103]⟩] 83)).alloc (.cells #[.string Kt,.string ⟨#[103]⟩] 83))).o2 g5 (X.out.step (((Q.refl _).alloc (.cells #[.string a,.string ⟨#[103]⟩] 83)).alloc _)).l) (by omega)).get2
                          clear o5 g5 t5)
             go_roundw
             case rel=>exact ⟨j+1,sd,st++[⟨Kt,⟨#[103]⟩⟩],A,c,A5,c5,by omega,by go_num,by rw [List.length_append];exact X5.out,HN.out,by rw [List.length_append];show sd.length+(st.length+1)=_;omega⟩
             case measure=>simp [intOf];omega
           · have HB:=Lib.hid (hbn.out (HA.out.trans (by rw [Bm.step_n (s:=⟨sd,st⟩) (p:=⟨a,b⟩) (fun h=>by have:=h.1;simp only at this;rw [ha] at this;cases this) (fun h=>by have:=h.2;simp only at this;rw [Bm.cg_no hc hg] at this;cases this)])))
             have hc1:(b.toList == (⟨#[99]⟩:ByteArray).toList)=false:=by rw [same_str];simpa using hc
             have hg1:(b.toList == (⟨#[103]⟩:ByteArray).toList)=false:=by rw [same_str];simpa using hg
             have hc2:(b.toList == [99])=false:=by rw [show (⟨#[99]⟩:ByteArray).toList=[99] by rw [ByteArray.toList_eq]] at hc1;exact hc1
             have hg2:(b.toList == [103])=false:=by rw [show (⟨#[103]⟩:ByteArray).toList=[103] by rw [ByteArray.toList_eq]] at hg1;exact hg1
             generalize Bm.cut a=Kt at K2
             clear ha ht HA hc hg
             go_wp2_with fail
             refine (K1.out _).mono ?_
             rintro e w5 ⟨rfl,rfl⟩
             go_wp2_with fail
             refine (K2.out _).mono ?_
             rintro e w6 ⟨rfl,rfl⟩
             have X6:=Lib.hid (X.out.step ((Q.refl _).alloc (.cells #[.string a,.string b] 83)))
             obtain ⟨⟨p0,p1⟩,p2,p3⟩:=X6.out.res.get2
             go_wp2
             obtain ⟨⟨r0,r1⟩,_⟩:=(X6.out.res.set2 (.slice none 0 0) (.slice none 0 0)).get2
             refine bodyPost_ret (v:=.tuple #[staV none 0 0 none 0 0,.int .i64 3]) (by simp [results,Tryz.results120,go_sem,r0,r1]) rfl ?_
             rw [HB.out]
             exact ⟨none,0,none,0,rfl,OwnK.nil_ _ _ _,OwnK.nil_ _ _ _,X6.out.q.set2 (Nat.le_refl _) _ _⟩
   · have hjn:¬((j:Int)<(n:Int)):=by omega
     have HB:=Lib.hid (hbs.out ⟨sd,st⟩ (HT.out.trans (by rw [List.drop_of_length_le (by have:=HL.out;omega)];rfl)))
     obtain ⟨⟨b0,b1⟩,b2,b3⟩:=X.out.bb.get2
     obtain ⟨⟨p0,p1⟩,p2,p3⟩:=X.out.res.get2
     go_wp2
     obtain ⟨⟨r0,r1⟩,_⟩:=(X.out.res.set2 (.slice A sd.length c) (.slice B st.length d)).get2
     refine bodyPost_ret (v:=.tuple #[staV A sd.length c B st.length d,.int .i64 0]) (by simp [results,Tryz.results120,go_sem,r0,r1]) rfl ?_
     rw [HB.out]
     exact ⟨A,c,B,d,rfl,(X.out.o1.set2 (b:=w.heap.size) (by omega) _ _).lower (by omega),(X.out.o2.set2 (b:=w.heap.size) (by omega) _ _).lower (by omega),X.out.q.set2 (Nat.le_refl _) _ _⟩
end
section
open Go.RowKit Dkm Km Wm
theorem Bm.backL_lenK:∀ (l:List Prm.Pr) (s t:Bm.Sta),Bm.backL l s=some t→t.data.length+t.toks.length=s.data.length+s.toks.length+l.length
  | [],s,t,h=>by simp only [Bm.backL,Option.some.injEq] at h;subst h;simp
  | p :: l,s,t,h=>by
    unfold Bm.backL at h
    cases hs:Bm.step s p with
    | none=>rw [hs] at h;cases h
    | some u =>
      rw [hs] at h
      have h1:=Bm.step_len hs
      have h2:=Bm.backL_lenK l u t h
      simp only [List.length_cons];omega
theorem Bm.back_lenK (l:List Prm.Pr):(Bm.back l).1.data.length+(Bm.back l).1.toks.length≤l.length:=by
 unfold Bm.back
 cases h:Bm.backL l ⟨[],[]⟩ with
 | none=>simp
 | some t=>have:=Bm.backL_lenK l ⟨[],[]⟩ t h;simp at this;simp only;omega
theorem tkp_count:∀ (n:Nat) (r:List UInt8) (acc:List Prm.Pr),(Rn.tkp n r acc).1.length*4≤acc.length*4+r.length
  | 0,r,acc=>by unfold Rn.tkp;simp
  | n + 1,r,acc=>by
    unfold Rn.tkp
    split
    · simp
    · rename_i h1
      split
      · simp
      · rename_i h2
        have h3:=Rn.ttext_takes r 65536 (by simpa using h1)
        have h4:=Rn.ttext_takes (Dm.ttext r 65536).2.1 65536 (by simpa using h2)
        have h5:=tkp_count n (Dm.ttext (Dm.ttext r 65536).2.1 65536).2.1 (acc++[⟨⟨(Dm.ttext r 65536).1.toArray⟩,⟨(Dm.ttext (Dm.ttext r 65536).2.1 65536).1.toArray⟩⟩])
        rw [List.length_append,List.length_singleton] at h5
        omega
theorem take_count (s:List UInt8) (most:Int):(Rn.take s most).1.length*4≤s.length:=by
 unfold Rn.take Rn.tk1
 have h0:=(topen_len s most).1
 split
 · simp
 · unfold Rn.tk2
   split
   · simp
   · show (Rn.tkps (topen s most).1).1.length*4≤s.length
     unfold Rn.tkps
     split
     · simp
     · have h1:=tkp_count (Dm.tnum (topen s most).1).1 (Dm.tnum (topen s most).1).2.1 []
       have h2:=Dm.tnum_len (topen s most).1
       simp only [List.length_nil,Nat.zero_mul,Nat.zero_add] at h1
       omega
theorem loadM_count {B:Nat} (nm:ByteArray) (l:List Fil) (h:∀ f∈l,f.sf.size+f.wt.size≤B):(Rn.loadM nm l).1.length*4≤B:=by
 unfold Rn.loadM
 split
 · simp
 · have h1:=take_count (redd nm l).1.data.toList 1073741824
   have h2:=redd_size nm l h
   rw [Rn.size_data] at h1
   omega
def RetLd (w:World) (r:Bm.Sta×Int) (e:Ending) (w':World):Prop:=
  ∃ A n c B m d s v,e=.returned (.tuple #[staV A n c B m d,v])∧In_ pairK w' A n c s.data∧In_ pairK w' B m d s.toks∧Q w w'∧(r.2=0∧v=.nilIface∧s=r.1∨r.2≠0∧Ev v 3)
structure Pl (w:World) (A:Option Addr) (n c:Nat) (d:Dk) (wi:World):Prop where
  db:Bx wi w.heap.size [.slice A n c,.int .i64 d.room,.int .i64 d.fuse,.bool d.off]
  res:Bx wi (w.heap.size+1) [.slice none 0 0,.slice none 0 0]
  dsk:Dsk wi A n c d.fs
  q:Q w wi
section
variable {w wi wj:World} {A B C:Option Addr} {n c bn bc cn cc:Nat} {d:Dk} {s:Bm.Sta}
theorem Pl.new (h:Dsk w A n c d.fs):Pl w A n c d ((w.alloc (.cells #[.slice A n c,.int .i64 d.room,.int .i64 d.fuse,.bool d.off] 24)).alloc (.cells #[.slice none 0 0,.slice none 0 0] 30)):=by
 refine ⟨(Bx.new w [.slice A n c,.int .i64 d.room,.int .i64 d.fuse,.bool d.off] 24).alloc _,?_,h.q (((Q.refl w).alloc _).alloc _),((Q.refl w).alloc _).alloc _⟩
 have:=Bx.new (w.alloc (.cells #[.slice A n c,.int .i64 d.room,.int .i64 d.fuse,.bool d.off] 24)) [.slice none 0 0,.slice none 0 0] 30
 rw [show (w.alloc (.cells #[.slice A n c,.int .i64 d.room,.int .i64 d.fuse,.bool d.off] 24)).heap.size=w.heap.size+1 by simp] at this
 exact this
theorem Pl.step (h:Pl w A n c d wi) (q:Q wi wj):Pl w A n c d wj:=⟨h.db.q q,h.res.q q,h.dsk.q q,h.q.trans q⟩
theorem Pl.fin (h:Pl w A n c d wi) (hB:In_ pairK wi B bn bc s.data) (hC:In_ pairK wi C cn cc s.toks) :
    Bx ((wi.setCell ⟨w.heap.size+1,0,none⟩ (.slice B bn bc)).setCell ⟨w.heap.size+1,1,none⟩ (.slice C cn cc)) (w.heap.size+1) [.slice B bn bc,.slice C cn cc] ∧
    In_ pairK ((wi.setCell ⟨w.heap.size+1,0,none⟩ (.slice B bn bc)).setCell ⟨w.heap.size+1,1,none⟩ (.slice C cn cc)) B bn bc s.data ∧
    In_ pairK ((wi.setCell ⟨w.heap.size+1,0,none⟩ (.slice B bn bc)).setCell ⟨w.heap.size+1,1,none⟩ (.slice C cn cc)) C cn cc s.toks ∧
    Q w ((wi.setCell ⟨w.heap.size+1,0,none⟩ (.slice B bn bc)).setCell ⟨w.heap.size+1,1,none⟩ (.slice C cn cc)):=by
  have h1:=hB.stk h.res (nt2 _ _ _ _ _ _) [(0,Value.slice B bn bc),(1,.slice C cn cc)] (us2_ok _ _ _ _ _ _ _ _)
  have h2:=hC.stk h.res (nt2 _ _ _ _ _ _) [(0,Value.slice B bn bc),(1,.slice C cn cc)] (us2_ok _ _ _ _ _ _ _ _)
  exact ⟨h.res.set2 _ _,h1,h2,h.q.set2 (Nat.le_succ _) _ _⟩
end
set_option maxHeartbeats 4000000 in
theorem kload_any (A:Option Addr) (n c:Nat) (d:Dk) (n0:Int) (w:World) (a b:Addr) (hT:Kt w a b) (hd:Dsk w A n c d.fs) (hB:Bnd 2097152 d) :
    Calls Tryz.prog 72 #[dkv A n c d.room d.fuse d.off,.int .i64 n0] w (RetLd w (loadS d.fs n0)):=by
  by_cases h0:n0=0
  · subst h0
    rw [show loadS d.fs 0=(⟨[],[]⟩,0) by unfold loadS;rw [if_pos rfl]]
    exact (kload_zero A n c d w).mono fun e w' h=>by
     obtain ⟨A,n,c,B,m,d,h1,h2,h3,h4⟩:=h
     exact ⟨A,n,c,B,m,d,_,_,h1,h2,h3,h4,.inl ⟨rfl,rfl,rfl⟩⟩
  have hL:loadS d.fs n0=if (Rn.loadM (rnamB n0) d.fs).2≠0 then (⟨[],[]⟩,3) else if (Bm.back (Rn.loadM (rnamB n0) d.fs).1).2≠0 then (⟨[],[]⟩,3) else ((Bm.back (Rn.loadM (rnamB n0) d.fs).1).1,0):=by unfold loadS;rw [if_neg h0]
  have KN:=Lib.hid (fun W (q:Q w W)=>runName_any n0 W (hT.q q).tab)
  have KL:=Lib.hid (fun W (q:Q w W)=>load_any (rnamB n0) A n c d W (hd.q q) (fun f hf=>Nat.le_trans (hB.sum f hf) (by omega)))
  have hcnt:=loadM_count (rnamB n0) d.fs hB.sum
  have KU:=Lib.hid (fun (e:Int) W (q:Q w W)=>kunf_any e a b W (hT.q q).sen)
  generalize loadS d.fs n0=R at hL ⊢
  have X0:=Lib.hid (Pl.new hd)
  generalize Rn.loadM (rnamB n0) d.fs=x at KL hL hcnt
  obtain ⟨rows,er⟩:=x
  obtain ⟨l,room,fuse,off⟩:=d
  simp only at KL hL hcnt X0
  generalize rnamB n0=nm at KN KL
  clear hT hd hB
  by_cases he:er=0
  · subst he
    have hb1:rows.length*32≤140737488355328:=by omega
    have KB:=Lib.hid (fun (A2:Option Addr) (c2:Nat) (W:World) (hl:Lst pairK W A2 rows.length rows)=>bback_any A2 rows.length c2 rows W hl hb1)
    have hbl:=Bm.back_lenK rows
    rw [if_neg (by simp)] at hL
    generalize Bm.back rows=y at KB hL hbl
    obtain ⟨st,be⟩:=y
    simp only at KB hL hbl
    have HL2:=Lib.hid (show st.data.length*32≤140737488355328∧st.toks.length*32≤140737488355328 by omega)
    have HR:Hid ((R.2=0∧unfV a b (be:Int)=.nilIface∧st=R.1∨R.2≠0∧Ev (unfV a b (be:Int)) 3)):=Lib.hid (by
     by_cases hbe:be=0
     · subst hbe
       rw [if_neg (by simp)] at hL
       subst hL
       exact .inl ⟨rfl,unf_zero a b,rfl⟩
     · rw [if_pos hbe] at hL
       subst hL
       exact .inr ⟨by decide,ev_unf a b (by omega)⟩)
    have KU2:=Lib.hid (fun W q=>KU.out (be:Int) W q)
    generalize unfV a b (be:Int)=v at KU2 HR
    clear hL hcnt hbl KU hb1
    go_enter Tryz.func72,Tryz.ntmps72
    go_upto_region 1 with (fail)
    generalize ((w.alloc (.cells #[.slice A n c,.int .i64 room,.int .i64 fuse,.bool off] 24)).alloc (.cells #[.slice none 0 0,.slice none 0 0] 30))=W at X0 ⊢
    obtain ⟨⟨e0,e1,e2,e3⟩,f0,f1,f2,f3⟩:=X0.out.db.get4
    go_upto_region 3 with (fail)
    go_region_held3 (fun w'=>w'.cell? ⟨w.heap.size,0,none⟩=some (.slice A n c)∧w'.cell? ⟨w.heap.size,1,none⟩=some (.int .i64 room)∧w'.cell? ⟨w.heap.size,2,none⟩=some (.int .i64 fuse)∧w'.cell? ⟨w.heap.size,3,none⟩=some (.bool off))
      (first
        | go_keep
        | (go_split_ands
           (repeat' apply And.intro)<;>exact box_ ‹Q _ _› (by assumption)))
      (first
        | (go_at_call 14
           refine (KN.out _ X0.out.q.drew).mono ?_
           rintro e w1 ⟨rfl,q1⟩)
        | (go_at_call 119
           refine (KL.out _ (X0.out.q.drew.trans q1)).mono ?_
           rintro e w2 ⟨A2,c2,rfl,o2,q2⟩))
    have X1:=Lib.hid (X0.out.step (((Q.refl _).drew.trans q1).trans q2))
    try simp only at o2
    clear q1 e0 e1 e2 e3 f0 f1 f2 f3
    go_wp2_with fail
    refine (KB.out A2 c2 _ o2.lst).mono ?_
    rintro e w3 ⟨A3,c3,B3,d3,rfl,o3,p3,q3⟩
    simp only at o3 p3
    have X2:=Lib.hid ((X1.out.step q3).step ((Q.refl w3).alloc (.cells #[.slice A3 st.data.length c3,.slice B3 st.toks.length d3] 30)))
    have Z:=Lib.hid (Bx.new w3 [.slice A3 st.data.length c3,.slice B3 st.toks.length d3] 30)
    have I3:=Lib.hid (And.intro ((o3.in_ HL2.out.1).q ((Q.refl w3).alloc (.cells #[.slice A3 st.data.length c3,.slice B3 st.toks.length d3] 30))) ((p3.in_ HL2.out.2).q ((Q.refl w3).alloc (.cells #[.slice A3 st.data.length c3,.slice B3 st.toks.length d3] 30))))
    have hg:w.heap.size+1<w3.heap.size:=(X1.out.step q3).res.lt
    clear o3 p3 q3 X1 o2
    go_upto_region 7 with (fail)
    generalize (w3.alloc (.cells #[.slice A3 st.data.length c3,.slice B3 st.toks.length d3] 30))=W2 at X2 Z I3 ⊢
    generalize w3.heap.size=g at Z hg ⊢
    have D:=Lib.hid (X2.out.step ((Q.refl W2).drew))
    have I4:=Lib.hid (And.intro (I3.out.1.q ((Q.refl W2).drew)) (I3.out.2.q ((Q.refl W2).drew)))
    have Z4:=Lib.hid Z.out.drew
    refine wp_region_held_drew (S:=fun w'=>Bx w' g [.slice A3 st.data.length c3,.slice B3 st.toks.length d3]) (by kernel_rfl) ?szz0 (fun hHeld=>?rzz0)
    case szz0 =>
     exact Z4.out
    generalize W2.drew=W4 at D I4 Z4 ⊢
    have F:=Lib.hid (D.out.fin (s:=st) I4.out.1 I4.out.2)
    have ZF:Hid (Bx ((W4.setCell ⟨w.heap.size+1,0,none⟩ (.slice A3 st.data.length c3)).setCell ⟨w.heap.size+1,1,none⟩ (.slice B3 st.toks.length d3)) g [.slice A3 st.data.length c3,.slice B3 st.toks.length d3]):=Lib.hid (Z4.out.far_stk (g:=w.heap.size+1) (by omega) [(0,.slice A3 st.data.length c3),(1,.slice B3 st.toks.length d3)])
    refine takeH 0 ?v1 ?y1 ?_
    case y1=>intro w hSw;obtain ⟨s0,s1⟩:=hSw.get2.1;go_simp;try with_reducible rfl
    refine takeH 1 ?v2 ?y2 ?_
    case y2=>intro w hSw;obtain ⟨s0,s1⟩:=hSw.get2.1;go_simp;try with_reducible rfl
    refine oneH 2 (fun K hK=>?_)
    go_simp
    refine (KU2.out _ D.out.q).mono ?_
    rintro e w9 ⟨rfl,rfl⟩
    go_wp2_with fail
    refine hK.out _ _ ?Szz5 (fun hHeld=>?_)
    case Szz5 =>
     exact Z4.out
    clear hK K
    try simp only [Act.put,sA,sB,sC]
    refine oneH 3 (fun K hK=>?_)
    obtain ⟨⟨g0,g1⟩,i0,i1⟩:=D.out.res.get2
    go_simp
    refine hK.out _ _ ?Szz4 (fun hHeld=>?_)
    case Szz4 =>
     exact ZF.out
    clear hK K
    try simp only [Act.put,sA,sB,sC]
    refine takeH 4 ?v3 ?y3 ?_
    case y3=>intro w hSw;obtain ⟨s0,s1⟩:=hSw.get2.1;go_simp;try with_reducible rfl
    refine wpAnyH_done (by kernel_rfl) ?_ _
    go_wp2
    (try rw [Exit.noGoto_ret])
    obtain ⟨⟨r0,r1⟩,_⟩:=F.out.1.get2
    refine bodyPost_ret (v:=.tuple #[staV A3 st.data.length c3 B3 st.toks.length d3,v]) (by simp [results,Tryz.results72,go_sem,r0,r1]) rfl ?_
    exact ⟨A3,_,c3,B3,_,d3,st,v,rfl,F.out.2.1,F.out.2.2.1,F.out.2.2.2,HR.out⟩
  · have HR:Hid (R=(⟨[],[]⟩,3)):=Lib.hid (by rw [hL,if_pos he])
    have hn:((er:Nat):Int)≠0:=by omega
    have HE:=Lib.hid (ev_unf a b hn)
    have KU2:=Lib.hid (fun W q=>KU.out (er:Int) W q)
    generalize unfV a b (er:Int)=v at KU2 HE
    clear hL hcnt KU
    go_enter Tryz.func72,Tryz.ntmps72
    go_upto_region 1 with (fail)
    generalize ((w.alloc (.cells #[.slice A n c,.int .i64 room,.int .i64 fuse,.bool off] 24)).alloc (.cells #[.slice none 0 0,.slice none 0 0] 30))=W at X0 ⊢
    obtain ⟨⟨e0,e1,e2,e3⟩,f0,f1,f2,f3⟩:=X0.out.db.get4
    go_upto_region 3 with (fail)
    go_region_held3 (fun w'=>w'.cell? ⟨w.heap.size,0,none⟩=some (.slice A n c)∧w'.cell? ⟨w.heap.size,1,none⟩=some (.int .i64 room)∧w'.cell? ⟨w.heap.size,2,none⟩=some (.int .i64 fuse)∧w'.cell? ⟨w.heap.size,3,none⟩=some (.bool off))
      (first
        | go_keep
        | (go_split_ands
           (repeat' apply And.intro)<;>exact box_ ‹Q _ _› (by assumption)))
      (first
        | (go_at_call 14
           refine (KN.out _ X0.out.q.drew).mono ?_
           rintro e w1 ⟨rfl,q1⟩)
        | (go_at_call 119
           refine (KL.out _ (X0.out.q.drew.trans q1)).mono ?_
           rintro e w2 ⟨A2,c2,rfl,o2,q2⟩))
    have X1:=Lib.hid (X0.out.step (((Q.refl _).drew.trans q1).trans q2))
    try simp only at o2
    clear q1 e0 e1 e2 e3 f0 f1 f2 f3
    go_wp2_with fail
    refine (KU2.out _ X1.out.q).mono ?_
    rintro e w3 ⟨rfl,rfl⟩
    have X2:=X1
    clear X1
    have F:=Lib.hid (X2.out.fin (s:=⟨[],[]⟩) (In_.none_ pairK _) (In_.none_ pairK _))
    obtain ⟨⟨g0,g1⟩,i0,i1⟩:=X2.out.res.get2
    clear X2
    go_wp2
    obtain ⟨⟨r0,r1⟩,_⟩:=F.out.1.get2
    refine bodyPost_ret (v:=.tuple #[staV none 0 0 none 0 0,v]) (by simp [results,Tryz.results72,go_sem,r0,r1]) rfl ?_
    rw [HR.out]
    exact ⟨none,0,0,none,0,0,⟨[],[]⟩,v,rfl,F.out.2.1,F.out.2.2.1,F.out.2.2.2,.inr ⟨by decide,HE.out⟩⟩
end
section
open Go.RowKit Dkm Prm Km Wm
theorem openM_bad (d:Dk):(openM d).2≠0→(openM d).1=ks0:=by
 unfold openM opnA
 split
 · intro _;rfl
 · unfold opnB
   split
   · intro _;rfl
   · exact opnC_bad _ _ _ _
theorem loadS_count {B:Nat} (l:List Fil) (n0:Int) (h:∀ f∈l,f.sf.size+f.wt.size≤B):(loadS l n0).1.data.length*4≤B∧(loadS l n0).1.toks.length*4≤B:=by
 have h1:=loadM_count (rnamB n0) l h
 have h2:=Bm.back_lenK (Rn.loadM (rnamB n0) l).1
 unfold loadS
 split
 · simp
 · split
   · simp
   · split
     · simp
     · constructor
       · show (Bm.back (Rn.loadM (rnamB n0) l).1).1.data.length*4≤B;omega
       · show (Bm.back (Rn.loadM (rnamB n0) l).1).1.toks.length*4≤B;omega
set_option maxHeartbeats 4000000 in
theorem kopen_any (A:Option Addr) (n c:Nat) (d:Dk) (w:World) (a b:Addr) (hT:Kt w a b) (hd:Dsk w A n c d.fs) (hB:Bnd 2097152 d) (hlen:(recM d (begM d.fs).1).2.1.length≤1073741824) :
    Calls Tryz.prog 32 #[dkv A n c d.room d.fuse d.off] w (RetO w (openM d)):=by
  have KB:=Lib.hid (fun W (q:Q w W)=>kbegin_any A n c d W a b (hT.q q).sen (hd.q q) (mx21 hB))
  by_cases hb:(begM d.fs).2.2=0
  · have KL:=Lib.hid (fun W (q:Q w W)=>kload_any A n c d (begM d.fs).2.1 W a b (hT.q q) (hd.q q) hB)
    have hcnt:=loadS_count d.fs (begM d.fs).2.1 hB.sum
    have ho:openM d=opnB d (begM d.fs).1 (begM d.fs).2.1 (loadS d.fs (begM d.fs).2.1):=by unfold openM opnA;rw [if_neg (by simpa using hb)]
    have KB:Hid (∀ W,Q w W→Calls Tryz.prog 71 #[dkv A n c d.room d.fuse d.off] W fun e w'=>e=.returned (.tuple #[.int .i64 (begM d.fs).1,.int .i64 (begM d.fs).2.1,.nilIface])∧Q W w'):=Lib.hid (fun W q=>(KB.out W q).mono fun e w' h=>by
     obtain ⟨v,h1,h2,h3⟩:=h
     rcases h3 with ⟨_,rfl⟩ | ⟨h3,_⟩
     · exact ⟨h1,h2⟩
     · exact absurd hb h3)
    by_cases hl:(loadS d.fs (begM d.fs).2.1).2=0
    · rw [ho,show opnB d (begM d.fs).1 (begM d.fs).2.1 (loadS d.fs (begM d.fs).2.1)=opnC (begM d.fs).1 (begM d.fs).2.1 (loadS d.fs (begM d.fs).2.1).1 (recM d (begM d.fs).1) by unfold opnB;rw [if_neg (by simpa using hl)]]
      refine kopen_mid A n c d _ _ (loadS d.fs (begM d.fs).2.1).1 w a b hT hd hB KB (Lib.hid fun W q=>(KL.out W q).mono fun e w' h=>?_) (by omega) (by omega) hlen (recM_le _ _)
      obtain ⟨A1,n1,c1,B1,m1,d1,s,v,h1,h2,h3,h4,h5⟩:=h
      rcases h5 with ⟨_,rfl,rfl⟩ | ⟨h5,_⟩
      · exact ⟨A1,n1,c1,B1,m1,d1,h1,h2,h3,h4⟩
      · exact absurd hl h5
    · rw [ho,show opnB d (begM d.fs).1 (begM d.fs).2.1 (loadS d.fs (begM d.fs).2.1)=(ks0,3) by unfold opnB;rw [if_pos hl]]
      obtain ⟨l,room,fuse,off⟩:=d
      have X0:Hid (Po w A n c ⟨l,room,fuse,off⟩ ((w.alloc (.cells #[.slice A n c,.int .i64 room,.int .i64 fuse,.bool off] 24)).alloc (.cells #[.slice none 0 0,.int .i64 0,.int .i64 0,.bool false,.int .i64 0,.int .i64 0,.int .i64 0,.slice none 0 0,.slice none 0 0,.bool false] 32))):=Lib.hid (Po.new hd)
      simp only at KB KL hl
      generalize begM l=bg at KB KL hl
      obtain ⟨frm,n0,be⟩:=bg
      simp only at KB KL hl
      generalize loadS l n0=ld at KL hl
      obtain ⟨ls,le⟩:=ld
      simp only at KL hl
      clear hT hd hB hlen hb hcnt ho
      go_enter Tryz.func32,Tryz.ntmps32
      go_upto_region 1 with (fail)
      generalize ((w.alloc (.cells #[.slice A n c,.int .i64 room,.int .i64 fuse,.bool off] 24)).alloc (.cells #[.slice none 0 0,.int .i64 0,.int .i64 0,.bool false,.int .i64 0,.int .i64 0,.int .i64 0,.slice none 0 0,.slice none 0 0,.bool false] 32))=W at X0 ⊢
      obtain ⟨⟨e0,e1,e2,e3⟩,f0,f1,f2,f3⟩:=X0.out.db.get4
      go_wp2_with fail
      refine (KB.out _ X0.out.q).mono ?_
      rintro e w1 ⟨rfl,q1⟩
      have X1:=Lib.hid (X0.out.step q1)
      clear q1 X0 e0 e1 e2 e3 f0 f1 f2 f3
      obtain ⟨⟨e0,e1,e2,e3⟩,f0,f1,f2,f3⟩:=X1.out.db.get4
      go_wp2_with fail
      refine (KL.out _ X1.out.q).mono ?_
      rintro e w2 ⟨B1,bn1,bc1,C1,cn1,cc1,s1,v1,rfl,_,_,q2,hv⟩
      rcases hv with ⟨hv,_⟩ | ⟨_,hv⟩
      · exact absurd hv hl
      rcases hv with ⟨_,hv⟩ | ⟨⟨T,u,rfl⟩,_⟩
      · exact absurd hv (by decide)
      have X2:=Lib.hid ((X1.out.step q2).step ((Q.refl w2).alloc (.cells #[.slice B1 bn1 bc1,.slice C1 cn1 cc1] 30)))
      clear q2 X1 e0 e1 e2 e3 f0 f1 f2 f3
      have X1:=X2
      clear X2
      go_upto_region 6 with (fail)
      generalize w2.alloc (.cells #[.slice B1 bn1 bc1,.slice C1 cn1 cc1] 30)=W2 at X1 ⊢
      have F0:=X1.out.fin (p:=p0) (x:=ks0) (kr0 _)
      dsimp only [us10,stk,p0,ks0] at F0
      have F:=Lib.hid F0
      obtain ⟨g0,g1,g2,g3,g4,g5,g6,g7,g8,g9⟩:=kfree X1.out.res
      obtain ⟨i0,i1,i2,i3,i4,i5,i6,i7,i8,i9⟩:=kget X1.out.res
      clear X1 F0
      go_wp2
      (try rw [Exit.noGoto_ret])
      obtain ⟨r0,r1,r2,r3,r4,r5,r6,r7,r8,r9⟩:=kget F.out.1
      refine bodyPost_ret (v:=.tuple #[kvV p0 ks0,fltW T u 3]) (by simp [results,Tryz.results32,go_sem,r0,r1,r2,r3,r4,r5,r6,r7,r8,r9,p0,ks0]) rfl ?_
      exact ⟨_,_,_,rfl,F.out.2.1,F.out.2.2,.inr ⟨⟨T,u,rfl⟩,by decide⟩,fun h=>absurd (show (3:Int)=0 from h) (by decide)⟩
  · rw [show openM d=(ks0,3) by unfold openM opnA;rw [if_pos (by simpa using hb)]]
    obtain ⟨l,room,fuse,off⟩:=d
    have X0:Hid (Po w A n c ⟨l,room,fuse,off⟩ ((w.alloc (.cells #[.slice A n c,.int .i64 room,.int .i64 fuse,.bool off] 24)).alloc (.cells #[.slice none 0 0,.int .i64 0,.int .i64 0,.bool false,.int .i64 0,.int .i64 0,.int .i64 0,.slice none 0 0,.slice none 0 0,.bool false] 32))):=Lib.hid (Po.new hd)
    simp only at KB hb
    generalize begM l=bg at KB hb
    obtain ⟨frm,n0,be⟩:=bg
    simp only at KB hb
    clear hT hd hB hlen
    go_enter Tryz.func32,Tryz.ntmps32
    go_upto_region 1 with (fail)
    generalize ((w.alloc (.cells #[.slice A n c,.int .i64 room,.int .i64 fuse,.bool off] 24)).alloc (.cells #[.slice none 0 0,.int .i64 0,.int .i64 0,.bool false,.int .i64 0,.int .i64 0,.int .i64 0,.slice none 0 0,.slice none 0 0,.bool false] 32))=W at X0 ⊢
    obtain ⟨⟨e0,e1,e2,e3⟩,f0,f1,f2,f3⟩:=X0.out.db.get4
    go_wp2_with fail
    refine (KB.out _ X0.out.q).mono ?_
    rintro e w1 ⟨V,rfl,q1,hv⟩
    have X1:=Lib.hid (X0.out.step q1)
    clear q1 X0 e0 e1 e2 e3 f0 f1 f2 f3
    rcases hv with ⟨hv,_⟩ | ⟨_,hv⟩
    · exact absurd hv hb
    rcases hv with ⟨_,hv⟩ | ⟨⟨T,u,rfl⟩,_⟩
    · exact absurd hv (by decide)
    have F0:=X1.out.fin (p:=p0) (x:=ks0) (kr0 _)
    dsimp only [us10,stk,p0,ks0] at F0
    have F:=Lib.hid F0
    obtain ⟨g0,g1,g2,g3,g4,g5,g6,g7,g8,g9⟩:=kfree X1.out.res
    obtain ⟨i0,i1,i2,i3,i4,i5,i6,i7,i8,i9⟩:=kget X1.out.res
    clear X1 F0
    go_wp2
    (try rw [Exit.noGoto_ret])
    obtain ⟨r0,r1,r2,r3,r4,r5,r6,r7,r8,r9⟩:=kget F.out.1
    refine bodyPost_ret (v:=.tuple #[kvV p0 ks0,fltW T u 3]) (by simp [results,Tryz.results32,go_sem,r0,r1,r2,r3,r4,r5,r6,r7,r8,r9,p0,ks0]) rfl ?_
    exact ⟨_,_,_,rfl,F.out.2.1,F.out.2.2,.inr ⟨⟨T,u,rfl⟩,by decide⟩,fun h=>absurd (show (3:Int)=0 from h) (by decide)⟩
theorem kOpen_any (A:Option Addr) (n c:Nat) (d:Dk) (w:World) (a b:Addr) (hT:Kt w a b) (hd:Dsk w A n c d.fs) (hB:Bnd 2097152 d) (hlen:(recM d (begM d.fs).1).2.1.length≤1073741824) :
    Calls Tryz.prog 9 #[dkv A n c d.room d.fuse d.off] w (RetK w (openM d).1 [.int .i64 (openM d).2]):=
  kOpen_of A n c d _ w hT.typ hd (openM_bad d) (Lib.hid fun W q=>kopen_any A n c d W a b (hT.q q) (hd.q q) hB hlen)
theorem kCrash_any (p:Kp) (x:Ks) (K:Option Addr) (kn kc:Nat) (ks:List Int) (w:World) (a b:Addr) (hT:Kt w a b) (hk:Kr w p x) (hI:Ints w K kn ks) (hkn:kn≤maxLen) (hB:Bnd 2097152 x.d) (hlen:(recM (crs x.d ks) (begM (crs x.d ks).fs).1).2.1.length≤1073741824) :
    Calls Tryz.prog 23 #[kvV p x,.slice K kn kc] w (RetK w (crsM x ks).1 [.int .i64 (crsM x ks).2]):=
  kCrash_of p x K kn kc ks (crsM x ks) w hk hI hkn (mx21 hB) (Lib.hid fun A n c W q hd=>kOpen_any A n c (crs x.d ks) W a b (hT.q q) hd (Bnd.crsK hB ks) hlen)
end
section
open Go.RowKit Dkm Wm
def fil (from_ til:Int) (ks:List Int):List Int:=ks.filter fun k=>decide (from_≤k∧k<til)
theorem fil_no {from_ til k:Int} {ks:List Int} (h:¬ (from_≤k∧k<til)):fil from_ til (k :: ks)=fil from_ til ks:=by
 unfold fil;rw [List.filter_cons_of_neg (by simpa using h)]
theorem fil_yes {from_ til k:Int} {ks:List Int} (h:from_≤k∧k<til):fil from_ til (k :: ks)=k :: fil from_ til ks:=by
 unfold fil;rw [List.filter_cons_of_pos (by simpa using h)]
theorem Ints.away {w:World} {K:Option Addr} {n:Nat} {l:List Int} (h:Ints w K n l) {b:Nat} (hf:∀ ad,K=some ad→ad.block≠b) (o:Nat) (v:Value):Ints (w.setCell ⟨b,o,none⟩ v) K n l:=by
 refine ⟨h.1,fun j u hj=>?_⟩
 obtain ⟨ad,e,hb,hc⟩:=h.2 j u hj
 refine ⟨ad,e,by simpa [World.setCell] using hb,?_⟩
 have hne:(⟨b,o,none⟩:Addr)≠ad.add j:=by
  intro e2
  have:=congrArg Addr.block e2
  have h2:(ad.add j).block=ad.block:=by unfold Addr.add;split<;>rfl
  rw [h2] at this
  exact hf ad e this.symm
 rw [World.cell?_setCell_other _ _ _ _ hne]
 exact hc
def RetPr (w:World) (ks:List Int) (e:Ending) (w':World):Prop:=
  ∃ K kn kc,e=.returned (.slice K kn kc)∧Ints w' K kn ks∧kn≤maxLen∧(∀ ad,K=some ad→w.heap.size≤ad.block)∧Q w w'
theorem Sv.endF {w wr:World} {A:Option Addr} {n c:Nat} {d:Dk} (h:Sv w A n c d wr) (hf:Far w A) (er:Int) (x y z u:Value) :
    ∃ A' n' c',Ending.returned (.tuple #[dkv A n c d.room d.fuse d.off,.int .i64 er])=.returned (.tuple #[dkv A' n' c' d.room d.fuse d.off,.int .i64 er])∧Dsk ((((wr.setCell ⟨w.heap.size+1,0,none⟩ x).setCell ⟨w.heap.size+1,1,none⟩ y).setCell ⟨w.heap.size+1,2,none⟩ z).setCell ⟨w.heap.size+1,3,none⟩ u) A' n' c' d.fs∧Far w A' ∧
      Q w ((((wr.setCell ⟨w.heap.size+1,0,none⟩ x).setCell ⟨w.heap.size+1,1,none⟩ y).setCell ⟨w.heap.size+1,2,none⟩ z).setCell ⟨w.heap.size+1,3,none⟩ u):=
  ⟨A,n,c,rfl,(((h.dsk.away1 (fun hn ad e=>(h.away hn ad e).2) 0 _).away1 (fun hn ad e=>(h.away hn ad e).2) 1 _).away1 (fun hn ad e=>(h.away hn ad e).2) 2 _).away1 (fun hn ad e=>(h.away hn ad e).2) 3 _,hf,h.sb.q.set4 (b:=w.heap.size+1) (by omega) _ _ _ _⟩
set_option maxHeartbeats 8000000 in
theorem wdrop_of (from_ til:Int) (A:Option Addr) (n c:Nat) (d:Dk) (ks:List Int) (w:World) (hT:Tab w) (hd:Dsk w A n c d.fs) (hB:Bnd 2305843009213693952 d)
    (KP:Hid (∀ A n c W,Q w W→Dsk W A n c d.fs→Calls Tryz.prog 187 #[dkv A n c d.room d.fuse d.off] W (RetPr W ks))) :
    Calls Tryz.prog 158 #[dkv A n c d.room d.fuse d.off,.int .i64 from_,.int .i64 til] w fun e w'=>∃ A' n' c',e=.returned (.tuple #[dkv A' n' c' (drops (fil from_ til ks) d).1.room (drops (fil from_ til ks) d).1.fuse (drops (fil from_ til ks) d).1.off,.int .i64 (drops (fil from_ til ks) d).2])∧Dsk w' A' n' c' (drops (fil from_ til ks) d).1.fs∧Far w A'∧Q w w':=by
  have HT:=Lib.hid hT
  have HD:=Lib.hid hd
  have HB0:=Lib.hid hB
  generalize hR:drops (fil from_ til ks) d=R
  have HR:=Lib.hid hR
  clear hT hd hB hR
  go_enter Tryz.func158,Tryz.ntmps158
  go_wp2_with fail
  refine (wown_any A n c d.room d.fuse d.off d.fs _ (HD.out.q (((Q.refl _).alloc _).alloc _))).mono ?_
  rintro e w1 ⟨A1,c1,rfl,ho,q1⟩
  have P0:=Lib.hid ((Sv.new w HD.out).put (d5:=d) q1 ho HD.out.few)
  obtain ⟨⟨e0,e1,e2,e3⟩,f0,f1,f2',f3⟩:=((Sv.new w HD.out).sb.step q1).get
  clear ho q1
  go_upto_region 2 with (fail)
  generalize ((((w1.setCell ⟨w.heap.size,0,none⟩ (.slice A1 n c1)).setCell ⟨w.heap.size,1,none⟩ (.int .i64 d.room)).setCell ⟨w.heap.size,2,none⟩ (.int .i64 d.fuse)).setCell ⟨w.heap.size,3,none⟩ (.bool d.off))=W0 at P0 ⊢
  clear e0 e1 e2 e3 f0 f1 f2' f3
  obtain ⟨⟨e0,e1,e2,e3⟩,f0,f1,f2',f3⟩:=P0.out.1.sb.get
  go_wp2_with fail
  refine (KP.out _ _ _ _ P0.out.1.sb.q P0.out.1.dsk).mono ?_
  rintro e w2 ⟨K,kn,kc,rfl,hk,hkn,hkf,q2⟩
  have S0:=Lib.hid (P0.out.1.step q2)
  have F0:=Lib.hid P0.out.2
  have I0:=Lib.hid hk
  have HN:=Lib.hid hk.len
  have HKF:Hid (∀ ad,K=some ad→ad.block≠w.heap.size):=Lib.hid (fun ad e=>by have h1:=hkf ad e;have h2:=P0.out.1.sb.res.lt;omega)
  have hkn2:kn≤9223372036854775807:=hkn
  clear hk hkn hkf q2 P0 KP e0 e1 e2 e3 f0 f1 f2' f3
  go_wp2
  go_loopw [16] (fun i wr=>∃ (j:Nat) (A5:Option Addr) (n5 c5:Nat) (x:Dk),j≤kn∧i=.int .i64 j∧Sv w A5 n5 c5 x wr∧Far w A5∧Bnd 2305843009213693952 x∧Ints wr K kn ks∧drops (fil from_ til ks) d=drops (fil from_ til (ks.drop j)) x) (fun i _=>kn - (intOf i).toNat)
  case atStart=>exact ⟨0,A1,n,c1,d,Nat.zero_le _,rfl,S0.out,F0.out,HB0.out,I0.out,rfl⟩
  case round =>
   obtain ⟨j,A5,n5,c5,x,hj,rfl,hv,hf,hb,hi,hx⟩:=hrel
   have V:=Lib.hid hv
   have HF:=Lib.hid hf
   have HB:=Lib.hid hb
   have HI:=Lib.hid hi
   have HX:=Lib.hid hx
   clear hv hf hb hi hx S0 F0 I0 HB0
   generalize wr=W at V HI ⊢
   obtain ⟨⟨e0,e1,e2,e3⟩,f0,f1,f2',f3⟩:=V.out.sb.get
   by_cases hlt:j<kn
   · have hjl:j<ks.length:=by have:=HN.out;omega
     have hjn:(j:Int)<(kn:Int):=by omega
     obtain ⟨ad,rfl,hab,hc⟩:=HI.out.load hjl
     have HX1:=Lib.hid (fun k (hk:ks[j]=k)=>(HX.out.trans (by rw [List.drop_eq_getElem_cons hjl,hk]):drops (fil from_ til ks) d=drops (fil from_ til (k :: ks.drop (j+1))) x))
     generalize ks[j]=k at hc HX1
     have HX2:=Lib.hid (HX1.out k rfl)
     clear HX1 HX
     by_cases g0:k<from_
     · have HX3:=Lib.hid (HX2.out.trans (by rw [fil_no (by omega)]))
       clear HX2
       go_wp2
       go_roundw
       case rel=>exact ⟨j+1,A5,n5,c5,x,by omega,by go_num,V.out,HF.out,HB.out,HI.out,HX3.out⟩
       case measure=>simp [intOf];omega
     by_cases g1:til≤k
     · have HX3:=Lib.hid (HX2.out.trans (by rw [fil_no (by omega)]))
       clear HX2
       go_wp2
       go_roundw
       case rel=>exact ⟨j+1,A5,n5,c5,x,by omega,by go_num,V.out,HF.out,HB.out,HI.out,HX3.out⟩
       case measure=>simp [intOf];omega
     have KNK:=Lib.hid (name_any k)
     have KDK:=Lib.hid (fun A n c w hd=>del_any (namB k) A n c x w hd (fun f hf=>Nat.le_trans (HB.out.sum f hf) (by unfold maxLen;omega)) HB.out.fuse.2)
     have HB2:=Lib.hid (HB.out.del (namB k))
     have HX3:=Lib.hid (HX2.out.trans (by rw [fil_yes ⟨by omega,by omega⟩,drops]))
     generalize del x (namB k)=y at KDK HB2 HX3
     obtain ⟨y,er⟩:=y
     simp only at KDK HB2 HX3
     have SV:=Lib.hid V.out.sb
     have DV:=Lib.hid V.out.dsk
     clear HX2
     go_upto_region 7 with (fail)
     have QW:=Lib.hid (Q.refl W)
     refine wp_region_heldL 7 (Q W) (by kernel_rfl) ?szz0 (fun hHeld=>?rzz0)
     case szz0 =>
      exact (Q.refl W).drew
     refine takeL 0 ?v1 ?y1 ?_
     case y1=>intro w hSw;have x0:=box_ hSw e0;have x1:=box_ hSw e1;have x2:=box_ hSw e2;have x3:=box_ hSw e3;clear hSw;go_simp;try with_reducible rfl
     refine takL 1 ?_
     refine oneL 2 (fun K hK=>?_)
     go_simp
     refine (KNK.out _ (HT.out.q (SV.out.q.trans hHeld))).mono ?_
     rintro e w3 ⟨rfl,q3⟩
     go_wp2_with fail
     refine hK.out _ _ ?Szz12 (fun hHeld=>?_)
     case Szz12 =>
      exact hHeld.trans q3
     clear hK K
     try simp only [Act.put,sA,sB,sC]
     refine oneL 3 (fun K hK=>?_)
     go_simp
     refine (KDK.out _ _ _ _ (DV.out.q hHeld)).mono ?_
     rintro e w5 ⟨A5,n5,c5,rfl,ho,q5⟩
     obtain ⟨⟨x0,x1,x2,x3⟩,y0,y1,y2,y3⟩:=((SV.out.step hHeld).step q5).get
     have Z5:=Lib.hid (And.intro ho (And.intro hHeld q5))
     go_wp2_with fail
     refine hK.out _ _ ?Szz11 (fun hHeld=>?_)
     case Szz11 =>
      exact hHeld.trans q5
     clear hK K
     try simp only [Act.put,sA,sB,sC]
     refine takL 4 ?_
     refine takL 5 ?_
     refine wpAnyL_ready (rs:=[6,7]) (by kernel_rfl) (by simp) ?_
     refine consL (fun K hK=>?kzz9) ?_
     case kzz9 =>
      go_simp
      refine hK.out _ _ ?Szz9 (fun hHeld=>?_)
      case Szz9 =>
       exact hHeld
      clear hK K
      try simp only [Act.put,sA,sB,sC]
      refine oneK (fun K hK=>?_)
      go_simp
      refine hK.out _ _ ?_
      clear hK K
      try simp only [Act.put,sA,sB,sC]
      refine takH 8 ?_
      refine wpAnyH_done (by kernel_rfl) ?_ _
      have P:=Lib.hid ((V.out.step Z5.out.2.1).put (d5:=y) Z5.out.2.2 Z5.out.1 (few_own Z5.out.1 HB2.out))
      have HJ:=Lib.hid ((((((HI.out.q Z5.out.2.1).q Z5.out.2.2).away HKF.out 0 (.slice A5 n5 c5)).away HKF.out 1 (.int .i64 y.room)).away HKF.out 2 (.int .i64 y.fuse)).away HKF.out 3 (.bool y.off))
      by_cases he:er=0
      · subst he
        have HX4:=Lib.hid (HX3.out.trans (if_pos rfl))
        go_wp2_with fail
        go_roundw
        case rel=>exact ⟨j+1,A5,n5,c5,y,by omega,by go_num,P.out.1,P.out.2,HB2.out,HJ.out,HX4.out⟩
        case measure=>simp [intOf];omega
      · have HX4:=Lib.hid (HX3.out.trans (if_neg he))
        clear HX3
        go_upto_region 9 with (fail)
        generalize ((((w5.setCell ⟨w.heap.size,0,none⟩ (.slice A5 n5 c5)).setCell ⟨w.heap.size,1,none⟩ (.int .i64 y.room)).setCell ⟨w.heap.size,2,none⟩ (.int .i64 y.fuse)).setCell ⟨w.heap.size,3,none⟩ (.bool y.off))=W6 at P ⊢
        obtain ⟨⟨t0,t1,t2,t3⟩,v0,v1,v2,v3⟩:=P.out.1.sb.get
        obtain ⟨⟨s0,s1,s2,s3⟩,h0,h1,h2,h3⟩:=P.out.1.sb.getR
        go_wp2
        (try rw [Exit.noGoto_ret])
        refine bodyPost_ret (v:=.tuple #[dkv A5 n5 c5 y.room y.fuse y.off,.int .i64 er]) (by simp [results,Tryz.results158,go_sem,s0,s1,s2,s3]) rfl ?_
        rw [←HR.out,HX4.out]
        exact P.out.1.endF P.out.2 er _ _ _ _
     refine consK (fun K hK=>?_) AllReadyL.nil
     go_simp
     refine hK.out _ _ ?_
     clear hK K
     try simp only [Act.put,sA,sB,sC]
     refine takH 6 ?_
     refine takH 8 ?_
     refine wpAnyH_done (by kernel_rfl) ?_ _
     have P:=Lib.hid ((V.out.step Z5.out.2.1).put (d5:=y) Z5.out.2.2 Z5.out.1 (few_own Z5.out.1 HB2.out))
     have HJ:=Lib.hid ((((((HI.out.q Z5.out.2.1).q Z5.out.2.2).away HKF.out 0 (.slice A5 n5 c5)).away HKF.out 1 (.int .i64 y.room)).away HKF.out 2 (.int .i64 y.fuse)).away HKF.out 3 (.bool y.off))
     by_cases he:er=0
     · subst he
       have HX4:=Lib.hid (HX3.out.trans (if_pos rfl))
       go_wp2_with fail
       go_roundw
       case rel=>exact ⟨j+1,A5,n5,c5,y,by omega,by go_num,P.out.1,P.out.2,HB2.out,HJ.out,HX4.out⟩
       case measure=>simp [intOf];omega
     · have HX4:=Lib.hid (HX3.out.trans (if_neg he))
       clear HX3
       go_upto_region 9 with (fail)
       generalize ((((w5.setCell ⟨w.heap.size,0,none⟩ (.slice A5 n5 c5)).setCell ⟨w.heap.size,1,none⟩ (.int .i64 y.room)).setCell ⟨w.heap.size,2,none⟩ (.int .i64 y.fuse)).setCell ⟨w.heap.size,3,none⟩ (.bool y.off))=W6 at P ⊢
       obtain ⟨⟨t0,t1,t2,t3⟩,v0,v1,v2,v3⟩:=P.out.1.sb.get
       obtain ⟨⟨s0,s1,s2,s3⟩,h0,h1,h2,h3⟩:=P.out.1.sb.getR
       go_wp2
       (try rw [Exit.noGoto_ret])
       refine bodyPost_ret (v:=.tuple #[dkv A5 n5 c5 y.room y.fuse y.off,.int .i64 er]) (by simp [results,Tryz.results158,go_sem,s0,s1,s2,s3]) rfl ?_
       rw [←HR.out,HX4.out]
       exact P.out.1.endF P.out.2 er _ _ _ _
   · have e:kn=j:=by omega
     have hall:ks.drop j=[]:=List.drop_eq_nil_of_le (by have:=HN.out;omega)
     have HX1:=Lib.hid (HX.out.trans (show _=(x,(0:Int)) by rw [hall];rfl))
     have hnk:¬ (j:Int)<(kn:Int):=by omega
     clear hall e HX
     obtain ⟨⟨s0,s1,s2,s3⟩,h0,h1,h2,h3⟩:=V.out.sb.getR
     go_wp2
     (try rw [Exit.noGoto_ret])
     refine bodyPost_ret (v:=.tuple #[dkv A5 n5 c5 x.room x.fuse x.off,.int .i64 0]) (by simp [results,Tryz.results158,go_sem,s0,s1,s2,s3]) rfl ?_
     rw [←HR.out,HX1.out]
     exact V.out.endF HF.out 0 _ _ _ _
end
end Go.Proofs.YtajidconlmhjfaaGreatDoor
