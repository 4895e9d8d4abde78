/- Base, SumMath, SumWalks, Bytes, DecMath, DecNum, SumShown, DecTakeMath, DecTake, DecTakeNum, SumOpen, WalMath, OwnRows, DiskMath, Mem, Files, DiskMath2: merged. -/
import Derived.Test.YtccoknaaofmbcaaGreatDoorRows
import Derived.WalkKit
import Derived.WalkSpells
import Derived.WalkLawsBesides
import Derived.ProofKit
import Derived.OpenShut
import Derived.ShutString
import Derived.Lib.Hide
import Derived.Deep.QuietTactic
import Derived.BigQuiet
import Derived.Laws.BitsLemmas
import Derived.Laws.IdiomStrings
import Derived.Laws.OwnMore
import Derived.Laws.Rows
import Derived.Laws.IdiomCopy
import Derived.OwnWalk
import Derived.Deep.Upon
import Derived.Lib.LazyBuf
import Derived.Deep.MidRow
import Derived.Deep.AppendLies
import Derived.Deep.Fields
set_option linter.unusedVariables false
set_option linter.unusedSimpArgs false
set_option maxRecDepth 100000
set_option maxHeartbeats 16000000
open Go.Lib (hid)
namespace Go.Proofs.YtccoknaaofmbcaaGreatDoor
section
open Go.RowKit
def Q (w w':World):Prop:=Below w.heap.size w w'
theorem Q.below {w w':World}(h:Q w w'):Below w.heap.size w w':=h
theorem Q.refl (w:World):Q w w:=Below.refl _ _
theorem Q.trans {a b c:World}(h:Q a b)(k:Q b c):Q a c:=Below.trans h (Below.mono k h.below.size)
theorem Q.drew {a w:World}(h:Q a w):Q a w.drew:=Below.drew h
theorem Q.drewN {a w:World}(h:Q a w)(n:Nat):Q a (w.drewN n):=⟨h.below.os,h.below.tape,h.below.output,h.below.size,h.below.block⟩
theorem Q.alloc {a w:World}(h:Q a w)(o:Obj):Q a (w.alloc o):=Below.alloc h h.below.size o
theorem Q.setCell {a w:World}(h:Q a w){p:Addr}(hp:a.heap.size≤p.block)(u:Value):Q a (w.setCell p u):=Below.setCell h hp u
theorem Q.set3 {a w:World}(h:Q a w){b:Nat}(hb:a.heap.size≤b)(x y z:Value):Q a (((w.setCell ⟨b,0,none⟩ x).setCell ⟨b,1,none⟩ y).setCell ⟨b,2,none⟩ z):=
 ((h.setCell (p:=⟨b,0,none⟩) hb x).setCell (p:=⟨b,1,none⟩) hb y).setCell (p:=⟨b,2,none⟩) hb z
theorem Q.set4 {a w:World}(h:Q a w){b:Nat}(hb:a.heap.size≤b)(x y z u:Value):Q a ((((w.setCell ⟨b,0,none⟩ x).setCell ⟨b,1,none⟩ y).setCell ⟨b,2,none⟩ z).setCell ⟨b,3,none⟩ u):=
 (h.set3 hb x y z).setCell (p:=⟨b,3,none⟩) hb u
theorem Q.size {w w':World}(h:Q w w'):w.heap.size≤w'.heap.size:=h.below.size
theorem ret_int {k:IntKind}{a b:Int}(h:a=b):Ending.returned (.int k a)=.returned (.int k b):=by rw[h]
theorem ret_bool {a b:Bool}(h:a=b):Ending.returned (.bool a)=.returned (.bool b):=by rw[h]
end
end Go.Proofs.YtccoknaaofmbcaaGreatDoor
namespace Go.Proofs.YtccoknaaofmbcaaGreatDoor.Sm
def step (p:Int×Int)(c:UInt8):Int×Int:=((p.1+(c.toNat:Int)) % 65521,(p.2+(p.1+(c.toNat:Int))) % 65521)
def adF (p:Int×Int)(l:List UInt8):Int×Int:=l.foldl step p
def ad (l:List UInt8):Int×Int:=adF (1,0) l
def lo (l:List UInt8):Int:=(ad l).1
def hi (l:List UInt8):Int:=(ad l).2
def adler (l:List UInt8):Int:=hi l*65536+lo l
def S:List UInt8→Int
 | []=>0
 | c :: l=>(c.toNat:Int)+S l
def T:List UInt8→Int
 | []=>0
 | c :: l=>((l.length:Int)+1)*(c.toNat:Int)+T l
theorem mod_of {x y:Int}(k:Int)(h:x=y+65521*k):x % 65521=y % 65521:=by
 rw[h];exact Int.add_mul_emod_self_left _ _ _
theorem adF_closed (l:List UInt8):∀ a b:Int,0≤a→a<65521→0≤b→b<65521 →
  (adF (a,b) l).1=(a+S l) % 65521∧(adF (a,b) l).2=(b+(l.length:Int)*a+T l) % 65521:=by
 induction l with
 | nil=>intro a b h0 h1 h2 h3;simp only[adF,List.foldl,S,T,List.length];omega
 | cons c l ih =>
   intro a b h0 h1 h2 h3
   have e:adF (a,b) (c :: l)=adF ((a+(c.toNat:Int)) % 65521,(b+(a+(c.toNat:Int))) % 65521) l:=rfl
   obtain⟨i1,i2⟩:=ih ((a+(c.toNat:Int)) % 65521) ((b+(a+(c.toNat:Int))) % 65521) (by omega) (by omega) (by omega) (by omega)
   rw[e,i1,i2]
   refine⟨by simp only[S];omega,?_⟩
   simp only[T,List.length_cons]
   have q1:(a+(c.toNat:Int)) % 65521=(a+(c.toNat:Int)) - 65521*((a+(c.toNat:Int)) / 65521):=by omega
   have q2:(b+(a+(c.toNat:Int))) % 65521=(b+(a+(c.toNat:Int))) - 65521*((b+(a+(c.toNat:Int))) / 65521):=by omega
   rw[q1,q2]
   generalize (a+(c.toNat:Int)) / 65521=u
   generalize (b+(a+(c.toNat:Int))) / 65521=v
   refine mod_of (-v - (l.length:Int)*u) ?_
   push_cast
   generalize (l.length:Int)=n
   generalize (c.toNat:Int)=d
   grind
theorem lo_eq (l:List UInt8):lo l=(1+S l) % 65521:=(adF_closed l 1 0 (by omega) (by omega) (by omega) (by omega)).1
theorem hi_eq (l:List UInt8):hi l=((l.length:Int)+T l) % 65521:=by
 have h:=(adF_closed l 1 0 (by omega) (by omega) (by omega) (by omega)).2
 unfold hi ad;rw[h];congr 1;omega
theorem lo_range (l:List UInt8):0≤lo l∧lo l<65521:=by rw[lo_eq];omega
theorem hi_range (l:List UInt8):0≤hi l∧hi l<65521:=by rw[hi_eq];omega
theorem adler_range (l:List UInt8):0≤adler l∧adler l<4294967296:=by
 have:=lo_range l;have:=hi_range l;unfold adler;omega
theorem adler_lo (l:List UInt8):adler l % 65536=lo l:=by
 have:=lo_range l;have:=hi_range l;unfold adler;omega
theorem lo_snoc (l:List UInt8)(c:UInt8):lo (l++[c])=(lo l+(c.toNat:Int)) % 65521:=by
 unfold lo ad adF;rw[List.foldl_append];rfl
theorem hi_snoc (l:List UInt8)(c:UInt8):hi (l++[c])=(hi l+(lo l+(c.toNat:Int))) % 65521:=by
 unfold hi lo ad adF;rw[List.foldl_append];rfl
theorem S_append (a b:List UInt8):S (a++b)=S a+S b:=by
 induction a with
 | nil=>simp[S]
 | cons c l ih=>simp only[List.cons_append,S,ih];omega
theorem tells (x y:List UInt8)(c d:UInt8)(h:c≠d):adler (x++d :: y)≠adler (x++c :: y):=by
 intro e
 have e1:lo (x++d :: y)=lo (x++c :: y):=by rw[←adler_lo,e,adler_lo]
 rw[lo_eq,lo_eq,S_append,S_append] at e1
 simp only[S] at e1
 have hc:=c.toNat_lt
 have hd:=d.toNat_lt
 have hn:c.toNat≠d.toNat:=fun k=>h (UInt8.toNat_inj.1 k)
 omega
end Go.Proofs.YtccoknaaofmbcaaGreatDoor.Sm
namespace Go.Proofs.YtccoknaaofmbcaaGreatDoor
section
open Go.RowKit
theorem or_halves (a b:Int)(h0:0≤a)(h1:a<65536)(h2:0≤b)(h3:b<65536):bits BinOp.or IntKind.u64 (b*65536) a % 4294967296=b*65536+a:=by
 have e:bits BinOp.or IntKind.u64 (b*65536) a=b*65536+a:=by
  refine bits_join .u64 40 (by decide) (fun n p q=>IntWalk.u64_in n ⟨p,by omega⟩) 16 (b*65536) a ?_ ?_ ?_ ?_ ?_ ?_<;>omega
 rw[e];omega
theorem whole_any (a b:Int)(w:World)(h0:0≤a)(h1:a<65536)(h2:0≤b)(h3:b<65536) :
  Calls Tryz.prog 133 #[.agg #[.int .u64 a,.int .u64 b]] w fun e w'=>e=.returned (.int .u32 (b*65536+a))∧Q w w':=by
 go_enter Tryz.func133,Tryz.ntmps133
 go_wp2
 go_ret
 exact⟨ret_int (or_halves a b h0 h1 h2 h3),(Q.refl _).alloc _⟩
theorem take_snoc (s:ByteArray)(k:Nat)(h:k<s.size):s.data.toList.take (k+1)=s.data.toList.take k++[s[k]]:=by
 rw[List.take_succ_eq_append_getElem (by simpa using h)];rfl
theorem take_all (s:ByteArray)(k:Nat)(h:s.size≤k):s.data.toList.take k=s.data.toList:=List.take_of_length_le (by simpa using h)
theorem refOf_any (s:ByteArray)(w:World)(hs:s.size≤maxLen) :
  Calls Tryz.prog 85 #[.string s] w fun e w'=>e=.returned (.int .u32 (Sm.adler s.data.toList))∧Q w w':=by
 unfold maxLen at hs
 go_enter Tryz.func85,Tryz.ntmps85
 go_wp2
 go_loop [3,4,5] (fun a b i=>∃ k:Nat,k≤s.size∧i=.int .i64 k∧a=.int .i64 (Sm.lo (s.data.toList.take k))∧b=.int .i64 (Sm.hi (s.data.toList.take k))) (fun _ _ i=>s.size - (intOf i).toNat)
 case atStart=>exact⟨0,Nat.zero_le _,rfl,rfl,rfl⟩
 case round =>
  obtain⟨k,hk,rfl,rfl,rfl⟩:=hrel
  have r1:=Sm.lo_range (s.data.toList.take k)
  have r2:=Sm.hi_range (s.data.toList.take k)
  by_cases hlt:k<s.size
  · have hts:=take_snoc s k hlt
    have e1:=Sm.lo_snoc (s.data.toList.take k) s[k]
    have e2:=Sm.hi_snoc (s.data.toList.take k) s[k]
    rw[←hts] at e1 e2
    have H1:=hid e1
    have H2:=hid e2
    clear e1 e2 hts
    generalize Sm.lo (s.data.toList.take k)=A at *
    generalize Sm.hi (s.data.toList.take k)=B at *
    have hb:=s[k].toNat_lt
    go_wp2
    go_round
    case rel=>exact⟨k+1,by omega,by go_num,by rw[H1.out],by rw[H2.out];congr 1;omega⟩
    case measure=>simp[intOf];omega
  · have hall:=take_all s k (by omega)
    have hf:Sm.adler s.data.toList=Sm.hi s.data.toList*65536+Sm.lo s.data.toList:=rfl
    rw[hall] at r1 r2 ⊢
    have Hf:=hid hf
    clear hf hall
    go_wp2
    go_ret
    exact⟨ret_int (by rw[Hf.out];omega),Q.refl _⟩
theorem add_any (c a b:Int)(w:World)(h0:0≤a)(h1:a<65521)(h2:0≤b)(h3:b<65521)(h4:0≤c)(h5:c<256) :
  Calls Tryz.prog 132 #[.int .u8 c,.pointer (some ⟨w.heap.size,0,none⟩)] (w.alloc (.cells #[.int .u64 a,.int .u64 b] 199)) fun e w'=>e=.returned (.tuple #[])∧w.alloc (.cells #[.int .u64 ((a+c) % 65521),.int .u64 ((b+(a+c)) % 65521)] 199)=w':=by
 go_enter Tryz.func132,Tryz.ntmps132
 go_wp2
 go_end0
 exact⟨rfl,rfl⟩
theorem of_any (s:ByteArray)(w:World)(hs:s.size≤maxLen) :
  Calls Tryz.prog 83 #[.string s] w fun e w'=>e=.returned (.int .u32 (Sm.adler s.data.toList))∧Q w w':=by
 unfold maxLen at hs
 go_enter Tryz.func83,Tryz.ntmps83
 go_wp2
 go_loopw [10] (fun i wr=>∃ k:Nat,k≤s.size∧i=.int .i64 k∧w.alloc (.cells #[.int .u64 (Sm.lo (s.data.toList.take k)),.int .u64 (Sm.hi (s.data.toList.take k))] 199)=wr) (fun i _=>s.size - (intOf i).toNat)
 case atStart=>exact⟨0,Nat.zero_le _,rfl,rfl⟩
 case round =>
  obtain⟨k,hk,rfl,rfl⟩:=hrel
  have r1:=Sm.lo_range (s.data.toList.take k)
  have r2:=Sm.hi_range (s.data.toList.take k)
  by_cases hlt:k<s.size
  · have hts:=take_snoc s k hlt
    have e1:=Sm.lo_snoc (s.data.toList.take k) s[k]
    have e2:=Sm.hi_snoc (s.data.toList.take k) s[k]
    rw[←hts] at e1 e2
    have H1:=hid e1
    have H2:=hid e2
    clear e1 e2 hts
    generalize Sm.lo (s.data.toList.take k)=A at *
    generalize Sm.hi (s.data.toList.take k)=B at *
    have hb:=s[k].toNat_lt
    go_wp2_with (go_at_call 132;refine(add_any _ _ _ _ (by omega) (by omega) (by omega) (by omega) (by omega) (by omega)).mono ?_;rintro e w' ⟨rfl,rfl⟩)
    go_roundw
    case rel=>exact⟨k+1,by omega,by go_num,by rw[H1.out,H2.out]⟩
    case measure=>simp[intOf];omega
  · have hall:=take_all s k (by omega)
    rw[hall] at r1 r2 ⊢
    clear hall
    have hf:Sm.adler s.data.toList=Sm.hi s.data.toList*65536+Sm.lo s.data.toList:=rfl
    have Hf:=hid hf
    clear hf
    go_wp2_with (go_at_call 133;refine(whole_any _ _ _ (by omega) (by omega) (by omega) (by omega)).mono ?_;rintro e w' ⟨rfl,hq⟩)
    go_ret
    exact⟨ret_int (by rw[Hf.out]),((Q.refl _).alloc _).trans hq⟩
end
section
open Go.RowKit
theorem Blk.cell_new (w:World)(cs:Array Value)(t:TypeId)(i:Nat):(w.alloc (.cells cs t)).cell? ⟨w.heap.size,i,none⟩=cs[i]?:=
 cell_of_row (w.alloc (.cells cs t)) w.heap.size i cs t (0,0) (heap_alloc_new w _)
theorem conv_row (W:World)(b o n cap:Nat)(l:List UInt8)(hn:l.length=n)(hc:∀ k (h:k<l.length),W.cell? ⟨b,o+k,none⟩=some (.int .u8 (l[k].toNat:Int))) :
  (convert 150 9 (.slice (some ⟨b,o,none⟩) n cap)).run Tryz.prog W=.ok (.string ⟨l.toArray⟩) W:=by
 subst hn
 refine run_convert_bytes_back W 150 9 5 ⟨b,o,none⟩ cap l Tryz.underlying150 Tryz.underlying5 Tryz.underlying9 (fun j hj=>?_)
 have e:(⟨b,o,none⟩:Addr).add j=⟨b,o+j,none⟩:=by
  unfold Addr.add
  by_cases hz:j=0
  · subst hz;rfl
  · rw[if_neg hz]
 rw[e];exact hc j hj
theorem app_list (l:List UInt8)(s:ByteArray):(⟨l.toArray⟩:ByteArray)++s=⟨(l++s.data.toList).toArray⟩:=by
 apply ByteArray.ext
 rw[ByteArray.data_append]
 simp
theorem app_lists (l m:List UInt8):(⟨l.toArray⟩:ByteArray)++⟨m.toArray⟩=⟨(l++m).toArray⟩:=by rw[app_list]
theorem ret_str {a b:ByteArray}(h:a=b):Ending.returned (.string a)=.returned (.string b):=by rw[h]
theorem str_eq {a b:ByteArray}(h:a=b):Value.string a=.string b:=by rw[h]
theorem size_list (s:ByteArray):s.data.toList.length=s.size:=by simp
end
end Go.Proofs.YtccoknaaofmbcaaGreatDoor
namespace Go.Proofs.YtccoknaaofmbcaaGreatDoor.Dm
def digit (n:Nat):UInt8:=UInt8.ofNat (48+n)
def dg (v:Nat):List UInt8:=if v<10 then [digit v] else dg (v / 10)++[digit (v % 10)]
def dgz (v:Nat):List UInt8:=if v=0 then [] else dg v
def num (v:Nat):List UInt8:=dg v++[59]
theorem digit_toNat (n:Nat)(h:n<10):(digit n).toNat=48+n:=by
 unfold digit;simp only[UInt8.toNat_ofNat'];omega
theorem dg_split (v:Nat):dg v=dgz (v / 10)++[digit (v % 10)]:=by
 rw[dg]
 by_cases h:v<10
 · rw[if_pos h];unfold dgz;rw[if_pos (by omega)]
   rw[show v % 10=v from by omega];rfl
 · rw[if_neg h];unfold dgz;rw[if_neg (by omega)]
theorem dgz_pos (v:Nat)(h:v≠0):dgz v=dg v:=by unfold dgz;rw[if_neg h]
theorem dgz_zero:dgz 0=[]:=rfl
theorem dg_ne (v:Nat):dg v≠[]:=by rw[dg_split];simp
theorem dg_pos (v:Nat):1≤(dg v).length:=by rw[dg_split];simp
def isD (c:UInt8):Bool:=48≤c.toNat&&c.toNat≤57
def dv (c:UInt8):Nat:=c.toNat - 48
def val (l:List UInt8):Nat:=l.foldl (fun v c=>10*v+dv c) 0
theorem val_snoc (l:List UInt8)(c:UInt8):val (l++[c])=10*val l+dv c:=by simp[val]
theorem dv_digit (n:Nat)(h:n<10):dv (digit n)=n:=by unfold dv;rw[digit_toNat n h];omega
theorem isD_digit (n:Nat)(h:n<10):isD (digit n)=true:=by unfold isD;rw[digit_toNat n h];simp;omega
theorem isD_iff (c:UInt8):isD c=true↔48≤c.toNat∧c.toNat≤57:=by simp[isD]
theorem val_dg (v:Nat):val (dg v)=v:=by
 induction v using Nat.strongRecOn with
 | _ v ih =>
   rw[dg]
   by_cases h:v<10
   · rw[if_pos h];simp[val,dv_digit v h]
   · rw[if_neg h,val_snoc,ih (v / 10) (by omega),dv_digit _ (by omega)];omega
theorem all_dg (v:Nat):∀ c∈dg v,isD c=true:=by
 induction v using Nat.strongRecOn with
 | _ v ih =>
   rw[dg]
   by_cases h:v<10
   · rw[if_pos h];intro c hc;simp at hc;subst hc;exact isD_digit v h
   · rw[if_neg h];intro c hc
     rcases List.mem_append.1 hc with hc | hc
     · exact ih (v / 10) (by omega) c hc
     · simp at hc;subst hc;exact isD_digit _ (by omega)
theorem head_dg (v:Nat)(h:10≤v):∀ c r,dg v=c :: r→c.toNat≠48:=by
 induction v using Nat.strongRecOn with
 | _ v ih =>
   intro c r e
   rw[dg,if_neg (by omega)] at e
   by_cases h2:v / 10<10
   · rw[dg,if_pos h2] at e
     simp at e
     rw[←e.1,digit_toNat _ h2];omega
   · obtain⟨c',r',e'⟩:∃ c' r',dg (v / 10)=c' :: r':=by
       cases hd:dg (v / 10) with
       | nil=>exact absurd hd (dg_ne _)
       | cons a b=>exact⟨a,b,rfl⟩
     rw[e'] at e
     simp at e
     rw[←e.1]
     exact ih (v / 10) (by omega) (by omega) c' r' e'
theorem dg_length_lt (j:Nat):∀ v,v<10 ^ j→1≤j→(dg v).length≤j:=by
 induction j with
 | zero=>intro v h h1;omega
 | succ j ih =>
   intro v h _
   rw[dg]
   by_cases h2:v<10
   · rw[if_pos h2];simp
   · rw[if_neg h2]
     rw[Nat.pow_succ] at h
     have hj:1≤j:=by
      rcases Nat.eq_zero_or_pos j with e | e
      · subst e;simp at h;omega
      · exact e
     have:=ih (v / 10) (by omega) hj
     simp;omega
theorem num_length (v:Nat)(h:v<18446744073709551616):(num v).length≤21:=by
 have:=dg_length_lt 20 v (by omega) (by omega)
 unfold num;simp;omega
end Go.Proofs.YtccoknaaofmbcaaGreatDoor.Dm
namespace Go.Proofs.YtccoknaaofmbcaaGreatDoor
section
open Go.RowKit
theorem slice21 (W:World)(b j:Nat)(h0:1≤j)(h1:j≤20) :
  (Instr.sliceAt 151 (.pointer (some ⟨b,0,none⟩)) (some (.int .i64 ((j:Int) - 1))) none none).run Tryz.prog W=.ok (.slice (some ⟨b,j - 1,none⟩) (22 - j) (22 - j)) W:=by
 have hl:Tryz.prog.arrayLen 151 = 21:=by kernel_rfl
 have he:Tryz.prog.elem 151 = 5 := by kernel_rfl
 have hs:(sizeOf 5).run Tryz.prog W=.ok 1 W:=by kernel_rfl
 rw[run_sliceAt_array_l W 151 _ (by rw[hl,he];exact Tryz.underlying151) .i64 _ (by omega) (by rw[hl];omega),he,hs,hl]
 have e:((j:Int) - 1).toNat=j - 1:=by omega
 simp only[Result.andThen,slicedAt,e]
 rw[if_neg (by omega),show 21 - (j - 1)=22 - j from by omega]
 unfold Addr.add
 by_cases hz:(j - 1)*1=0
 · rw[if_pos hz,show j - 1=0 from by omega]
 · rw[if_neg hz];simp
theorem row_more (cs:Array Value)(j m:Nat)(t:List UInt8)(h1:1≤j)(h2:j≤20)(h3:cs.size=21)(h4:t.length=21 - j)
  (h8:∀ k (h:k<t.length),cs[j+k]? = some (.int .u8 (t[k].toNat:Int))) :
  ∀ k (h:k<(Dm.digit (m % 10) :: t).length),(cs.setIfInBounds (j - 1) (.int .u8 (48+(m:Int) % 10)))[j - 1+k]? = some (.int .u8 ((Dm.digit (m % 10) :: t)[k].toNat:Int)):=by
 intro k h
 cases k with
 | zero =>
   have e:((Dm.digit (m % 10)).toNat:Int)=48+(m:Int) % 10:=by rw[Dm.digit_toNat _ (by omega)];omega
   simp only[Nat.add_zero,List.getElem_cons_zero,e]
   rw[Array.getElem?_setIfInBounds_self_of_lt (by omega)]
 | succ k =>
   simp only[List.getElem_cons_succ]
   rw[Array.getElem?_setIfInBounds_ne (by omega),←h8 k (by simpa using h)]
   congr 1;omega
theorem num_nat (v:Nat)(w:World)(h0:v<18446744073709551616) :
  Calls Tryz.prog 45 #[.int .u64 v] w fun e w'=>e=.returned (.string ⟨(Dm.num v).toArray⟩)∧Q w w':=by
 go_enter Tryz.func45,Tryz.ntmps45
 go_wp2
 go_loopw [0,4] (fun u i wr=>∃ (m j:Nat) (t:List UInt8) (cs:Array Value),u=.int .u64 m∧i=.int .i64 j∧w.alloc (.cells cs 151)=wr∧1≤j∧j≤20∧cs.size=21∧t.length=21 - j∧m<10 ^ j∧m<18446744073709551616∧Dm.num v=Dm.dg m++t∧∀ k (h:k<t.length),cs[j+k]? = some (.int .u8 (t[k].toNat:Int))) (fun u _ _=>(intOf u).toNat)
 case atStart=>exact⟨v,20,[59],_,rfl,rfl,rfl,by omega,by omega,rfl,rfl,by omega,h0,rfl,by intro k h;simp at h;subst h;rfl⟩
 case round =>
  obtain⟨m,j,t,cs,rfl,rfl,rfl,h1,h2,h3,h4,h5,h6,h7,h8⟩:=hrel
  have hr:=row_more cs j m t h1 h2 h3 h4 h8
  obtain⟨x,hx⟩:∃ x,cs[j - 1]? = some x:=⟨_,Array.getElem?_eq_getElem (by omega)⟩
  have hsl:=fun W:World=>slice21 W w.heap.size j h1 h2
  have hsp:=Dm.dg_split m
  have H3:=hid h3
  have H4:=hid h4
  have H5:=hid h5
  have H7:=hid h7
  have HR:=hid hr
  have HS:=hid hsp
  clear h3 h4 h5 h7 h8 hr hsp
  by_cases hz:m / 10=0
  · have hb:((m:Int) / 10 == 0)=true:=by simp;omega
    have hcv:=conv_row (w.alloc (.cells (cs.setIfInBounds (j - 1) (.int .u8 (48+(m:Int) % 10))) 151)) w.heap.size (j - 1) (22 - j) (22 - j) (Dm.digit (m % 10) :: t) (by simp[H4.out];omega) (by
     intro k h
     rw[←HR.out k h]
     exact Blk.cell_new _ _ _ _)
    have hfin:Dm.num v=Dm.digit (m % 10) :: t:=by rw[H7.out,HS.out,hz];simp[Dm.dgz_zero]
    rw[←hfin] at hcv
    have HF:=hid hfin
    have HZ:=hid hz
    clear hfin hz
    go_wp2
    go_ret
    exact⟨rfl,(Q.refl _).alloc _⟩
  · have hb:((m:Int) / 10 == 0)=false:=by simp;omega
    have HZ:=hid hz
    clear hz
    go_wp2
    have h5:=H5.out
    have hz:=HZ.out
    obtain⟨j,rfl⟩:∃ j',j=j' + 1:=⟨j - 1,by omega⟩
    rw[Nat.pow_succ] at h5
    have hj:1≤j:=by
     rcases Nat.eq_zero_or_pos j with e | e
     · subst e;simp at h5;omega
     · exact e
    go_roundw
    case rel=>exact⟨m / 10,j,Dm.digit (m % 10) :: t,_,by go_num,by go_num,rfl,hj,by omega,by simpa using H3.out,by simp[H4.out];omega,by omega,by omega,by rw[H7.out,HS.out,Dm.dgz_pos _ hz];simp,HR.out⟩
    case measure=>simp[intOf];omega
theorem conv_one (W:World)(m:Nat):(convert 150 9 (.slice (some ⟨W.heap.size,0,none⟩) 1 1)).run Tryz.prog (W.alloc (.cells #[.int .u8 (48+(m:Int) % 10)] 5))=.ok (.string ⟨[Dm.digit (m % 10)].toArray⟩) (W.alloc (.cells #[.int .u8 (48+(m:Int) % 10)] 5)):=by
 refine conv_row _ _ _ _ _ [Dm.digit (m % 10)] rfl (fun k h=>?_)
 have hk:k=0:=by simpa using h
 subst hk
 have e:((Dm.digit (m % 10)).toNat:Int)=48+(m:Int) % 10:=by rw[Dm.digit_toNat _ (by omega)];omega
 rw[Nat.add_zero,Blk.cell_new]
 simp only[List.getElem_cons_zero,e]
 rfl
theorem refNum_nat (v:Nat)(w:World)(h0:v<18446744073709551616) :
  Calls Tryz.prog 43 #[.int .u64 v] w fun e w'=>e=.returned (.string ⟨(Dm.num v).toArray⟩)∧Q w w':=by
 have hcv:=conv_one
 go_enter Tryz.func43,Tryz.ntmps43
 go_wp2
 go_loopw [0,3] (fun u s wr=>∃ (m:Nat) (t:List UInt8),u=.int .u64 m∧s=.string ⟨t.toArray⟩∧Q w wr∧m<18446744073709551616∧Dm.num v=Dm.dgz m++t) (fun u _ _=>(intOf u).toNat)
 case atStart=>exact⟨v / 10,[Dm.digit (v % 10),59],by go_num,rfl,(Q.refl _).alloc _,by omega,by unfold Dm.num;rw[Dm.dg_split];simp⟩
 case round =>
  obtain⟨m,t,rfl,rfl,hq,h1,h2⟩:=hrel
  have hsp:=Dm.dg_split m
  have hl:t.length≤21:=by
   have a:=Dm.num_length v h0
   rw[h2,List.length_append] at a;omega
  have HS:=hid hsp
  have H2:=hid h2
  clear hsp h2
  by_cases hz:0<m
  · go_wp2
    go_roundw
    case rel=>exact⟨m / 10,Dm.digit (m % 10) :: t,by go_num,str_eq (app_lists _ _),hq.alloc _,by omega,by rw[H2.out,Dm.dgz_pos _ (by omega),HS.out];simp⟩
    case measure=>simp[intOf];omega
  · have e:m=0:=by omega
    subst e
    have hf:Dm.num v=t:=by rw[H2.out];rfl
    have HF:=hid hf
    clear hf
    go_wp2
    go_ret
    exact⟨by rw[HF.out];rfl,hq⟩
theorem num_any (a:Int)(w:World)(h0:0≤a)(h1:a<18446744073709551616) :
  Calls Tryz.prog 45 #[.int .u64 a] w fun e w'=>e=.returned (.string ⟨(Dm.num a.toNat).toArray⟩)∧Q w w':=by
 obtain⟨n,rfl⟩:=Int.eq_ofNat_of_zero_le h0
 exact num_nat n w (by omega)
theorem refNum_any (a:Int)(w:World)(h0:0≤a)(h1:a<18446744073709551616) :
  Calls Tryz.prog 43 #[.int .u64 a] w fun e w'=>e=.returned (.string ⟨(Dm.num a.toNat).toArray⟩)∧Q w w':=by
 obtain⟨n,rfl⟩:=Int.eq_ofNat_of_zero_le h0
 exact refNum_nat n w (by omega)
theorem text_any (s:ByteArray)(w:World)(hs:s.size≤4611686018427387904) :
  Calls Tryz.prog 87 #[.string s] w fun e w'=>e=.returned (.string ⟨(Dm.num s.size++s.data.toList).toArray⟩)∧Q w w':=by
 have hn:=Dm.num_length s.size (by omega)
 go_enter Tryz.func87,Tryz.ntmps87
 go_wp2_with fail
 refine(num_any _ _ (by omega) (by omega)).mono ?_
 rintro e w1 ⟨rfl,q1⟩
 go_wp2_with fail
 go_ret
 exact⟨ret_str (app_list _ _),q1⟩
theorem refText_any (s:ByteArray)(w:World)(hs:s.size≤4611686018427387904) :
  Calls Tryz.prog 88 #[.string s] w fun e w'=>e=.returned (.string ⟨(Dm.num s.size++s.data.toList).toArray⟩)∧Q w w':=by
 have hn:=Dm.num_length s.size (by omega)
 go_enter Tryz.func88,Tryz.ntmps88
 go_wp2_with fail
 refine(refNum_any _ _ (by omega) (by omega)).mono ?_
 rintro e w1 ⟨rfl,q1⟩
 go_wp2_with fail
 go_ret
 exact⟨ret_str (app_list _ _),q1⟩
end
section
open Go.RowKit
def sld (l:List UInt8):List UInt8:=Dm.num l.length++l++Dm.num (Sm.adler l).toNat
theorem sld_length (l:List UInt8)(h:l.length≤4611686018427387904):(sld l).length≤l.length+42:=by
 have h1:=Dm.num_length l.length (by omega)
 have h2:=Sm.adler_range l
 have h3:=Dm.num_length (Sm.adler l).toNat (by omega)
 unfold sld;simp only[List.length_append];omega
theorem seal_any (s:ByteArray)(w:World)(hs:s.size≤4611686018427387800) :
  Calls Tryz.prog 44 #[.string s] w fun e w'=>e=.returned (.string ⟨(sld s.data.toList).toArray⟩)∧Q w w':=by
 have h2:=Sm.adler_range s.data.toList
 have h1:=Dm.num_length s.size (by omega)
 have h3:=Dm.num_length (Sm.adler s.data.toList).toNat (by omega)
 go_enter Tryz.func44,Tryz.ntmps44
 go_wp2_with fail
 refine(text_any _ _ (by omega)).mono ?_
 rintro e w1 ⟨rfl,q1⟩
 go_wp2_with fail
 refine(of_any _ _ (by unfold maxLen;omega)).mono ?_
 rintro e w2 ⟨rfl,q2⟩
 go_wp2_with fail
 refine(num_any _ _ (by omega) (by omega)).mono ?_
 rintro e w3 ⟨rfl,q3⟩
 go_wp2_with fail
 go_ret
 exact⟨ret_str (by unfold sld;rw[size_list];exact app_lists _ _),q1.trans (q2.trans q3)⟩
theorem refSeal_any (s:ByteArray)(w:World)(hs:s.size≤4611686018427387800) :
  Calls Tryz.prog 46 #[.string s] w fun e w'=>e=.returned (.string ⟨(sld s.data.toList).toArray⟩)∧Q w w':=by
 have h2:=Sm.adler_range s.data.toList
 have h1:=Dm.num_length s.size (by omega)
 have h3:=Dm.num_length (Sm.adler s.data.toList).toNat (by omega)
 go_enter Tryz.func46,Tryz.ntmps46
 go_wp2_with fail
 refine(refText_any _ _ (by omega)).mono ?_
 rintro e w1 ⟨rfl,q1⟩
 go_wp2_with fail
 refine(refOf_any _ _ (by unfold maxLen;omega)).mono ?_
 rintro e w2 ⟨rfl,q2⟩
 go_wp2_with fail
 refine(refNum_any _ _ (by omega) (by omega)).mono ?_
 rintro e w3 ⟨rfl,q3⟩
 go_wp2_with fail
 go_ret
 exact⟨ret_str (by unfold sld;rw[size_list];exact app_lists _ _),q1.trans (q2.trans q3)⟩
end
end Go.Proofs.YtccoknaaofmbcaaGreatDoor
namespace Go.Proofs.YtccoknaaofmbcaaGreatDoor.Dm
def maxU:Nat:=18446744073709551615
def figs (l:List UInt8):List UInt8:=l.takeWhile isD
def rest (l:List UInt8):List UInt8:=l.dropWhile isD
def bad (l:List UInt8):Bool:=(decide (1<(figs l).length)&&l.head? == some 48)||decide (maxU<val (figs l))
def tnum (l:List UInt8):Nat×List UInt8×Nat:=
 if bad l=true then (0,[],3)
 else if rest l=[] then (0,[],2)
 else if (rest l).head? ≠ some 59∨figs l=[] then (0,[],3)
 else (val (figs l),(rest l).tail,0)
theorem figs_rest (l:List UInt8):figs l++rest l=l:=List.takeWhile_append_dropWhile
theorem figs_len (l:List UInt8):(figs l).length≤l.length:=by
 have:=congrArg List.length (figs_rest l)
 rw[List.length_append] at this;omega
theorem rest_eq (l:List UInt8):rest l=l.drop (figs l).length:=by
 have h:=List.drop_left (l₁:=figs l) (l₂:=rest l)
 rw[figs_rest] at h;exact h.symm
theorem figs_eq (l:List UInt8):figs l=l.take (figs l).length:=by
 have h:=List.take_left (l₁:=figs l) (l₂:=rest l)
 rw[figs_rest] at h;exact h.symm
theorem figs_all (l:List UInt8):∀ c∈figs l,isD c=true:=List.all_eq_true.1 List.all_takeWhile
theorem figs_of (l:List UInt8)(n:Nat)(h1:n≤l.length)(h2:∀ i (h:i<n),isD (l[i]'(by omega))=true)(h3:n=l.length∨∃ h:n<l.length,isD l[n]=false) :
    figs l=l.take n:=by
  induction l generalizing n with
  | nil=>simp[figs]
  | cons c l ih =>
    cases n with
    | zero =>
      rcases h3 with h3 | ⟨_,h3⟩
      · simp at h3
      · simp at h3;simp[figs,h3]
    | succ n =>
      have hc:isD c=true:=h2 0 (by omega)
      have:=ih n (by simpa using h1) (fun i h=>by have:=h2 (i+1) (by omega);simpa using this) (by
       rcases h3 with h3 | ⟨a,h3⟩
       · left;simpa using h3
       · right;exact⟨by simpa using a,by simpa using h3⟩)
      unfold figs at this ⊢
      rw[List.takeWhile_cons,if_pos hc,this];simp
theorem val_foldl (l:List UInt8):∀ a:Nat,l.foldl (fun v c=>10*v+dv c) a=a*10 ^ l.length+val l:=by
 induction l with
 | nil=>intro a;simp[val]
 | cons c l ih =>
   intro a
   simp only[List.foldl_cons,val,List.length_cons]
   rw[ih,ih (10*0+dv c),Nat.pow_succ]
   grind
theorem val_append (a b:List UInt8):val (a++b)=val a*10 ^ b.length+val b:=by
 show (a++b).foldl _ 0=_
 rw[List.foldl_append,val_foldl];rfl
theorem val_le_append (a b:List UInt8):val a≤val (a++b):=by
 rw[val_append]
 have h1:1≤10 ^ b.length:=Nat.pow_pos (by omega)
 have h2:val a*1≤val a*10 ^ b.length:=Nat.mul_le_mul_left _ h1
 omega
theorem val_cons (c:UInt8)(l:List UInt8):val (c :: l)=dv c*10 ^ l.length+val l:=by
 show l.foldl _ (10*0+dv c)=_
 rw[val_foldl];simp
theorem val_big (l:List UInt8)(c:UInt8)(r:List UInt8)(e:l=c :: r)(hc:isD c=true)(h0:c.toNat≠48)(hl:20<l.length):maxU<val l:=by
 subst e
 rw[val_cons]
 have h1:1≤dv c:=by rw[isD_iff] at hc;unfold dv;omega
 have h2:10 ^ 20≤10 ^ r.length:=Nat.pow_le_pow_right (by omega) (by simp at hl;omega)
 have h3:1*10 ^ r.length≤dv c*10 ^ r.length:=Nat.mul_le_mul_right _ h1
 unfold maxU
 omega
def ttext (l:List UInt8)(most:Int):List UInt8×List UInt8×Nat:=
 if (tnum l).2.2≠0 then ([],[],(tnum l).2.2)
 else if most<0∨most<((tnum l).1:Int) then ([],[],4)
 else if (tnum l).2.1.length<(tnum l).1 then ([],[],2)
 else ((tnum l).2.1.take (tnum l).1,(tnum l).2.1.drop (tnum l).1,0)
theorem tnum_len (l:List UInt8):(tnum l).2.1.length≤l.length:=by
 have h:=congrArg List.length (figs_rest l)
 rw[List.length_append] at h
 unfold tnum
 split
 · simp
 · split
   · simp
   · split
     · simp
     · simp;omega
theorem tnum_le (l:List UInt8):(tnum l).1≤maxU:=by
 unfold tnum
 split
 · simp
 · rename_i hb
   split
   · simp
   · split
     · simp
     · simp only[bad,Bool.or_eq_true,Bool.and_eq_true,decide_eq_true_eq,not_or] at hb
       simp only;omega
theorem tnum_err (l:List UInt8):(tnum l).2.2=0∨(tnum l).2.2=2∨(tnum l).2.2=3:=by
 unfold tnum
 split
 · simp
 · split
   · simp
   · split<;>simp
theorem figs_num (v:Nat)(r:List UInt8):figs (num v++r)=dg v∧rest (num v++r)=59 :: r:=by
 have h59:isD 59=false:=by decide
 have e:num v++r=dg v++59 :: r:=by simp[num]
 have h1:figs (num v++r)=dg v:=by
  rw[e];unfold figs
  rw[List.takeWhile_append_of_pos (all_dg v)]
  simp[h59]
 refine⟨h1,?_⟩
 rw[rest_eq,h1,e];simp
theorem head_num (v:Nat)(h:1<(dg v).length):∀ r,(dg v++r).head? ≠ some 48:=by
 intro r
 have hv:10≤v:=by
  rcases Nat.lt_or_ge v 10 with a | a
  · rw[dg,if_pos a] at h;simp at h
  · exact a
 cases hd:dg v with
 | nil=>exact absurd hd (dg_ne v)
 | cons c t =>
   have:=head_dg v hv c t hd
   simp
   intro e;subst e;exact this (by decide)
theorem tnum_num (v:Nat)(r:List UInt8)(hv:v≤maxU):tnum (num v++r)=(v,r,0):=by
 obtain⟨h1,h2⟩:=figs_num v r
 have hb:bad (num v++r)=false:=by
  unfold bad
  rw[h1,val_dg]
  by_cases hl:1<(dg v).length
  · have:=head_num v hl (59 :: r)
    rw[show num v++r=dg v++59 :: r from by simp[num],beq_eq_false_iff_ne.2 this]
    simp;omega
  · rw[decide_eq_false hl];simp;omega
 unfold tnum
 rw[hb,h1,h2,val_dg]
 simp[dg_ne v]
theorem ttext_text (s r:List UInt8)(most:Int)(h:s.length≤maxU)(hm:(s.length:Int)≤most):ttext (num s.length++(s++r)) most=(s,r,0):=by
 unfold ttext
 rw[tnum_num _ _ h]
 simp only[List.length_append]
 rw[if_neg (by simp),if_neg (by omega),if_neg (by omega)]
 simp
theorem figs_ge (l:List UInt8)(m:Nat)(h1:m≤l.length)(h2:∀ i (h:i<m),isD (l[i]'(by omega))=true):∃ t,figs l=l.take m++t:=by
 have hall:∀ c∈l.take m,isD c=true:=by
  intro c hc
  obtain⟨i,hi,rfl⟩:=List.mem_iff_getElem.1 hc
  rw[List.length_take] at hi
  rw[List.getElem_take]
  exact h2 i (by omega)
 refine⟨(l.drop m).takeWhile isD,?_⟩
 unfold figs
 conv=>lhs;rw[←List.take_append_drop m l]
 rw[List.takeWhile_append_of_pos hall]
theorem bad_zero (l:List UInt8)(k:Nat)(h0:0<k)(h1:k<l.length)(h2:∀ i (h:i<k+1),isD (l[i]'(by omega))=true)(h3:l.head? = some 48):bad l=true:=by
 obtain⟨t,ht⟩:=figs_ge l (k+1) h1 h2
 have hl:1<(figs l).length:=by rw[ht,List.length_append,List.length_take];omega
 unfold bad;rw[decide_eq_true hl,h3];rfl
theorem bad_big (l:List UInt8)(k:Nat)(h1:k<l.length)(h2:∀ i (h:i<k+1),isD (l[i]'(by omega))=true)(h3:maxU<val (l.take (k+1))):bad l=true:=by
 obtain⟨t,ht⟩:=figs_ge l (k+1) h1 h2
 have hv:maxU<val (figs l):=by rw[ht];exact Nat.lt_of_lt_of_le h3 (val_le_append _ _)
 unfold bad;rw[decide_eq_true hv,Bool.or_true]
theorem bad_not (l:List UInt8)(k:Nat)(e:figs l=l.take k)(hk:k≤l.length)(h1:1<k→l.head? ≠ some 48)(h2:val (l.take k)≤maxU):bad l=false:=by
 unfold bad
 rw[e,decide_eq_false (show ¬ maxU<val (l.take k) by omega),Bool.or_false,List.length_take,Nat.min_eq_left hk]
 by_cases h:1<k
 · rw[beq_eq_false_iff_ne.2 (h1 h),Bool.and_false]
 · rw[decide_eq_false h,Bool.false_and]
end Go.Proofs.YtccoknaaofmbcaaGreatDoor.Dm
namespace Go.Proofs.YtccoknaaofmbcaaGreatDoor
section
open Go.RowKit
theorem take_snoc' (s:ByteArray)(k:Nat)(h:k<s.size):s.data.toList.take (k+1)=s.data.toList.take k++[s[k]]:=by
 rw[List.take_succ_eq_append_getElem (by simpa using h)];rfl
theorem get_list (s:ByteArray)(k:Nat)(h:k<s.data.toList.length):s.data.toList[k]=s[k]'(by rw[←size_list];exact h):=rfl
theorem head_list (s:ByteArray)(h:0<s.size):s.data.toList.head? = some s[0]:=by
 rw[List.head?_eq_getElem?,List.getElem?_eq_getElem (by rw[size_list];exact h)];rfl
def figV (l:List UInt8):Value:=if Dm.bad l=true then .tuple #[.int .u64 0,.int .i64 0,.bool false] else .tuple #[.int .u64 (Dm.val (Dm.figs l)),.int .i64 ((Dm.figs l).length:Int),.bool true]
theorem figV_end (l:List UInt8)(k:Nat)(hk:k≤l.length)(hd:∀ i (h:i<k) (h':i<l.length),Dm.isD l[i]=true)(h3:k=l.length∨∃ h:k<l.length,Dm.isD l[k]=false)
  (hv:Dm.val (l.take k)≤Dm.maxU) (hz:1<k→l.head? ≠ some 48):figV l=.tuple #[.int .u64 (Dm.val (l.take k)),.int .i64 (k:Int),.bool true]:=by
 have e:=Dm.figs_of l k hk (fun i h=>hd i h (by omega)) h3
 have hb:=Dm.bad_not l k e hk hz hv
 unfold figV
 rw[hb,e,if_neg (by simp),List.length_take,Nat.min_eq_left hk]
theorem figV_bad (l:List UInt8)(h:Dm.bad l=true):figV l=.tuple #[.int .u64 0,.int .i64 0,.bool false]:=by unfold figV;rw[if_pos h]
theorem figures_any (s:ByteArray)(w:World)(hs:s.size≤maxLen) :
  Calls Tryz.prog 84 #[.string s] w fun e w'=>e=.returned (figV s.data.toList)∧w=w':=by
 unfold maxLen at hs
 go_enter Tryz.func84,Tryz.ntmps84
 go_wp2
 go_step3
 go_wp2
 go_step3
 go_wp2
 go_loop [2,3] (fun v n=>∃ k:Nat,k≤s.size∧n=.int .i64 k∧v=.int .u64 (Dm.val (s.data.toList.take k))∧Dm.val (s.data.toList.take k)≤Dm.maxU∧(∀ i (h:i<k) (h':i<s.data.toList.length),Dm.isD s.data.toList[i]=true)∧(1<k→s.data.toList.head? ≠ some 48)) (fun _ n=>s.size - (intOf n).toNat)
 case atStart=>exact⟨0,Nat.zero_le _,rfl,rfl,Nat.zero_le _,fun i h=>absurd h (by omega),fun h=>absurd h (by omega)⟩
 case round =>
  obtain⟨k,hk,rfl,rfl,hv,hd,hz⟩:=hrel
  have HD:=hid hd
  have HZ:=hid hz
  clear hd hz
  have hv':Dm.val (s.data.toList.take k)≤18446744073709551615:=hv
  by_cases hlt:k<s.size
  · have hts:=take_snoc' s k hlt
    have e1:=Dm.val_snoc (s.data.toList.take k) s[k]
    rw[←hts] at e1
    have H1:=hid e1
    clear e1 hts hv
    generalize hA:Dm.val (s.data.toList.take k)=A at *
    have HA:=hid hA
    clear hA
    have hkl:k<s.data.toList.length:=by rw[size_list];exact hlt
    by_cases c0:s[k].toNat<48
    · have hfin:=figV_end s.data.toList k (by omega) HD.out (.inr ⟨hkl,by rw[get_list];unfold Dm.isD;rw[decide_eq_false (show ¬ 48≤s[k].toNat by omega)];rfl⟩) (by rw[HA.out];exact hv') HZ.out
      rw[HA.out] at hfin
      have HF:=hid hfin
      clear hfin
      go_wp2
      rw[HF.out]
      go_ret3
      exact⟨rfl,rfl⟩
    have c0':48≤s[k].toNat:=by omega
    clear c0
    by_cases c1:57<s[k].toNat
    · have hfin:=figV_end s.data.toList k (by omega) HD.out (.inr ⟨hkl,by rw[get_list];unfold Dm.isD;rw[decide_eq_false (show ¬ s[k].toNat≤57 by omega),Bool.and_false]⟩) (by rw[HA.out];exact hv') HZ.out
      rw[HA.out] at hfin
      have HF:=hid hfin
      clear hfin
      go_wp2
      rw[HF.out]
      go_ret3
      exact⟨rfl,rfl⟩
    have c1':s[k].toNat≤57:=by omega
    clear c1
    have hd':∀ i (h:i<k+1) (h':i<s.data.toList.length),Dm.isD s.data.toList[i]=true:=by
     intro i h h'
     rcases Nat.lt_or_ge i k with a | a
     · exact HD.out i a h'
     · obtain rfl:i=k:=by omega
       rw[get_list,Dm.isD_iff];omega
    have HD':=hid hd'
    clear hd'
    by_cases c2:0<k∧s[0].toNat=48
    · obtain⟨c2,c3⟩:=c2
      have hfin:=figV_bad s.data.toList (Dm.bad_zero s.data.toList k c2 hkl (fun i h=>HD'.out i h (by omega)) (by rw[head_list s (by omega)];congr 1;exact UInt8.toNat_inj.1 c3))
      have HF:=hid hfin
      have hb:((s[0].toNat:Int) == 48)=true:=by simp;omega
      clear hfin c3
      go_wp2
      (try rw[Exit.noGoto_ret])
      go_ret3
      exact⟨by rw[HF.out];rfl,rfl⟩
    have hdv:Dm.dv s[k]=s[k].toNat - 48:=rfl
    have HDV:=hid hdv
    clear hdv
    have C2:=hid c2
    clear c2
    by_cases c4:18446744073709551615<10*A+(s[k].toNat - 48)
    · have hfin:=figV_bad s.data.toList (Dm.bad_big s.data.toList k hkl (fun i h=>HD'.out i h (by omega)) (by rw[H1.out,HDV.out];exact c4))
      have HF:=hid hfin
      clear hfin
      have c4':(18446744073709551615 - ((s[k].toNat:Int) - 48)) / 10<(A:Int):=by omega
      clear c4
      by_cases c5:k=0
      · subst c5
        go_wp2
        (try rw[Exit.noGoto_ret])
        go_ret3
        exact⟨by rw[HF.out];rfl,rfl⟩
      · have c5':0<k:=by omega
        have hb:((s[0].toNat:Int) == 48)=false:=by
         have:=C2.out
         simp;omega
        clear c5
        go_wp2
        (try rw[Exit.noGoto_ret])
        go_ret3
        exact⟨by rw[HF.out];rfl,rfl⟩
    have c4':(A:Int)≤(18446744073709551615 - ((s[k].toNat:Int) - 48)) / 10:=by omega
    have c6:(A:Int)*10+((s[k].toNat:Int) - 48)≤18446744073709551615:=by omega
    have hnew:((10*A+(s[k].toNat - 48):Nat):Int)=(A:Int)*10+((s[k].toNat:Int) - 48):=by omega
    have HN:=hid hnew
    have C4:=hid c4
    clear c4 hnew
    by_cases c5:k=0
    · subst c5
      go_wp2
      go_round
      case rel=>exact⟨0+1,by omega,by go_num,by rw[H1.out,HDV.out,HN.out],by rw[H1.out,HDV.out];have:=C4.out;unfold Dm.maxU;omega,HD'.out,fun h=>absurd h (by omega)⟩
      case measure=>simp[intOf];omega
    · have c5':0<k:=by omega
      have hb:((s[0].toNat:Int) == 48)=false:=by
       have:=C2.out
       simp;omega
      clear c5
      have hh:1<k+1→s.data.toList.head? ≠ some 48:=by
       intro _ e
       rw[head_list s (by omega)] at e
       injection e with e
       have:=C2.out
       rw[e] at this
       exact this ⟨c5',by decide⟩
      have HH:=hid hh
      clear hh
      go_wp2
      go_round
      case rel=>exact⟨k+1,by omega,by go_num,by rw[H1.out,HDV.out,HN.out],by rw[H1.out,HDV.out];have:=C4.out;unfold Dm.maxU;omega,HD'.out,HH.out⟩
      case measure=>simp[intOf];omega
  · have hfin:=figV_end s.data.toList k (by rw[size_list];exact hk) HD.out (.inl (by rw[size_list];omega)) hv HZ.out
    have HF:=hid hfin
    clear hfin
    generalize Dm.val (s.data.toList.take k)=A at *
    go_wp2
    rw[HF.out]
    go_ret3
    exact⟨rfl,rfl⟩
end
section
open Go.RowKit
theorem extract_list (s:ByteArray)(a b:Nat):s.extract a b=⟨((s.data.toList.take b).drop a).toArray⟩:=by
 apply ByteArray.ext
 rw[ByteArray.data_extract]
 apply Array.ext'
 simp[List.extract_eq_take_drop,List.drop_take]
def tnR (r:Nat×List UInt8×Nat):Value:=.tuple #[.int .u64 (r.1:Int),.string ⟨r.2.1.toArray⟩,.int .i64 (r.2.2:Int)]
theorem takeNum_any (s:ByteArray)(w:World)(hs:s.size≤maxLen) :
  Calls Tryz.prog 39 #[.string s] w fun e w'=>e=.returned (tnR (Dm.tnum s.data.toList))∧Q w w':=by
 by_cases hb:Dm.bad s.data.toList=true
 · have hf:=figV_bad _ hb
   have ht:Dm.tnum s.data.toList=(0,[],3):=by unfold Dm.tnum;rw[if_pos hb]
   have HF:=hid hf
   have HT:=hid ht
   clear hf ht hb
   go_enter Tryz.func39,Tryz.ntmps39
   go_wp2_with fail
   refine(figures_any _ _ hs).mono ?_
   rintro e w1 ⟨rfl,rfl⟩
   rw[HF.out]
   go_wp2_with fail
   go_ret3
   exact⟨by rw[HT.out];rfl,Q.refl _⟩
 have hf:figV s.data.toList=.tuple #[.int .u64 (Dm.val (Dm.figs s.data.toList)),.int .i64 ((Dm.figs s.data.toList).length:Int),.bool true]:=by unfold figV;rw[if_neg hb]
 have hle:(Dm.figs s.data.toList).length≤s.size:=by have:=Dm.figs_len s.data.toList;rw[size_list] at this;exact this
 have hrest:=Dm.rest_eq s.data.toList
 have htn:Dm.tnum s.data.toList=if Dm.rest s.data.toList=[] then (0,[],2) else if (Dm.rest s.data.toList).head? ≠ some 59∨Dm.figs s.data.toList=[] then (0,[],3) else (Dm.val (Dm.figs s.data.toList),(Dm.rest s.data.toList).tail,0):=by
  unfold Dm.tnum;rw[if_neg hb]
 have HF:=hid hf
 have HR:=hid hrest
 have HT:=hid htn
 have hnil:Dm.figs s.data.toList=[]↔(Dm.figs s.data.toList).length=0:=List.length_eq_zero_iff.symm
 have HNIL:=hid hnil
 have hval:Dm.val (Dm.figs s.data.toList)≤18446744073709551615:=by
  have:Dm.bad s.data.toList=false:=by simpa using hb
  unfold Dm.bad at this
  simp only[Bool.or_eq_false_iff,decide_eq_false_iff_not] at this
  have h2:=this.2
  unfold Dm.maxU at h2;omega
 clear hf hrest htn hb hnil
 generalize hN:(Dm.figs s.data.toList).length=n at *
 generalize hV:Dm.val (Dm.figs s.data.toList)=v at *
 unfold maxLen at hs
 by_cases c0:n=s.size
 · have ht:Dm.tnum s.data.toList=(0,[],2):=by
     rw[HT.out,if_pos (by rw[HR.out];exact List.drop_of_length_le (by rw[size_list];omega))]
   have HT2:=hid ht
   have hbeq:((n:Int) == (s.size:Int))=true:=by simp;omega
   clear hN hV c0 ht
   go_enter Tryz.func39,Tryz.ntmps39
   go_wp2_with fail
   refine(figures_any _ _ (by unfold maxLen;omega)).mono ?_
   rintro e w1 ⟨rfl,rfl⟩
   rw[HF.out]
   go_wp2_with fail
   go_ret3
   exact⟨by rw[HT2.out];rfl,Q.refl _⟩
 have hlt:n<s.size:=by omega
 have hbeq:((n:Int) == (s.size:Int))=false:=by simp;omega
 have hrs:Dm.rest s.data.toList=s[n] :: s.data.toList.drop (n+1):=by
  rw[HR.out,List.drop_eq_getElem_cons (by rw[size_list];exact hlt)];rfl
 have HRS:=hid hrs
 clear hN hV c0 hrs
 by_cases c1:s[n].toNat=59
 · have h59:s[n]=59:=UInt8.toNat_inj.1 (by rw[c1];rfl)
   have hne:((s[n].toNat:Int) != 59)=false:=by simp;omega
   clear c1
   by_cases c2:n=0
   · have ht:Dm.tnum s.data.toList=(0,[],3):=by
       rw[HT.out,HRS.out,if_neg (by simp),if_pos (.inr (HNIL.out.2 c2))]
     have HT2:=hid ht
     have h0:((n:Int) == 0)=true:=by simp;omega
     clear ht c2 h59
     go_enter Tryz.func39,Tryz.ntmps39
     go_wp2_with fail
     refine(figures_any _ _ (by unfold maxLen;omega)).mono ?_
     rintro e w1 ⟨rfl,rfl⟩
     rw[HF.out]
     go_wp2_with fail
     go_ret3
     exact⟨by rw[HT2.out];rfl,Q.refl _⟩
   · have ht:Dm.tnum s.data.toList=(v,s.data.toList.drop (n+1),0):=by
       rw[HT.out,HRS.out,if_neg (by simp),if_neg (by rw[h59];simp;exact fun e=>c2 (HNIL.out.1 e))];rfl
     have HT2:=hid ht
     have h0:((n:Int) == 0)=false:=by simp;omega
     have he:=extract_list s (n+1) s.size
     rw[List.take_of_length_le (by rw[size_list];omega)] at he
     have HE:=hid he
     have e1:IntKind.i64.wrap ((n:Int)+1)=(n:Int)+1:=IntWalk.i64_in _ (by omega)
     have e2:0≤(n:Int)+1:=by omega
     have e3:((n:Int)+1).toNat=n+1:=by omega
     have e4:(n:Int)+1≤(s.size:Int):=by omega
     clear ht c2 h59 he
     go_enter Tryz.func39,Tryz.ntmps39
     go_wp2_with fail
     refine(figures_any _ _ (by unfold maxLen;omega)).mono ?_
     rintro e w1 ⟨rfl,rfl⟩
     rw[HF.out]
     go_wp2_with fail
     go_quiet (fail)
     go_wp2_with fail
     go_ret3
     refine⟨?_,(Q.refl _).drewN _⟩
     rw[HT2.out];unfold tnR
     simp only[←HE.out];rfl
 · have h59:s[n]≠59:=fun e=>c1 (by rw[e];rfl)
   have ht:Dm.tnum s.data.toList=(0,[],3):=by
    rw[HT.out,HRS.out,if_neg (by simp),if_pos (.inl (by simpa using h59))]
   have hne:((s[n].toNat:Int) != 59)=true:=by simp;omega
   have HT2:=hid ht
   clear ht c1 h59
   go_enter Tryz.func39,Tryz.ntmps39
   go_wp2_with fail
   refine(figures_any _ _ (by unfold maxLen;omega)).mono ?_
   rintro e w1 ⟨rfl,rfl⟩
   rw[HF.out]
   go_wp2_with fail
   go_ret3
   exact⟨by rw[HT2.out];rfl,Q.refl _⟩
theorem above_yes (v b:Int)(w:World)(h0:0≤v)(h1:v≤18446744073709551615)(h2:-9223372036854775808≤b)(h3:b≤9223372036854775807)(h:b<0∨b<v) :
  Calls Tryz.prog 131 #[.int .u64 v,.int .i64 b] w fun e w'=>e=.returned (.bool true)∧w=w':=by
 by_cases c:b<0
 · have d:decide (b<0)=true:=by simpa using c
   clear h
   go_enter Tryz.func131,Tryz.ntmps131
   go_wp2
   go_ret
   exact⟨rfl,rfl⟩
 · have c':0≤b:=by omega
   have d:decide (b<0)=false:=by simpa using c'
   have e:b<v:=by omega
   have d2:decide (b<v)=true:=by simpa using e
   clear h c
   go_enter Tryz.func131,Tryz.ntmps131
   go_wp2
   go_ret
   exact⟨rfl,rfl⟩
theorem above_no (v b:Int)(w:World)(h0:0≤v)(h1:v≤18446744073709551615)(h2:0≤b)(h3:b≤9223372036854775807)(h:v≤b) :
  Calls Tryz.prog 131 #[.int .u64 v,.int .i64 b] w fun e w'=>e=.returned (.bool false)∧w=w':=by
 have d:decide (b<0)=false:=by simpa using h2
 have d2:decide (b<v)=false:=by simpa using h
 go_enter Tryz.func131,Tryz.ntmps131
 go_wp2
 go_ret
 exact⟨rfl,rfl⟩
def ttR (r:List UInt8×List UInt8×Nat):Value:=.tuple #[.string ⟨r.1.toArray⟩,.string ⟨r.2.1.toArray⟩,.int .i64 (r.2.2:Int)]
theorem takeText_any (s:ByteArray)(most:Int)(w:World)(hs:s.size≤maxLen)(hm0:-9223372036854775808≤most)(hm1:most≤9223372036854775807) :
  Calls Tryz.prog 82 #[.string s,.int .i64 most] w fun e w'=>e=.returned (ttR (Dm.ttext s.data.toList most))∧Q w w':=by
 have hlen:=Dm.tnum_len s.data.toList
 have hle:=Dm.tnum_le s.data.toList
 have hcall:=takeNum_any s w hs
 have htx:Dm.ttext s.data.toList most=if (Dm.tnum s.data.toList).2.2≠0 then ([],[],(Dm.tnum s.data.toList).2.2) else if most<0∨most<((Dm.tnum s.data.toList).1:Int) then ([],[],4) else if (Dm.tnum s.data.toList).2.1.length<(Dm.tnum s.data.toList).1 then ([],[],2)
   else ((Dm.tnum s.data.toList).2.1.take (Dm.tnum s.data.toList).1,(Dm.tnum s.data.toList).2.1.drop (Dm.tnum s.data.toList).1,0):=rfl
 have herr:=Dm.tnum_err s.data.toList
 generalize Dm.tnum s.data.toList=x at *
 obtain⟨n,r,er⟩:=x
 obtain⟨R,hR⟩:∃ R:ByteArray,R=⟨r.toArray⟩:=⟨_,rfl⟩
 have hsz:R.size=r.length:=by rw[hR];show r.toArray.size=_;simp
 have hl:R.data.toList=r:=by rw[hR]
 unfold tnR at hcall
 simp only at hlen hle hcall htx herr
 rw[←hR] at hcall
 have hRle:R.size≤s.size:=by rw[hsz];rw[size_list] at hlen;exact hlen
 unfold maxLen at hs
 unfold Dm.maxU at hle
 have HC:=hid hcall
 have HT:=hid htx
 have HSZ:=hid hsz
 have HL:=hid hl
 clear hcall htx hsz hl hR hlen
 by_cases c0:er=0
 · subst c0
   clear herr
   by_cases c1:most<0∨most<(n:Int)
   · have ht:Dm.ttext s.data.toList most=([],[],4):=by rw[HT.out,if_neg (by simp),if_pos c1]
     have HT2:=hid ht
     have C1:=hid c1
     clear ht c1
     go_enter Tryz.func82,Tryz.ntmps82
     go_wp2_with fail
     refine HC.out.mono ?_
     rintro e w1 ⟨rfl,q1⟩
     go_wp2_with fail
     refine(above_yes _ _ _ (by omega) (by omega) hm0 hm1 C1.out).mono ?_
     rintro e w2 ⟨rfl,rfl⟩
     go_wp2_with fail
     go_ret3
     exact⟨by rw[HT2.out];rfl,q1⟩
   have c1':0≤most:=by omega
   have c1'':(n:Int)≤most:=by omega
   by_cases c2:R.size<n
   · have ht:Dm.ttext s.data.toList most=([],[],2):=by rw[HT.out,if_neg (by simp),if_neg c1,if_pos (by rw[←HSZ.out];exact c2)]
     have HT2:=hid ht
     clear ht c1
     go_enter Tryz.func82,Tryz.ntmps82
     go_wp2_with fail
     refine HC.out.mono ?_
     rintro e w1 ⟨rfl,q1⟩
     go_wp2_with fail
     refine(above_no _ _ _ (by omega) (by omega) c1' hm1 c1'').mono ?_
     rintro e w2 ⟨rfl,rfl⟩
     go_wp2_with fail
     refine(above_yes _ _ _ (by omega) (by omega) (by omega) (by omega) (by omega)).mono ?_
     rintro e w2 ⟨rfl,rfl⟩
     go_wp2_with fail
     go_ret3
     exact⟨by rw[HT2.out];rfl,q1⟩
   have c2':n≤R.size:=by omega
   have ht:Dm.ttext s.data.toList most=(r.take n,r.drop n,0):=by rw[HT.out,if_neg (by simp),if_neg c1,if_neg (by rw[←HSZ.out];exact c2)]
   have he1:=extract_list R 0 n
   have he2:=extract_list R n R.size
   rw[List.take_of_length_le (by rw[size_list];omega),HL.out] at he2
   rw[HL.out,List.drop_zero] at he1
   have HT2:=hid ht
   have HE1:=hid he1
   have HE2:=hid he2
   have e4:(n:Int)≤(R.size:Int):=by omega
   clear ht c1 c2 he1 he2
   go_enter Tryz.func82,Tryz.ntmps82
   go_wp2_with fail
   refine HC.out.mono ?_
   rintro e w1 ⟨rfl,q1⟩
   go_wp2_with fail
   refine(above_no _ _ _ (by omega) (by omega) c1' hm1 c1'').mono ?_
   rintro e w2 ⟨rfl,rfl⟩
   go_wp2_with fail
   refine(above_no _ _ _ (by omega) (by omega) (by omega) (by omega) (by omega)).mono ?_
   rintro e w2 ⟨rfl,rfl⟩
   go_wp2_with fail
   go_quiet (fail)
   go_wp2_with fail
   go_ret3
   refine⟨?_,q1.drewN _⟩
   rw[HT2.out];unfold ttR
   simp only[←HE1.out,←HE2.out];rfl
 · have ht:Dm.ttext s.data.toList most=([],[],er):=by rw[HT.out,if_pos c0]
   have HT2:=hid ht
   have hne:((er:Int) != 0)=true:=by simp;omega
   clear ht c0 herr
   go_enter Tryz.func82,Tryz.ntmps82
   go_wp2_with fail
   refine HC.out.mono ?_
   rintro e w1 ⟨rfl,q1⟩
   go_wp2_with fail
   go_ret3
   exact⟨by rw[HT2.out];rfl,q1⟩
end
section
open Go.RowKit
def topen2 (s:List UInt8)(x:Nat×List UInt8×Nat):List UInt8×List UInt8×Nat:=
 if x.2.2≠0 then ([],[],x.2.2) else if (x.1:Int)≠Sm.adler s then ([],[],10) else (s,x.2.1,0)
def topen1 (x:List UInt8×List UInt8×Nat):List UInt8×List UInt8×Nat:=
 if x.2.2≠0 then ([],[],x.2.2) else topen2 x.1 (Dm.tnum x.2.1)
def topen (l:List UInt8)(most:Int):List UInt8×List UInt8×Nat:=topen1 (Dm.ttext l most)
theorem ttext_len (l:List UInt8)(most:Int):(Dm.ttext l most).1.length≤l.length∧(Dm.ttext l most).2.1.length≤l.length:=by
 have h:=Dm.tnum_len l
 unfold Dm.ttext
 split
 · simp
 · split
   · simp
   · split
     · simp
     · simp;omega
theorem ttext_err (l:List UInt8)(most:Int):(Dm.ttext l most).2.2≤4:=by
 have h:=Dm.tnum_err l
 unfold Dm.ttext
 split
 · simp only;omega
 · split
   · simp
   · split<;>simp
theorem bytes_of (r:List UInt8):∃ R:ByteArray,R=⟨r.toArray⟩∧R.size=r.length∧R.data.toList=r:=⟨_,rfl,by show r.toArray.size=_;simp,rfl⟩
theorem sopen_any (f:ByteArray)(most:Int)(w:World)(hs:f.size≤maxLen)(hm0:-9223372036854775808≤most)(hm1:most≤9223372036854775807) :
  Calls Tryz.prog 38 #[.string f,.int .i64 most] w fun e w'=>e=.returned (ttR (topen f.data.toList most))∧Q w w':=by
 have hcall:=takeText_any f most w hs hm0 hm1
 have hlen:=ttext_len f.data.toList most
 have herr:=ttext_err f.data.toList most
 rw[size_list] at hlen
 have htx:topen f.data.toList most=topen1 (Dm.ttext f.data.toList most):=rfl
 generalize topen f.data.toList most=out at *
 subst htx
 generalize Dm.ttext f.data.toList most=x at *
 obtain⟨t,r,er⟩:=x
 obtain⟨S,hS,hSs,hSl⟩:=bytes_of t
 obtain⟨R,hR,hRs,hRl⟩:=bytes_of r
 unfold ttR at hcall
 simp only at hlen hcall herr
 rw[←hS,←hR] at hcall
 rw[←hSs,←hRs] at hlen
 obtain⟨hl1,hl2⟩:=hlen
 have HC:=hid hcall
 have HSL:=hid hSl
 have HRL:=hid hRl
 have HS:=hid hS
 clear hcall hSl hRl hS hR hSs hRs
 by_cases c0:er=0
 · subst c0
   clear herr
   have ho:topen1 (t,r,0)=topen2 t (Dm.tnum r):=by unfold topen1;rw[if_neg (by simp)]
   rw[ho]
   have hcall2:=fun W=>takeNum_any R W (Nat.le_trans hl2 hs)
   have hle:=Dm.tnum_le r
   have hlen:=Dm.tnum_len r
   have herr:=Dm.tnum_err r
   rw[HRL.out] at hcall2
   generalize Dm.tnum r=y at *
   obtain⟨v,r2,er2⟩:=y
   obtain⟨R2,hR2,hR2s,hR2l⟩:=bytes_of r2
   unfold tnR at hcall2
   simp only at hle hlen herr hcall2
   rw[←hR2] at hcall2
   have HR2:=hid hR2
   have HC2:=hid hcall2
   clear ho hcall2 hR2 hR2s hR2l hlen
   unfold Dm.maxU at hle
   by_cases c1:er2=0
   · subst c1
     clear herr
     have hof:=fun W=>of_any S W (Nat.le_trans hl1 hs)
     rw[HSL.out] at hof
     have hr:=Sm.adler_range t
     have HOF:=hid hof
     clear hof
     unfold maxLen at hs
     by_cases c2:(v:Int)=Sm.adler t
     · have hfin:topen2 t (v,r2,0)=(t,r2,0):=by unfold topen2;rw[if_neg (by simp),if_neg (by simpa using c2)]
       have hbn:((v:Int) != Sm.adler t)=false:=by simpa using c2
       have HF:=hid hfin
       clear hfin c2
       generalize Sm.adler t=ad at *
       go_enter Tryz.func38,Tryz.ntmps38
       go_wp2_with fail
       refine HC.out.mono ?_
       rintro e w1 ⟨rfl,q1⟩
       go_wp2_with fail
       refine(HC2.out _).mono ?_
       rintro e w2 ⟨rfl,q2⟩
       go_wp2_with fail
       refine(HOF.out _).mono ?_
       rintro e w3 ⟨rfl,q3⟩
       go_wp2_with fail
       go_ret3
       refine⟨?_,q1.trans (q2.trans q3)⟩
       rw[HF.out];unfold ttR
       simp only[←HR2.out,←HS.out];rfl
     · have hfin:topen2 t (v,r2,0)=([],[],10):=by unfold topen2;rw[if_neg (by simp),if_pos (by simpa using c2)]
       have hbn:((v:Int) != Sm.adler t)=true:=by simpa using c2
       have HF:=hid hfin
       clear hfin c2
       generalize Sm.adler t=ad at *
       go_enter Tryz.func38,Tryz.ntmps38
       go_wp2_with fail
       refine HC.out.mono ?_
       rintro e w1 ⟨rfl,q1⟩
       go_wp2_with fail
       refine(HC2.out _).mono ?_
       rintro e w2 ⟨rfl,q2⟩
       go_wp2_with fail
       refine(HOF.out _).mono ?_
       rintro e w3 ⟨rfl,q3⟩
       go_wp2_with fail
       go_ret3
       exact⟨by rw[HF.out];rfl,q1.trans (q2.trans q3)⟩
   · have hfin:topen2 t (v,r2,er2)=([],[],er2):=by unfold topen2;rw[if_pos c1]
     have hne:((er2:Int) != 0)=true:=by simp;omega
     have HF:=hid hfin
     clear hfin c1 herr
     go_enter Tryz.func38,Tryz.ntmps38
     go_wp2_with fail
     refine HC.out.mono ?_
     rintro e w1 ⟨rfl,q1⟩
     go_wp2_with fail
     refine(HC2.out _).mono ?_
     rintro e w2 ⟨rfl,q2⟩
     go_wp2_with fail
     go_ret3
     exact⟨by rw[HF.out];rfl,q1.trans q2⟩
 · have ho:topen1 (t,r,er)=([],[],er):=by unfold topen1;rw[if_pos c0]
   have hne:((er:Int) != 0)=true:=by simp;omega
   have HF:=hid ho
   clear ho c0 herr
   go_enter Tryz.func38,Tryz.ntmps38
   go_wp2_with fail
   refine HC.out.mono ?_
   rintro e w1 ⟨rfl,q1⟩
   go_wp2_with fail
   go_ret3
   exact⟨by rw[HF.out];rfl,q1⟩
theorem adler_maxU (l:List UInt8):(Sm.adler l).toNat≤Dm.maxU:=by have:=Sm.adler_range l;unfold Dm.maxU;omega
theorem topen_sld (s more:List UInt8)(most:Int)(h:s.length≤Dm.maxU)(hm:(s.length:Int)≤most):topen (sld s++more) most=(s,more,0):=by
 have e:sld s++more=Dm.num s.length++(s++(Dm.num (Sm.adler s).toNat++more)):=by simp[sld]
 have hr:=Sm.adler_range s
 unfold topen
 rw[e,Dm.ttext_text s _ most h hm]
 unfold topen1
 rw[if_neg (by simp)]
 simp only
 rw[Dm.tnum_num _ _ (adler_maxU s)]
 unfold topen2
 rw[if_neg (by simp),if_neg (by simp only[ne_eq,Decidable.not_not];omega)]
end
section
namespace Dm
theorem digit_dv (c:UInt8)(h:isD c=true):digit (dv c)=c:=by
 rw[isD_iff] at h
 unfold digit dv
 rw[show 48+(c.toNat - 48)=c.toNat by omega]
 exact UInt8.ofNat_toNat
theorem val_pos (c:UInt8)(l:List UInt8)(hc:isD c=true)(h0:c.toNat≠48):0<val (c :: l):=by
 rw[val_cons]
 have h1:1≤dv c:=by rw[isD_iff] at hc;unfold dv;omega
 have h2:0<10 ^ l.length:=Nat.pow_pos (by omega)
 have:=Nat.mul_pos h1 h2
 omega
theorem dg_val:∀ (n:Nat) (l:List UInt8),l.length=n→l≠[]→(∀ c∈l,isD c=true)→(1<l.length→l.head? ≠ some 48)→dg (val l)=l
 | 0,l,hl,hne,_,_=>absurd (List.length_eq_zero_iff.1 hl) hne
 | n + 1,l,hl,hne,hd,hh=>by
   obtain⟨a,c,rfl⟩:∃ a c,l=a++[c]:=⟨l.dropLast,l.getLast hne,(List.dropLast_concat_getLast hne).symm⟩
   have hc:isD c=true:=hd c (by simp)
   have hdc:dv c<10:=by rw[isD_iff] at hc;unfold dv;omega
   rw[val_snoc,dg_split,show (10*val a+dv c) / 10=val a by omega,show (10*val a+dv c) % 10=dv c by omega,digit_dv c hc]
   congr 1
   cases a with
   | nil=>rfl
   | cons x r =>
     have hh':=hh (by simp)
     have hx:x≠48:=by simpa using hh'
     have hx':x.toNat≠48:=fun e=>hx (UInt8.toNat_inj.1 e)
     have hp:=val_pos x r (hd x (by simp)) hx'
     rw[dgz_pos _ (by omega)]
     exact dg_val n (x :: r) (by simp at hl ⊢;omega) (by simp) (fun d h=>hd d (List.mem_append_left _ h)) (fun _=>by simpa using hx)
theorem tnum_inv {l r:List UInt8}{v:Nat}(h:tnum l=(v,r,0)):l=num v++r∧v≤maxU:=by
 unfold tnum at h
 split at h
 · simp at h
 rename_i hb
 split at h
 · simp at h
 rename_i hr
 split at h
 · simp at h
 rename_i hf
 simp only[Prod.mk.injEq,and_true] at h
 obtain⟨h1,h2⟩:=h
 simp only[not_or,Decidable.not_not,ne_eq] at hf
 obtain⟨hf1,hf2⟩:=hf
 simp only[bad,Bool.or_eq_true,Bool.and_eq_true,decide_eq_true_eq,not_or,not_and,beq_iff_eq] at hb
 obtain⟨hb1,hb2⟩:=hb
 have e:figs l++rest l=l:=figs_rest l
 have er:rest l=59 :: r:=by
  cases hq:rest l with
  | nil=>exact absurd hq hr
  | cons x t =>
    rw[hq] at hf1 h2
    simp only[List.head?_cons,Option.some.injEq] at hf1
    simp only[List.tail_cons] at h2
    rw[hf1,h2]
 have ed:dg v=figs l:=by
  rw[←h1]
  refine dg_val _ (figs l) rfl hf2 (figs_all l) fun hl=>?_
  have hh:=hb1 hl
  intro hq
  refine hh ?_
  cases hfl:figs l with
  | nil=>exact absurd hfl hf2
  | cons x t =>
    rw[hfl] at hq e
    rw[←e]
    simpa using hq
 refine⟨?_,by omega⟩
 rw[←e,er,num,ed];simp
theorem ttext_inv {l s r:List UInt8}{most:Int}(h:ttext l most=(s,r,0)):l=num s.length++(s++r)∧s.length≤maxU∧(s.length:Int)≤most:=by
 unfold ttext at h
 split at h
 · rename_i h0
   simp only[Prod.mk.injEq] at h
   exact absurd h.2.2 h0
 rename_i h0
 split at h
 · simp at h
 rename_i h1
 split at h
 · simp at h
 rename_i h2
 simp only[Prod.mk.injEq,and_true] at h
 obtain⟨e1,e2⟩:=h
 have h3:(tnum l).2.2=0:=by simpa using h0
 have ht:tnum l=((tnum l).1,(tnum l).2.1,0):=by rw[←h3]
 obtain⟨i1,i2⟩:=tnum_inv ht
 have hl:s.length=(tnum l).1:=by rw[←e1,List.length_take];omega
 refine⟨?_,by omega,by omega⟩
 rw[hl,←e1,←e2,List.take_append_drop];exact i1
end Dm
theorem topen_inv {l s r:List UInt8}{most:Int}(h:topen l most=(s,r,0)):l=sld s++r∧s.length≤Dm.maxU∧(s.length:Int)≤most:=by
 unfold topen topen1 at h
 split at h
 · rename_i h0
   simp only[Prod.mk.injEq] at h
   exact absurd h.2.2 h0
 rename_i h0
 unfold topen2 at h
 split at h
 · rename_i h1
   simp only[Prod.mk.injEq] at h
   exact absurd h.2.2 h1
 rename_i h1
 split at h
 · simp at h
 rename_i h2
 simp only[Prod.mk.injEq,and_true] at h
 obtain⟨e1,e2⟩:=h
 have h3:(Dm.ttext l most).2.2=0:=by simpa using h0
 have ht:Dm.ttext l most=((Dm.ttext l most).1,(Dm.ttext l most).2.1,0):=by rw[←h3]
 obtain⟨i1,i2,i3⟩:=Dm.ttext_inv ht
 have h4:(Dm.tnum (Dm.ttext l most).2.1).2.2=0:=by simpa using h1
 have hn:Dm.tnum (Dm.ttext l most).2.1=((Dm.tnum (Dm.ttext l most).2.1).1,(Dm.tnum (Dm.ttext l most).2.1).2.1,0):=by rw[←h4]
 obtain⟨j1,j2⟩:=Dm.tnum_inv hn
 rw[e1] at i1 i2 i3
 refine⟨?_,i2,i3⟩
 have hv:(Sm.adler s).toNat=(Dm.tnum (Dm.ttext l most).2.1).1:=by rw[←e1];simp only[ne_eq,Decidable.not_not] at h2;omega
 rw[e2] at j1
 rw[i1]
 conv=>lhs;rw[j1]
 unfold sld
 rw[hv];simp
theorem topen_err {l:List UInt8}{most:Int}(h:(topen l most).2.2=0):l=sld (topen l most).1++(topen l most).2.1∧(topen l most).1.length≤Dm.maxU∧((topen l most).1.length:Int)≤most:=by
 refine topen_inv ?_
 rw[←h]
theorem sld_four (s:List UInt8):4≤(sld s).length:=by
 unfold sld Dm.num
 have:=Dm.dg_pos s.length
 have:=Dm.dg_pos (Sm.adler s).toNat
 simp only[List.length_append,List.length_cons,List.length_nil];omega
theorem topen_pre (s:List UInt8)(hs:s.length≤Dm.maxU)(k:Nat)(hk:k<(sld s).length)(most:Int):(topen ((sld s).take k) most).2.2≠0:=by
 intro h
 obtain⟨h1,h2,h3⟩:=topen_err h
 generalize topen ((sld s).take k) most=x at h1 h2 h3
 have e:sld s=sld x.1++(x.2.1++(sld s).drop k):=by
  conv=>lhs;rw[←List.take_append_drop k (sld s),h1]
  simp
 have a1:=topen_sld x.1 (x.2.1++(sld s).drop k) Dm.maxU h2 (by omega)
 have a2:=topen_sld s [] Dm.maxU hs (by omega)
 rw[List.append_nil,e,a1] at a2
 simp only[Prod.mk.injEq,and_true] at a2
 have a3:=congrArg List.length a2.2
 simp only[List.length_append,List.length_drop,List.length_nil] at a3
 omega
def scnF:Nat→List UInt8→List (List UInt8)×List UInt8
 | 0,l=>([],l)
 | n+1,l=>if (topen l 2048).2.2=0 then ((topen l 2048).1 :: (scnF n (topen l 2048).2.1).1,(scnF n (topen l 2048).2.1).2) else ([],l)
def scn (l:List UInt8):List (List UInt8)×List UInt8:=scnF l.length l
def flat (rs:List (List UInt8)):List UInt8:=(rs.map sld).flatten
theorem flat_nil:flat []=[]:=rfl
theorem flat_cons (r:List UInt8)(rs:List (List UInt8)):flat (r :: rs)=sld r++flat rs:=by simp[flat]
theorem flat_app (a b:List (List UInt8)):flat (a++b)=flat a++flat b:=by simp[flat]
theorem flat_four (rs:List (List UInt8)):rs.length*4≤(flat rs).length:=by
 induction rs with
 | nil=>simp
 | cons r rs ih=>rw[flat_cons,List.length_append,List.length_cons];have:=sld_four r;omega
structure Scd (l:List UInt8) (rs:List (List UInt8)) (t:List UInt8):Prop where
 eq:l=flat rs++t
 le:∀ r∈rs,r.length≤2048
 no:(topen t 2048).2.2≠0
theorem open_one (r:List UInt8)(t:List UInt8)(h:r.length≤2048):topen (sld r++t) 2048=(r,t,0):=topen_sld r t 2048 (by unfold Dm.maxU;omega) (by omega)
theorem scnF_eq:∀ (rs:List (List UInt8)) (n:Nat) (l t:List UInt8),rs.length≤n→Scd l rs t→scnF n l=(rs,t)
 | [],0,l,t,_,h=>by have:=h.eq;simp[flat_nil] at this;subst this;rfl
 | [],n+1,l,t,_,h=>by
   have e:=h.eq;simp[flat_nil] at e;subst e
   unfold scnF;rw[if_neg h.no]
 | r :: rs,0,l,t,hn,h=>by simp at hn
 | r :: rs,n+1,l,t,hn,h=>by
   have e:=h.eq
   rw[flat_cons,List.append_assoc] at e
   have ho:=open_one r (flat rs++t) (h.le r (by simp))
   rw[←e] at ho
   have hi:=scnF_eq rs n (flat rs++t) t (by simp at hn;omega) ⟨rfl,fun x hx=>h.le x (List.mem_cons_of_mem _ hx),h.no⟩
   unfold scnF
   rw[ho]
   simp[hi]
theorem Scd.scn {l t:List UInt8}{rs:List (List UInt8)}(h:Scd l rs t):scn l=(rs,t):=by
 refine scnF_eq rs l.length l t ?_ h
 have h1:=congrArg List.length h.eq
 have h2:=flat_four rs
 rw[List.length_append] at h1
 omega
theorem topen_nil:(topen [] 2048).2.2≠0:=by decide
theorem scdF:∀ (n:Nat) (l:List UInt8),l.length≤n→Scd l (scnF n l).1 (scnF n l).2
 | 0,l,h=>by
   have:l=[]:=List.length_eq_zero_iff.1 (by omega)
   subst this
   exact⟨rfl,by simp[scnF],topen_nil⟩
 | n + 1,l,h=>by
   by_cases h0:(topen l 2048).2.2=0
   · obtain⟨h1,h2,h3⟩:=topen_err h0
     have e:scnF (n+1) l=((topen l 2048).1 :: (scnF n (topen l 2048).2.1).1,(scnF n (topen l 2048).2.1).2):=by rw[scnF,if_pos h0]
     rw[e]
     generalize topen l 2048=x at h1 h2 h3 h0
     have h4:=congrArg List.length h1
     have h5:=sld_four x.1
     rw[List.length_append] at h4
     have ih:=scdF n x.2.1 (by omega)
     refine⟨?_,fun r hr=>?_,ih.no⟩
     · rw[flat_cons,List.append_assoc,←ih.eq];exact h1
     · rcases List.mem_cons.1 hr with rfl | hr
       · omega
       · exact ih.le r hr
   · have e:scnF (n+1) l=([],l):=by rw[scnF,if_neg h0]
     rw[e]
     exact⟨rfl,by simp,h0⟩
theorem scd (l:List UInt8):Scd l (scn l).1 (scn l).2:=scdF _ l (Nat.le_refl _)
theorem scn_no {l:List UInt8}(h:(topen l 2048).2.2≠0):scn l=([],l):=Scd.scn ⟨rfl,by simp,h⟩
def used (l:List UInt8):Nat:=l.length - (scn l).2.length
theorem used_flat (l:List UInt8):used l=(flat (scn l).1).length:=by
 have:=congrArg List.length (scd l).eq
 rw[List.length_append] at this;unfold used;omega
theorem used_le (l:List UInt8):used l≤l.length:=by unfold used;omega
theorem take_used (l:List UInt8):l.take (used l)=flat (scn l).1:=by
 rw[used_flat]
 conv=>lhs;arg 2;rw[(scd l).eq]
 exact List.take_left' rfl
theorem scn_app (rs:List (List UInt8))(h:∀ r∈rs,r.length≤2048)(b:List UInt8):scn (flat rs++b)=(rs++(scn b).1,(scn b).2):=by
 have hb:=scd b
 refine Scd.scn ⟨?_,fun x hx=>?_,hb.no⟩
 · rw[flat_app,List.append_assoc,←hb.eq]
 · rcases List.mem_append.1 hx with hx | hx
   · exact h x hx
   · exact hb.le x hx
theorem scn_flat (rs:List (List UInt8))(h:∀ r∈rs,r.length≤2048):scn (flat rs)=(rs,[]):=by
 have:=scn_app rs h []
 rw[List.append_nil,scn_no topen_nil] at this
 simpa using this
def Part (q:List UInt8):Prop:=∃ r:List UInt8,r.length≤Dm.maxU∧∃ k,k<(sld r).length∧q=(sld r).take k
theorem Part.nil:Part []:=⟨[],by simp,0,by have:=sld_four [];omega,rfl⟩
theorem Part.pre {q p:List UInt8}(h:Part q)(hp:p <+: q):Part p:=by
 obtain⟨r,hr,k,hk,rfl⟩:=h
 obtain⟨t,ht⟩:=hp
 have hl:=congrArg List.length ht
 rw[List.length_append,List.length_take] at hl
 refine⟨r,hr,p.length,by omega,?_⟩
 have e:p=((sld r).take k).take p.length:=by rw[←ht];simp
 rw[List.take_take,Nat.min_eq_left (by omega)] at e
 exact e
theorem Part.no {q:List UInt8}(h:Part q):(topen q 2048).2.2≠0:=by
 obtain⟨r,hr,k,hk,rfl⟩:=h
 exact topen_pre r hr k hk 2048
theorem scn_part (rs:List (List UInt8))(h:∀ r∈rs,r.length≤2048){q:List UInt8}(hq:Part q):scn (flat rs++q)=(rs,q):=by
 rw[scn_app rs h q,scn_no hq.no];simp
theorem pre_part:∀ (rs:List (List UInt8)) (q p:List UInt8),(∀ r∈rs,r.length≤2048)→Part q→p <+: flat rs++q→∃ us q',us <+: rs∧Part q'∧p=flat us++q'
 | [],q,p,_,hq,hp=>by
   rw[flat_nil,List.nil_append] at hp
   exact⟨[],p,List.prefix_refl _,hq.pre hp,by simp[flat_nil]⟩
 | r :: rs,q,p,hr,hq,hp=>by
   rw[flat_cons,List.append_assoc] at hp
   rcases Nat.lt_or_ge p.length (sld r).length with a | a
   · refine⟨[],p,List.nil_prefix,⟨r,by have:=hr r (by simp);unfold Dm.maxU;omega,p.length,a,?_⟩,by simp[flat_nil]⟩
     exact List.prefix_iff_eq_take.1 (List.prefix_of_prefix_length_le hp (List.prefix_append _ _) (by omega))
   · have h1:sld r <+: p:=List.prefix_of_prefix_length_le (List.prefix_append _ _) hp a
     obtain⟨p',rfl⟩:=h1
     have h2:p' <+: flat rs++q:=(List.prefix_append_right_inj _).1 hp
     obtain⟨us,q',u1,u2,u3⟩:=pre_part rs q p' (fun x hx=>hr x (List.mem_cons_of_mem _ hx)) hq h2
     refine⟨r :: us,q',?_,u2,by rw[flat_cons,List.append_assoc,←u3]⟩
     exact(List.prefix_cons_inj r).2 u1
def segOk (seg:Int):Prop:=1≤seg∧seg≤1000000
instance (seg:Int):Decidable (segOk seg):=by unfold segOk;infer_instance
def nam (seg:Int):List UInt8:=if segOk seg then 119 :: Dm.dg seg.toNat else []
def namB (seg:Int):ByteArray:=⟨(nam seg).toArray⟩
def freshB:ByteArray:=⟨#[119,46,110,101,119]⟩
theorem nam_ok {seg:Int}(h:segOk seg):nam seg=119 :: Dm.dg seg.toNat:=if_pos h
theorem nam_no {seg:Int}(h:¬ segOk seg):nam seg=[]:=if_neg h
theorem namB_no {seg:Int}(h:¬ segOk seg):namB seg=⟨#[]⟩:=by unfold namB;rw[nam_no h]
theorem nam_inj {a b:Int}(ha:segOk a)(hb:segOk b)(h:nam a=nam b):a=b:=by
 rw[nam_ok ha,nam_ok hb] at h
 have h1:=congrArg Dm.val (List.cons.inj h).2
 rw[Dm.val_dg,Dm.val_dg] at h1
 have h2:=ha.1;have h3:=hb.1
 omega
theorem namB_list (a:Int):(namB a).data.toList=nam a:=rfl
theorem namB_inj {a b:Int}(ha:segOk a)(hb:segOk b)(h:namB a=namB b):a=b:=nam_inj ha hb (by rw[←namB_list,←namB_list,h])
theorem namB_size (a:Int):(namB a).size=(nam a).length:=by show (nam a).toArray.size=_;simp
theorem nam_len {a:Int}(h:segOk a):2≤(nam a).length∧(nam a).length≤8:=by
 rw[nam_ok h]
 have h1:=Dm.dg_pos a.toNat
 have h2:=Dm.dg_length_lt 7 a.toNat (by have:=h.2;omega) (by omega)
 simp only[List.length_cons];omega
theorem namB_ok {a:Int}(h:segOk a):2≤(namB a).size∧(namB a).size≤8:=by rw[namB_size];exact nam_len h
end
section
open Go.RowKit
theorem owns_setCells {e:TypeId}{sz base g n c:Nat}:∀ (vs:List Value) (o:Nat) (w:World) (xs:List Value),w.ownsRow base e sz (.slice (some ⟨g,0,none⟩) n c) n xs→o+vs.length≤xs.length →
  (w.setCells g o vs).ownsRow base e sz (.slice (some ⟨g,0,none⟩) n c) n (xs.take o++vs++xs.drop (o+vs.length))
 | [],o,w,xs,h,hl=>by simpa [World.setCells] using h
 | v :: r,o,w,xs,h,hl=>by
   simp only[List.length_cons] at hl
   have h1:=(World.ownsRow.stored h o v).1
   have h2:=owns_setCells r (o+1) (w.setCell ⟨g,o,none⟩ v) (xs.set o v) h1 (by simp;omega)
   have e:(xs.set o v).take (o+1)++r++(xs.set o v).drop (o+1+r.length)=xs.take o++(v :: r)++xs.drop (o+(v :: r).length):=by
    have ho:o<xs.length:=by omega
    rw[List.take_succ_eq_append_getElem (by simpa using ho),List.take_set_of_le (Nat.le_refl _),List.getElem_set_self,List.drop_set_of_lt (by omega),List.length_cons]
    simp[Nat.add_assoc,Nat.add_comm 1]
   rw[e] at h2
   exact h2
theorem owns_short {e:TypeId}{sz base g n c m:Nat}{w:World}{xs:List Value}(h:w.ownsRow base e sz (.slice (some ⟨g,0,none⟩) n c) n xs)(hm:m≤n) :
  w.ownsRow base e sz (.slice (some ⟨g,0,none⟩) m c) m (xs.take (m*sz)):=by
 have hmn:m*sz≤n*sz:=Nat.mul_le_mul_right _ hm
 rcases h.2 with ⟨e0,h0⟩ | ⟨g',cap,cur,e0,hg,hh,hc,hmx,hs,ht⟩
 · cases e0
 · injection e0 with e1 e2 e3
   refine⟨by rw[List.length_take,h.1];omega,.inr ⟨g',cap,cur,by rw[e1,e3],hg,hh,by omega,hmx,hs,?_⟩⟩
   rw[←ht,List.take_take,Nat.min_eq_left hmn]
theorem only_refl (a:World)(g:Nat):a.grownBy a (some g):=⟨rfl,rfl,rfl,Nat.le_refl _,fun _ _ _=>rfl⟩
theorem only_drew {a w:World}{g:Nat}(h:a.grownBy w (some g)):a.grownBy w.drew (some g):=⟨h.os,h.tape,h.output,h.size,h.block⟩
theorem only_set {a w:World}{g:Nat}(h:a.grownBy w (some g))(o:Nat)(u:Value):a.grownBy (w.setCell ⟨g,o,none⟩ u) (some g):=
 ⟨h.os,h.tape,h.output,by simpa [World.setCell] using h.size,fun i hi hne=>(Below.heap_setCell w ⟨g,o,none⟩ u i (by rintro rfl;exact hne rfl)).trans (h.block i hi hne)⟩
theorem only_sets {a:World}{g:Nat}:∀ (vs:List Value) (o:Nat) (w:World),a.grownBy w (some g)→a.grownBy (w.setCells g o vs) (some g)
 | [],o,w,h=>h
 | v :: r,o,w,h=>only_sets r (o+1) _ (only_set h o v)
theorem only_q {a b:World}{g:Nat}(h:Q a b):a.grownBy b (some g):=⟨h.below.os,h.below.tape,h.below.output,h.below.size,fun i hi _=>h.below.block i hi⟩
theorem only_new {a w:World}{g:Nat}(h:a.grownBy w (some g)){p:Addr}(hp:a.heap.size≤p.block)(u:Value):a.grownBy (w.setCell p u) (some g):=
 ⟨h.os,h.tape,h.output,by simpa [World.setCell] using h.size,fun i hi hne=>(Below.heap_setCell w p u i (by omega)).trans (h.block i hi hne)⟩
theorem only_below {a w:World}{g B:Nat}(h:a.grownBy w (some g))(hb:B≤g)(hB:B≤a.heap.size):Below B a w:=
 ⟨h.os,h.tape,h.output,h.size,fun i hi=>h.block i (by omega) (by intro e;injection e;omega)⟩
theorem only_cell {a w:World}{g:Nat}(h:a.grownBy w (some g)){p:Addr}(hp:p.block<a.heap.size)(hne:p.block≠g):w.cell? p=a.cell? p:=World.cell?_of_block (h.block p.block hp (fun e=>hne (by injection e)))
theorem Q.grownBy {w w':World}(q:Q w w'):w.grownBy w' none:=⟨q.below.os,q.below.tape,q.below.output,q.size,fun i hi _=>q.below.block i hi⟩
end
end Go.Proofs.YtccoknaaofmbcaaGreatDoor
namespace Go.Proofs.YtccoknaaofmbcaaGreatDoor.Dkm
structure Fil where
 nm:ByteArray
 sf:ByteArray
 wt:ByteArray
theorem Fil.ext_ {f g:Fil}(a:f.nm=g.nm)(b:f.sf=g.sf)(c:f.wt=g.wt):f=g:=by
 cases f;cases g;simp_all
def plc (nm:ByteArray):List Fil→Nat→Int
 | [],_=>-1
 | f :: l,k=>if f.nm=nm then k else plc nm l (k+1)
theorem plc_drop (nm:ByteArray)(l:List Fil)(k:Nat)(h:k<l.length):plc nm (l.drop k) k=if l[k].nm=nm then (k:Int) else plc nm (l.drop (k+1)) (k+1):=by
 rw[List.drop_eq_getElem_cons h];rfl
theorem plc_end (nm:ByteArray)(l:List Fil)(k:Nat)(h:l.length≤k):plc nm (l.drop k) k=-1:=by
 rw[List.drop_eq_nil_of_le h];rfl
theorem plc_from (nm:ByteArray)(l:List Fil):∀ m,(plc nm l m=-1∧∀ f∈l,f.nm≠nm)∨∃ k,∃ h:k<l.length,plc nm l m=((m+k:Nat):Int)∧l[k].nm=nm∧∀ j,∀ h:j<l.length,j<k→l[j].nm≠nm:=by
 induction l with
 | nil=>intro m;left;exact⟨rfl,by simp⟩
 | cons f l ih =>
   intro m
   by_cases hf:f.nm=nm
   · right;exact⟨0,by simp,by simp[plc,hf],by simpa using hf,fun j h hj=>by omega⟩
   · rcases ih (m+1) with ⟨h1,h2⟩ | ⟨k,hk,h1,h2,h3⟩
     · left
       refine⟨by simp[plc,hf,h1],?_⟩
       intro g hg
       rcases List.mem_cons.1 hg with rfl | hg
       · exact hf
       · exact h2 g hg
     · right
       refine⟨k+1,by simpa using hk,by simp only[plc,hf,if_false,h1];omega,by simpa using h2,?_⟩
       intro j hj hjk
       cases j with
       | zero=>simpa using hf
       | succ j=>simpa using h3 j (by simpa using hj) (by omega)
theorem plc_cases (nm:ByteArray)(l:List Fil):(plc nm l 0=-1∧∀ f∈l,f.nm≠nm)∨∃ k,∃ h:k<l.length,plc nm l 0=(k:Int)∧l[k].nm=nm∧∀ j,∀ h:j<l.length,j<k→l[j].nm≠nm:=by
 rcases plc_from nm l 0 with h | ⟨k,h,e,r⟩
 · exact .inl h
 · exact .inr ⟨k,h,by simpa using e,r⟩
structure Dk where
 fs:List Fil
 room:Int
 fuse:Int
 off:Bool
def opn (nm:ByteArray)(l:List Fil):Fil×Nat:=
 match l.findIdx? (fun f=>decide (f.nm=nm)) with
 | some k=>(l.getD k ⟨nm,⟨#[]⟩,⟨#[]⟩⟩,k)
 | none=>(⟨nm,⟨#[]⟩,⟨#[]⟩⟩,l.length)
theorem idx_none {nm:ByteArray}{l:List Fil}(h:∀ f∈l,f.nm≠nm):l.findIdx? (fun f=>decide (f.nm=nm))=none:=by
 rw[List.findIdx?_eq_none_iff];simpa using h
theorem idx_at {nm:ByteArray}{l:List Fil}{k:Nat}(hk:k<l.length)(hn:l[k].nm=nm)(hf:∀ j,∀ h:j<l.length,j<k→l[j].nm≠nm):l.findIdx? (fun f=>decide (f.nm=nm))=some k:=by
 rw[List.findIdx?_eq_some_iff_getElem]
 exact⟨hk,by simpa using hn,fun j hj=>by simpa using hf j (by omega) hj⟩
theorem opn_none {nm:ByteArray}{l:List Fil}(h:∀ f∈l,f.nm≠nm):opn nm l=(⟨nm,⟨#[]⟩,⟨#[]⟩⟩,l.length):=by
 unfold opn;rw[idx_none h]
theorem opn_at {nm:ByteArray}{l:List Fil}{k:Nat}(hk:k<l.length)(hn:l[k].nm=nm)(hf:∀ j,∀ h:j<l.length,j<k→l[j].nm≠nm):opn nm l=(l[k],k):=by
 unfold opn;rw[idx_at hk hn hf];simp[hk]
def chg (at_ fuse:Int)(off:Bool):Int×Bool×Int:=
  if at_<0∧off=false then (fuse,off,7) else if off=true∨fuse=0 then (fuse,true,6) else if 0<fuse then (fuse - 1,off,0) else (fuse,off,0)
def hit (nm:ByteArray)(l:List Fil):Fil×Bool:=
 match l.find? (fun f=>decide (f.nm=nm)) with
 | some f=>(f,true)
 | none=>(⟨⟨#[]⟩,⟨#[]⟩,⟨#[]⟩⟩,false)
theorem hit_none {nm:ByteArray}{l:List Fil}(h:∀ f∈l,f.nm≠nm):hit nm l=(⟨⟨#[]⟩,⟨#[]⟩,⟨#[]⟩⟩,false):=by
 unfold hit
 rw[List.find?_eq_none.2 (by simpa using h)]
theorem hit_at {nm:ByteArray}{l:List Fil}{k:Nat}(hk:k<l.length)(hn:l[k].nm=nm)(hf:∀ j,∀ h:j<l.length,j<k→l[j].nm≠nm):hit nm l=(l[k],true):=by
 unfold hit
 have:l.find? (fun f=>decide (f.nm=nm))=some l[k]:=by
  rw[List.find?_eq_some_iff_getElem]
  exact⟨by simpa using hn,k,hk,rfl,fun j hj=>by simpa using hf j (by omega) hj⟩
 rw[this]
def syn (d:Dk)(nm:ByteArray):Dk×Int:=
 if d.off then (d,6)
 else if (hit nm d.fs).2 then ({ d with fs:=d.fs.set (opn nm d.fs).2 ⟨(hit nm d.fs).1.nm,(hit nm d.fs).1.sf++(hit nm d.fs).1.wt,⟨#[]⟩⟩ },0) else (d,7)
theorem syn_none {nm:ByteArray}{l:List Fil}{room fuse:Int}(h:∀ f∈l,f.nm≠nm):syn ⟨l,room,fuse,false⟩ nm=(⟨l,room,fuse,false⟩,7):=by
 simp[syn,hit_none h]
theorem syn_at {nm:ByteArray}{l:List Fil}{room fuse:Int}{k:Nat}(hk:k<l.length)(hn:l[k].nm=nm)(hf:∀ j,∀ h:j<l.length,j<k→l[j].nm≠nm) :
  syn ⟨l,room,fuse,false⟩ nm=(⟨l.set k ⟨l[k].nm,l[k].sf++l[k].wt,⟨#[]⟩⟩,room,fuse,false⟩,0):=by
 simp[syn,hit_at hk hn hf,opn_at hk hn hf]
def nmOk (nm:ByteArray):Bool:=decide (1≤nm.size∧nm.size≤16)
def short (fuse:Int)(s:ByteArray):Bool:=decide (0≤fuse∧fuse<s.size)
def cut (fuse:Int)(s:ByteArray):ByteArray:=if short fuse s then s.extract 0 fuse.toNat else s
def put (l:List Fil)(k:Nat)(f:Fil):List Fil:=if k=l.length then l++[f] else l.set k f
def appd (d:Dk)(nm s:ByteArray):Dk×Int:=
 if d.off then (d,6)
 else if nmOk nm=false then (d,1)
 else if ((opn nm d.fs).2=d.fs.length∧64≤d.fs.length)∨d.room<s.size then (d,5)
 else if 65536<(opn nm d.fs).1.sf.size+(opn nm d.fs).1.wt.size+s.size then (d,4)
 else (⟨put d.fs (opn nm d.fs).2 ⟨(opn nm d.fs).1.nm,(opn nm d.fs).1.sf,(opn nm d.fs).1.wt++cut d.fuse s⟩,d.room - (cut d.fuse s).size,if 0≤d.fuse then d.fuse - (cut d.fuse s).size else d.fuse,short d.fuse s⟩,if short d.fuse s then 6 else 0)
theorem opn_le (nm:ByteArray)(l:List Fil):(opn nm l).2≤l.length:=by
 rcases plc_cases nm l with ⟨_,h⟩ | ⟨k,hk,_,hn,hf⟩
 · rw[opn_none h];exact Nat.le_refl _
 · rw[opn_at hk hn hf];exact Nat.le_of_lt hk
def redd (nm:ByteArray)(l:List Fil):ByteArray×Int:=
 if (hit nm l).2 then ((hit nm l).1.sf++(hit nm l).1.wt,0) else (⟨#[]⟩,7)
theorem redd_none {nm:ByteArray}{l:List Fil}(h:∀ f∈l,f.nm≠nm):redd nm l=(⟨#[]⟩,7):=by
 unfold redd;rw[hit_none h];rfl
theorem redd_at {nm:ByteArray}{l:List Fil}{k:Nat}(hk:k<l.length)(hn:l[k].nm=nm)(hf:∀ j,∀ h:j<l.length,j<k→l[j].nm≠nm):redd nm l=(l[k].sf++l[k].wt,0):=by
 unfold redd;rw[hit_at hk hn hf];rfl
end Go.Proofs.YtccoknaaofmbcaaGreatDoor.Dkm
namespace Go.Proofs.YtccoknaaofmbcaaGreatDoor
section
open Go.RowKit
theorem addr_add (a:Addr)(i j:Nat):(a.add i).add j=a.add (i+j):=by
 unfold Addr.add
 by_cases hi:i=0<;>by_cases hj:j=0<;>simp[hi,hj,Nat.add_assoc]
theorem addr_block (a:Addr)(i:Nat):(a.add i).block=a.block:=by
 unfold Addr.add;split<;>rfl
def Holds (w:World)(B k:Nat)(A:Option Addr)(n:Nat)(xs:List Value):Prop:=
 xs.length=n*k∧∀ j u,xs[j]? = some u→∃ ad,A=some ad∧ad.block<B∧w.cell? (ad.add j)=some u
theorem Holds.carry {w w':World}{B B' k:Nat}{A:Option Addr}{n:Nat}{xs:List Value}(h:Holds w B k A n xs)(hB:B≤B')(hc:∀ p:Addr,p.block<B→w'.cell? p=w.cell? p):Holds w' B' k A n xs:=
 ⟨h.1,fun j u hu=>by
   obtain⟨ad,e,hb,hx⟩:=h.2 j u hu
   exact⟨ad,e,by omega,(hc _ (by rw[addr_block];exact hb)).trans hx⟩⟩
theorem Holds.q {w w':World}{k:Nat}{A:Option Addr}{n:Nat}{xs:List Value}(h:Holds w w.heap.size k A n xs)(hq:Q w w'):Holds w' w'.heap.size k A n xs:=
 h.carry hq.size fun _ hp=>hq.below.cell hp
theorem Holds.none_ (w:World)(B k:Nat)(A:Option Addr):Holds w B k A 0 []:=⟨by simp,fun j u h=>by simp at h⟩
theorem bcell {W w1:World}(hb:Below W.heap.size W w1):(∀ b o,b<W.heap.size→w1.cell? ⟨b,o,none⟩=W.cell? ⟨b,o,none⟩)∧(∀ b o,b<W.heap.size→w1.frozen? ⟨b,o,none⟩=W.frozen? ⟨b,o,none⟩):=
 ⟨fun b o h=>hb.cell (p:=⟨b,o,none⟩) h,fun b o h=>hb.frozen (p:=⟨b,o,none⟩) h⟩
theorem same_str (a b:ByteArray):(a.toList == b.toList)=decide (a=b):=by
 by_cases h:a=b
 · subst h;simp
 · have:¬ a.toList=b.toList:=fun e=>h (by
     have e1:a.data.toList=b.data.toList:=by simpa [ByteArray.toList_eq] using e
     exact ByteArray.ext (Array.ext' e1))
   simp[h,this]
theorem str_inj (a b:ByteArray):(a.toList=b.toList)=(a=b):=by
 refine propext ⟨fun h=>?_,fun h=>by rw[h]⟩
 have e:=same_str a b
 rw[h] at e
 simpa using e
theorem box_ {W w1:World}(q:Q W w1){p:Addr}{v:Value}(h:W.cell? p=some v):w1.cell? p=some v:=(q.below.cell (block_lt_of_cell h)).trans h
theorem box10 {W w1:World}(q:Q W w1){p0 p1 p2 p3 p4 p5 p6 p7 p8 p9:Addr}{v0 v1 v2 v3 v4 v5 v6 v7 v8 v9:Value}(h0:W.cell? p0=some v0)(h1:W.cell? p1=some v1)(h2:W.cell? p2=some v2)(h3:W.cell? p3=some v3)(h4:W.cell? p4=some v4)(h5:W.cell? p5=some v5)(h6:W.cell? p6=some v6)(h7:W.cell? p7=some v7)(h8:W.cell? p8=some v8)(h9:W.cell? p9=some v9) :
  w1.cell? p0=some v0∧w1.cell? p1=some v1∧w1.cell? p2=some v2∧w1.cell? p3=some v3∧w1.cell? p4=some v4∧w1.cell? p5=some v5∧w1.cell? p6=some v6∧w1.cell? p7=some v7∧w1.cell? p8=some v8∧w1.cell? p9=some v9:=
 ⟨box_ q h0,box_ q h1,box_ q h2,box_ q h3,box_ q h4,box_ q h5,box_ q h6,box_ q h7,box_ q h8,box_ q h9⟩
theorem box4 {W w1:World}(q:Q W w1){b:Nat}{x y z u:Value}(h0:W.cell? ⟨b,0,none⟩=some x)(h1:W.cell? ⟨b,1,none⟩=some y)(h2:W.cell? ⟨b,2,none⟩=some z)(h3:W.cell? ⟨b,3,none⟩=some u) :
 w1.cell? ⟨b,0,none⟩=some x∧w1.cell? ⟨b,1,none⟩=some y∧w1.cell? ⟨b,2,none⟩=some z∧w1.cell? ⟨b,3,none⟩=some u:=⟨box_ q h0,box_ q h1,box_ q h2,box_ q h3⟩
theorem box3 {W w1:World}(q:Q W w1){b:Nat}{x y z:Value}(h0:W.cell? ⟨b,0,none⟩=some x)(h1:W.cell? ⟨b,1,none⟩=some y)(h2:W.cell? ⟨b,2,none⟩=some z) :
 w1.cell? ⟨b,0,none⟩=some x∧w1.cell? ⟨b,1,none⟩=some y∧w1.cell? ⟨b,2,none⟩=some z:=⟨box_ q h0,box_ q h1,box_ q h2⟩
end
section
open Go.RowKit Dkm
def Dkm.Fil.row (f:Fil):List Value:=[.string f.nm,.string f.sf,.string f.wt]
abbrev Dkm.Fil.val (f:Fil):Value:=.agg #[.string f.nm,.string f.sf,.string f.wt]
def rows:List Fil→List Value
 | []=>[]
 | f :: l=>f.row++rows l
theorem rows_length (l:List Fil):(rows l).length=l.length*3:=by
 induction l with
 | nil=>rfl
 | cons f l ih=>simp only[rows,List.length_append,ih,List.length_cons,Fil.row,List.length_nil];omega
theorem rows_append (l m:List Fil):rows (l++m)=rows l++rows m:=by
 induction l with
 | nil=>rfl
 | cons f l ih=>simp[rows,ih]
theorem rows_at (l:List Fil)(k:Nat)(h:k<l.length)(j:Nat)(hj:j<3):(rows l)[k*3+j]? = (l[k]).row[j]?:=by
 induction l generalizing k with
 | nil=>simp at h
 | cons f l ih =>
   cases k with
   | zero =>
     simp only[rows,Nat.zero_mul,Nat.zero_add,List.getElem_cons_zero]
     exact List.getElem?_append_left (by simpa [Fil.row] using hj)
   | succ k =>
     simp only[rows,List.getElem_cons_succ]
     rw[List.getElem?_append_right (by simp[Fil.row];omega),←ih k (by simpa using h)]
     congr 1
     simp[Fil.row];omega
theorem rows_one (l:List Fil):∀ u∈rows l,u.oneCell'=true:=by
 induction l with
 | nil=>simp[rows]
 | cons f l ih =>
   intro u hu
   rcases List.mem_append.1 hu with h | h
   · simp only[Fil.row,List.mem_cons,List.not_mem_nil,or_false] at h
     rcases h with rfl | rfl | rfl<;>rfl
   · exact ih u h
def Files (w:World)(A:Option Addr)(n:Nat)(l:List Fil):Prop:=Holds w w.heap.size 3 A n (rows l)
theorem Files.q {w w':World}{A:Option Addr}{n:Nat}{l:List Fil}(h:Files w A n l)(hq:Q w w'):Files w' A n l:=Holds.q h hq
theorem Files.len {w:World}{A:Option Addr}{n:Nat}{l:List Fil}(h:Files w A n l):l.length=n:=by
 have:=h.1;rw[rows_length] at this;omega
theorem Files.load {w:World}{A:Option Addr}{n:Nat}{l:List Fil}(h:Files w A n l){k:Nat}(hk:k<n)(hl:k<l.length) :
  ∃ ad,A=some ad∧ad.block<w.heap.size∧w.cell? (ad.add (k*3))=some (.string l[k].nm)∧w.cell? ⟨(ad.add (k*3)).block,(ad.add (k*3)).off+1,none⟩=some (.string l[k].sf) ∧
    w.cell? ⟨(ad.add (k*3)).block,(ad.add (k*3)).off+2,none⟩=some (.string l[k].wt):=by
 have h0:=h.2 (k*3+0) _ (rows_at l k hl 0 (by omega))
 have h1:=h.2 (k*3+1) _ (rows_at l k hl 1 (by omega))
 have h2:=h.2 (k*3+2) _ (rows_at l k hl 2 (by omega))
 obtain⟨ad,rfl,hb,c0⟩:=h0
 obtain⟨_,e1,_,c1⟩:=h1
 obtain⟨_,e2,_,c2⟩:=h2
 injection e1 with e1;subst e1
 injection e2 with e2;subst e2
 rw[←addr_add] at c1 c2
 exact⟨ad,rfl,hb,c0,c1,c2⟩
end
section
open Go.RowKit Dkm
namespace Dkm
def kp (ks:List Int)(i:Nat)(f:Fil):Nat:=if i<ks.length then (min (max (ks.getD i 0) 0) (f.wt.size:Int)).toNat else 0
theorem kp_le (ks:List Int)(i:Nat)(f:Fil):kp ks i f≤f.wt.size:=by unfold kp;split<;>omega
theorem kp_in {ks:List Int}{i:Nat}(f:Fil)(h:i<ks.length):min (max ks[i] 0) (f.wt.size:Int)=(kp ks i f:Int):=by
 unfold kp;rw[if_pos h];simp only[List.getD_eq_getElem?_getD,List.getElem?_eq_getElem h,Option.getD_some];omega
theorem kp_out {ks:List Int}{i:Nat}(f:Fil)(h:¬ i<ks.length):kp ks i f=0:=by unfold kp;rw[if_neg h]
def crf (ks:List Int)(i:Nat)(f:Fil):Fil:=⟨f.nm,f.sf++f.wt.extract 0 (kp ks i f),⟨#[]⟩⟩
theorem crf_zero {ks:List Int}{i:Nat}{f:Fil}(h:kp ks i f=0):crf ks i f=⟨f.nm,f.sf,⟨#[]⟩⟩:=by
 unfold crf;rw[h]
 have e:f.wt.extract 0 0=⟨#[]⟩:=by ext1;simp
 rw[e]
 congr 1
 ext1;simp
def crl (ks:List Int)(l:List Fil)(k:Nat):List Fil:=(l.take k).mapIdx (crf ks)++l.drop k
theorem crl_zero (ks:List Int)(l:List Fil):crl ks l 0=l:=by simp[crl]
theorem crl_len (ks:List Int)(l:List Fil)(k:Nat):(crl ks l k).length=l.length:=by
 simp[crl];omega
theorem crl_get? (ks:List Int)(l:List Fil)(k:Nat)(h:k<l.length):(crl ks l k)[k]? = some l[k]:=by
 unfold crl
 rw[List.getElem?_append_right (by simp;omega)]
 simp only[List.length_mapIdx,List.length_take,show k - min k l.length=0 by omega,List.getElem?_drop,Nat.add_zero]
 exact List.getElem?_eq_getElem h
theorem crl_get (ks:List Int)(l:List Fil)(k:Nat)(h:k<l.length)(h':k<(crl ks l k).length):(crl ks l k)[k]=l[k]:=by
 have e:=crl_get? ks l k h
 rw[List.getElem?_eq_getElem h'] at e
 injection e
theorem crl_succ (ks:List Int)(l:List Fil)(k:Nat)(h:k<l.length):crl ks l (k+1)=(crl ks l k).set k (crf ks k l[k]):=by
 unfold crl
 have e:((l.take k).mapIdx (crf ks)).length=k:=by simp;omega
 rw[List.take_succ_eq_append_getElem h,List.mapIdx_append,List.set_append_right _ _ (by omega),List.append_assoc]
 congr 1
 rw[List.drop_eq_getElem_cons h,e,Nat.sub_self,List.set_cons_zero]
 simp[show min k l.length=k by omega]
def croom (ks:List Int)(l:List Fil)(room:Int):Nat→Int
 | 0=>room
 | k+1=>wrap64 (croom ks l room k+((((l.getD k ⟨⟨#[]⟩,⟨#[]⟩,⟨#[]⟩⟩).wt.size:Nat):Int) - (kp ks k (l.getD k ⟨⟨#[]⟩,⟨#[]⟩,⟨#[]⟩⟩):Nat)))
theorem croom_succ (ks:List Int)(l:List Fil)(room:Int)(k:Nat)(h:k<l.length):croom ks l room (k+1)=wrap64 (croom ks l room k+((l[k].wt.size:Int) - (kp ks k l[k]:Int))):=by
 simp only[croom,List.getD_eq_getElem?_getD,List.getElem?_eq_getElem h,Option.getD_some]
def crs (d:Dk)(ks:List Int):Dk:=⟨crl ks d.fs d.fs.length,croom ks d.fs d.room d.fs.length,-1,false⟩
end Dkm
def Ints (w:World)(A:Option Addr)(n:Nat)(ks:List Int):Prop:=Holds w w.heap.size 1 A n (ks.map (Value.int .i64))
theorem Ints.q {w w':World}{A:Option Addr}{n:Nat}{l:List Int}(h:Ints w A n l)(hq:Q w w'):Ints w' A n l:=Holds.q h hq
theorem Ints.len {w:World}{A:Option Addr}{n:Nat}{l:List Int}(h:Ints w A n l):l.length=n:=by
 have:=h.1;simp at this;exact this
theorem Ints.load {w:World}{A:Option Addr}{n:Nat}{l:List Int}(h:Ints w A n l){k:Nat}(hl:k<l.length) :
 ∃ ad,A=some ad∧ad.block<w.heap.size∧w.cell? (ad.add k)=some (.int .i64 l[k]):=h.2 k _ (by simp[hl])
theorem Ints.none_ (w:World)(A:Option Addr):Ints w A 0 []:=Holds.none_ _ _ _ _
end
end Go.Proofs.YtccoknaaofmbcaaGreatDoor
