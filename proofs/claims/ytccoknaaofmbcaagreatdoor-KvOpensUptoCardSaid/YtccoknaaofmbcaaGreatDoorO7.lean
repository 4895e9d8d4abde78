/- Table2, Table3, Less, TableRef, TableRef2, TableRef3, TableRef4, TableRef5, RunMay, RunTake, DecRef, DecRefText, SumRefOpen: merged. -/
import Derived.Test.YtccoknaaofmbcaaGreatDoorO6
import Derived.Test.YtccoknaaofmbcaaGreatDoorO4
import Derived.Test.YtccoknaaofmbcaaGreatDoorO1
import Derived.Laws.StructEq
import Derived.Deep.DeepCutAuto
import Derived.StillTailTactics
import Derived.Test.YtccoknaaofmbcaaGreatDoorO2
import Derived.Deep.LoopGhost
set_option linter.unusedVariables false
set_option linter.unusedSimpArgs false
set_option maxRecDepth 100000
set_option maxHeartbeats 16000000
open Go.Lib (hid)
namespace Go.Proofs.YtccoknaaofmbcaaGreatDoor
section
open Go.RowKit Prm
theorem deed_act_put (x:Wr)(w:World)(h:x.del=false) :
  Calls Tryz.prog 173 #[.agg #[.string x.key,.string x.val,.bool x.del]] w fun e w'=>e=.returned (.func (.func 201) #[x.v] #[])∧Q w w':=by
 have:=deed_act x w
 rw[h] at this
 exact this
theorem deed_act_drop (x:Wr)(w:World)(h:x.del=true) :
  Calls Tryz.prog 173 #[.agg #[.string x.key,.string x.val,.bool x.del]] w fun e w'=>e=.returned (.func (.func 200) #[x.v] #[])∧Q w w':=by
 have:=deed_act x w
 rw[h] at this
 exact this
def ApS (w:World)(l:List Pr)(ws:List Wr)(k:Nat)(v:Value)(wr:World):Prop:=
 ∃ A1 c1,v=.slice A1 (apply l (ws.take k)).length c1∧OwnK pairK wr w.heap.size A1 (apply l (ws.take k)).length c1 (apply l (ws.take k))∧Q w wr
theorem apply_any (A A2:Option Addr)(n c m c2:Nat)(l:List Pr)(ws:List Wr)(w:World)(hd:In_ pairK w A n c l)(hw:Lst writeK w A2 m ws)(hb:(n+m)*32≤140737488355328) :
  Calls Tryz.prog 140 #[.slice A n c,.slice A2 m c2] w fun e w'=>RetL pairK w (apply l ws).length (apply l ws) e w':=by
 have HD:=hid hd
 have HW:=hid hw
 have HL:=hid hd.len
 have HWL:=hid hw.len
 clear hd hw
 go_enter Tryz.func140,Tryz.ntmps140
 go_wp2_with fail
 refine(clonePairs A n c l _ HD.out).mono ?_
 rintro e w1 ⟨A1,c1,rfl,o1,q1⟩
 have S0:=hid (show ApS w l ws 0 (.slice A1 n c1) w1 from ⟨A1,c1,by rw[←HL.out];rfl,by rw[show (apply l (ws.take 0)).length=n from HL.out];exact o1,q1⟩)
 clear o1 q1
 go_wp2
 go_loopw [0,12] (fun v i wr=>∃ k:Nat,k≤m∧i=.int .i64 k∧ApS w l ws k v wr) (fun _ i _=>m - (intOf i).toNat)
 case atStart=>exact⟨0,Nat.zero_le _,rfl,S0.out⟩
 case round =>
  obtain⟨k,hk,rfl,A3,c3,rfl,o3,q3⟩:=hrel
  have O3:=hid o3
  have Q3:=hid q3
  clear o3 q3
  by_cases hlt:k<m
  · have hkl:k<ws.length:=by have:=HWL.out;omega
    have hln:(apply l (ws.take k)).length≤n+k:=by
     have h1:=apply_len l (ws.take k)
     have h2:=HL.out
     have h3:=List.length_take_le k ws
     omega
    have hsn:=apply_snoc l ws hkl
    obtain⟨ad,rfl,hab,x0,x1,x2⟩:=load_write (HW.out.q Q3.out) hlt hkl
    have HS:=hid hsn
    have HN:=hid (show ((apply l (ws.take k)).length+1)*32≤140737488355328 by omega)
    clear hsn hln
    have hkm:(k:Int)<(m:Int):=by omega
    by_cases hdl:ws[k].del=true
    · have hE:=hid (show apply l (ws.take (k+1))=drop (apply l (ws.take k)) ws[k].key by rw[HS.out,act_drop hdl])
      have HDl:=hid hdl
      clear hdl
      generalize ws[k]=x at x0 x1 x2 hE HDl
      go_wp2_with fail
      refine(deed_act_drop x _ HDl.out).mono ?_
      rintro e w4 ⟨rfl,q4⟩
      have Q4:=hid ((Q.refl wr).alloc (.cells #[.string x.key,.string x.val,.bool x.del] 73) |>.trans q4)
      clear q4
      go_wp2_with fail
      refine(deed_drop x w.heap.size A3 _ c3 _ _ (O3.out.q Q4.out) (Q3.out.trans Q4.out).size).mono ?_
      rintro e w5 ⟨A5,c5,rfl,o5,b5⟩
      have S5:=hid (show ApS w l ws (k+1) (.slice A5 (drop (apply l (ws.take k)) x.key).length c5) w5 from ⟨A5,c5,by rw[hE.out],by rw[hE.out];exact o5,(Q3.out.trans Q4.out).below.trans b5⟩)
      clear o5 b5
      go_wp2
      go_roundw
      case rel=>exact⟨k+1,by omega,by go_num,S5.out⟩
      case measure=>simp[intOf];omega
    · have hdf:ws[k].del=false:=by simpa using hdl
      have hE:=hid (show apply l (ws.take (k+1))=put (apply l (ws.take k)) ⟨ws[k].key,ws[k].val⟩ by rw[HS.out,act_put hdf])
      have HDl:=hid hdf
      clear hdl hdf
      generalize ws[k]=x at x0 x1 x2 hE HDl
      go_wp2_with fail
      refine(deed_act_put x _ HDl.out).mono ?_
      rintro e w4 ⟨rfl,q4⟩
      have Q4:=hid ((Q.refl wr).alloc (.cells #[.string x.key,.string x.val,.bool x.del] 73) |>.trans q4)
      clear q4
      go_wp2_with fail
      refine(deed_put x w.heap.size A3 _ c3 _ _ (O3.out.q Q4.out) HN.out (Q3.out.trans Q4.out).size).mono ?_
      rintro e w5 ⟨A5,c5,rfl,o5,b5⟩
      have S5:=hid (show ApS w l ws (k+1) (.slice A5 (put (apply l (ws.take k)) ⟨x.key,x.val⟩).length c5) w5 from ⟨A5,c5,by rw[hE.out],by rw[hE.out];exact o5,(Q3.out.trans Q4.out).below.trans b5⟩)
      clear o5 b5
      go_wp2
      go_roundw
      case rel=>exact⟨k+1,by omega,by go_num,S5.out⟩
      case measure=>simp[intOf];omega
  · have hkm:k=m:=by omega
    have HE:=hid (show ws.take k=ws by rw[List.take_of_length_le (by rw[HWL.out];omega)])
    clear hkm
    go_wp2
    go_ret
    exact⟨A3,c3,by rw[HE.out];rfl,by have:=O3.out;rw[HE.out] at this;exact this,Q3.out⟩
theorem tput_any (key val:ByteArray)(A:Option Addr)(n c:Nat)(l:List Pr)(w:World)(hd:In_ pairK w A n c l)(hb:(n+1)*32≤140737488355328) :
  Calls Tryz.prog 141 #[.slice A n c,.string key,.string val] w fun e w'=>RetL pairK w (put l ⟨key,val⟩).length (put l ⟨key,val⟩) e w':=by
 have hw:=(lit_write w ⟨key,val,false⟩).lst
 have K1:=hid (apply_any A (some ⟨w.heap.size,0,none⟩) n c 1 1 l [⟨key,val,false⟩] _ (hd.q ((Q.refl w).alloc (.cells #[.string key,.string val,.bool false] 73))) hw hb)
 clear hd hw
 go_enter Tryz.func141,Tryz.ntmps141
 go_wp2_with fail
 refine K1.out.mono ?_
 rintro e w1 ⟨A1,c1,rfl,o1,q1⟩
 rw[show apply l [⟨key,val,false⟩]=put l ⟨key,val⟩ from rfl] at o1 ⊢
 go_wp2
 go_ret
 exact⟨A1,c1,rfl,o1.lower (by simp),((Q.refl w).alloc _).trans q1⟩
end
section
open Go.RowKit Prm
theorem filter_yes {l:List Pr}{f:Pr→Bool}{k:Nat}(hk:k<l.length)(h:f l[k]=true):(l.take (k+1)).filter f=(l.take k).filter f++[l[k]]:=by
 rw[List.take_succ_eq_append_getElem hk,List.filter_append,List.filter_cons,h];rfl
theorem filter_no {l:List Pr}{f:Pr→Bool}{k:Nat}(hk:k<l.length)(h:f l[k]=false):(l.take (k+1)).filter f=(l.take k).filter f:=by
 rw[List.take_succ_eq_append_getElem hk,List.filter_append,List.filter_cons,h];simp
theorem right_cons (p q:Pr)(l:List Pr):right (p :: q :: l)=(lt p.key q.key&&right (q :: l)):=rfl
theorem right_all:∀ {l:List Pr},(∀ i,∀ h:i+1<l.length,lt (l[i]'(by omega)).key l[i+1].key=true)→right l=true
  | [],_=>rfl
  | [p],_=>rfl
  | p :: q :: l,h=>by
    rw[right_cons,show lt p.key q.key=true from h 0 (by simp),Bool.true_and]
    exact right_all fun i hi=>h (i+1) (by simpa using hi)
theorem right_not:∀ {l:List Pr} {i:Nat} (h:i+1<l.length),lt (l[i]'(by omega)).key l[i+1].key=false→right l=false
  | p :: q :: l,0,_,h=>by rw[right_cons];simp only[List.getElem_cons_zero,List.getElem_cons_succ] at h;rw[h];rfl
  | p :: q :: l,i+1,hi,h=>by
    rw[right_cons,right_not (l:=q :: l) (i:=i) (by simpa using hi) h,Bool.and_false]
theorem right_any (A:Option Addr)(n c:Nat)(l:List Pr)(w:World)(hd:Lst pairK w A n l)(hmx:n≤maxLen) :
  Calls Tryz.prog 179 #[.slice A n c] w fun e w'=>e=.returned (.bool (right l))∧Q w w':=by
 have HD:=hid hd
 have HL:=hid hd.len
 unfold maxLen at hmx
 clear hd
 go_enter Tryz.func179,Tryz.ntmps179
 go_wp2
 go_loopw [3] (fun i wr=>∃ k:Nat,k≤n∧i=.int .i64 ((k:Int)+1)∧Q w wr∧∀ j,∀ h:j+1<l.length,j<k→lt (l[j]'(by omega)).key l[j+1].key=true) (fun i _=>n+1 - (intOf i).toNat)
 case atStart=>exact⟨0,Nat.zero_le _,by go_num,Q.refl _,fun j _ h=>by omega⟩
 case round =>
  obtain⟨k,hk,rfl,q,hall⟩:=hrel
  have HA:=hid hall
  have HQ:=hid q
  clear hall q
  by_cases hlt:k+1<n
  · have hkl:k+1<l.length:=by have:=HL.out;omega
    have hkl0:k<l.length:=by omega
    obtain⟨ad,rfl,hab,x0,x1⟩:=load_pair (HD.out.q HQ.out) (Nat.lt_of_succ_lt hlt) hkl0
    obtain⟨ad',e,hab',y0,y1⟩:=load_pair (HD.out.q HQ.out) hlt hkl
    injection e with e
    subst e
    have e0:(k:Int)+1 - 1=k:=by omega
    have e1:IntKind.i64.wrap ((k:Int)+1 - 1)=k:=by rw[IntKind.wrap_i64];omega
    have e2:((k:Int)+1).toNat=k+1:=by omega
    have e3:(k:Int)+1<(n:Int):=by omega
    have e4:(k:Int)<(n:Int):=by omega
    have e5:(0:Int)≤(k:Int)+1:=by omega
    by_cases hh:lt l[k].key l[k+1].key=true
    · have hb:=leq_lt l[k+1].key l[k].key
      rw[hh] at hb
      have HN:=hid (fun (j:Nat) (h:j+1<l.length) (hj:j<k+1)=>show lt (l[j]'(by omega)).key l[j+1].key=true from by
       by_cases e:j<k
       · exact HA.out j h e
       · have e:j=k:=by omega
         subst e
         exact hh)
      clear hh x1 y1
      generalize l[k].key=a at x0 hb
      generalize l[k+1].key=b at y0 hb
      go_wp2
      go_quiet (fail)
      all_goals
        go_wp2
        go_roundw
        case rel=>exact⟨k+1,by omega,by go_num,HQ.out.drewN _,HN.out⟩
        case measure=>simp[intOf];omega
    · have hh':lt l[k].key l[k+1].key=false:=by simpa using hh
      have hb:=leq_lt l[k+1].key l[k].key
      rw[hh'] at hb
      have HE:=hid (right_not hkl hh')
      clear hh hh' x1 y1
      generalize l[k].key=a at x0 hb
      generalize l[k+1].key=b at y0 hb
      go_wp2
      go_quiet (fail)
      all_goals
        go_wp2
        go_ret
        exact⟨by rw[HE.out];rfl,HQ.out.drewN _⟩
  · have HE:=hid (show right l=true from right_all fun i hi=>HA.out i hi (by have:=HL.out;omega))
    have e3:¬ ((k:Int)+1<(n:Int)):=by omega
    go_wp2
    go_ret
    exact⟨by rw[HE.out];rfl,HQ.out⟩
end
section
open Go.RowKit Prm
theorem less_ne {a b:UInt8}(x y:List UInt8)(h:a≠b):Op.bytesLess (a :: x) (b :: y)=decide (a.toNat<b.toNat):=by
 simp only[Op.bytesLess]
 rw[show (a == b)=false by simpa using h,Bool.false_and,Bool.or_false]
 rfl
theorem less_same (a:UInt8)(x y:List UInt8):Op.bytesLess (a :: x) (a :: y)=Op.bytesLess x y:=by
 simp[Op.bytesLess]
theorem ldrop_at (s:ByteArray)(k:Nat)(h:k<s.size):s.data.toList.drop k=s[k] :: s.data.toList.drop (k+1):=by
 rw[List.drop_eq_getElem_cons (by simpa using h)];rfl
theorem drop_no (s:ByteArray)(k:Nat)(h:s.size≤k):s.data.toList.drop k=[]:=List.drop_of_length_le (by simpa using h)
theorem less_any (s t:ByteArray)(w:World)(hs:s.size≤maxLen)(ht:t.size≤maxLen) :
  Calls Tryz.prog 129 #[.string s,.string t] w fun e w'=>e=.returned (.bool (lt s t))∧∃ n,w'=w.drewN n:=by
 unfold maxLen at hs ht
 go_enter Tryz.func129,Tryz.ntmps129
 go_wp2
 go_loopw [5] (fun i wr=>∃ k:Nat,k≤s.size∧k≤t.size∧i=.int .i64 k∧(∃ n,wr=w.drewN n)∧lt s t=Op.bytesLess (s.data.toList.drop k) (t.data.toList.drop k)) (fun i _=>s.size - (intOf i).toNat)
 case atStart=>exact⟨0,Nat.zero_le _,Nat.zero_le _,rfl,⟨0,rfl⟩,rfl⟩
 case round =>
  obtain⟨k,hks,hkt,rfl,⟨q,rfl⟩,hl⟩:=hrel
  have HL:=hid hl
  clear hl
  by_cases h1:k<s.size
  · by_cases h2:k<t.size
    · have i1:(k:Int)<(s.size:Int):=by omega
      have i2:(k:Int)<(t.size:Int):=by omega
      by_cases hh:s[k]=t[k]
      · have hn:s[k].toNat=t[k].toNat:=by rw[hh]
        have b1:(s[k].toNat == t[k].toNat)=true:=by simpa using hn
        have b2:(s[k].toNat != t[k].toNat)=false:=by simpa using hn
        have HS:=hid (show lt s t=Op.bytesLess (s.data.toList.drop (k+1)) (t.data.toList.drop (k+1)) by rw[HL.out,ldrop_at s k h1,ldrop_at t k h2,hh,less_same])
        clear hh hn
        go_wp2
        go_quiet (fail)
        all_goals
          go_wp2
          go_roundw
          case rel=>exact⟨k+1,by omega,by omega,by go_num,⟨_,rfl⟩,HS.out⟩
          case measure=>simp[intOf];omega
      · have hn:s[k].toNat≠t[k].toNat:=fun e=>hh (UInt8.toNat_inj.1 e)
        have b1:(s[k].toNat == t[k].toNat)=false:=by simpa using hn
        have b2:(s[k].toNat != t[k].toNat)=true:=by simpa using hn
        have HS:=hid (show lt s t=decide (s[k].toNat<t[k].toNat) by rw[HL.out,ldrop_at s k h1,ldrop_at t k h2,less_ne _ _ hh])
        clear hh hn
        go_wp2
        go_quiet (fail)
        all_goals
          go_wp2
          go_quiet (fail)
          all_goals
            go_wp2
            go_ret
            exact⟨ret_bool (by rw[HS.out];first | done | rfl | (simp;done) | (simp;omega)),by first | exact⟨_,rfl⟩ | exact⟨_,by rw[World.drewN_drewN]⟩ | exact⟨_,by rw[World.drewN_drewN,World.drewN_drewN]⟩⟩
    · have HS:=hid (show lt s t=false by rw[HL.out,drop_no t k (by omega)];cases s.data.toList.drop k<;>rfl)
      have i1:(k:Int)<(s.size:Int):=by omega
      have e3:k=t.size:=by omega
      subst e3
      go_wp2
      go_ret
      exact⟨ret_bool (by rw[HS.out];first | done | rfl | (simp;done) | (simp;omega)),by first | exact⟨_,rfl⟩ | exact⟨_,by rw[World.drewN_drewN]⟩ | exact⟨_,by rw[World.drewN_drewN,World.drewN_drewN]⟩⟩
  · have e3:k=s.size:=by omega
    subst e3
    have HS:=hid (show lt s t=decide (s.size<t.size) by
     rw[HL.out,drop_no s _ (Nat.le_refl _)]
     by_cases h2:s.size<t.size
     · rw[ldrop_at t s.size h2,decide_eq_true h2];rfl
     · rw[drop_no t _ (by omega),decide_eq_false h2];rfl)
    go_wp2
    go_ret
    exact⟨ret_bool (by rw[HS.out];first | done | rfl | (simp;done) | (simp;omega)),by first | exact⟨_,rfl⟩ | exact⟨_,by rw[World.drewN_drewN]⟩ | exact⟨_,by rw[World.drewN_drewN,World.drewN_drewN]⟩⟩
end
section
open Go.RowKit Prm
theorem neq_pair (W:World)(f g:Pr):(binOp .neq 75 f.v g.v).run Tryz.prog W=.ok (.bool (!decide (f=g))) W:=by
 have u:=Tryz.underlying9
 have hS:Tryz.prog.underlying 75 = some (.struct (Tryz.prog.fieldsOf 75)):=by kernel_rfl
 have hp:Tryz.prog.stoodInHeld 75 = false:=by kernel_rfl
 have a3:=Tryz.isAgg9
 have z3:=Tryz.sizeOf9
 obtain⟨a,b⟩:=f
 obtain⟨a',b'⟩:=g
 rw[run_neq_struct,show (10000:Nat)=9999+1 from rfl,run_equalIn_agg W 9999 _ _ _ hS hp]
 simp only[Program.fieldsOf,Tryz.underlying75]
 go_simp
 simp only[str_inj]
 by_cases h1:a=a'<;>by_cases h2:b=b'<;>simp[h1,h2]
theorem refSame_any (A B:Option Addr)(n c m d:Nat)(l l2:List Pr)(w:World)(h1:Lst pairK w A n l)(h2:Lst pairK w B m l2)(hn:n≤maxLen)(hm:m≤maxLen) :
  Calls Tryz.prog 67 #[.slice A n c,.slice B m d] w fun e w'=>e=.returned (.bool (decide (l=l2)))∧Q w w':=by
 unfold maxLen at hn hm
 have H1:=hid h1
 have H2:=hid h2
 have L1:=hid h1.len
 have L2:=hid h2.len
 clear h1 h2
 by_cases hnm:n=m
 · subst hnm
   go_enter Tryz.func67,Tryz.ntmps67
   go_wp2
   go_loopw [5] (fun i wr=>∃ k:Nat,k≤n∧i=.int .i64 k∧Q w wr∧l.take k=l2.take k) (fun i _=>n - (intOf i).toNat)
   case atStart=>exact⟨0,Nat.zero_le _,rfl,Q.refl _,by simp⟩
   case round =>
    obtain⟨k,hk,rfl,hq,ht⟩:=hrel
    have HT:=hid ht
    clear ht
    by_cases hlt:k<n
    · have k1:k<l.length:=by have:=L1.out;omega
      have k2:k<l2.length:=by have:=L2.out;omega
      obtain⟨ad,rfl,hb,c0,c1⟩:=load_pair (H1.out.q hq) hlt k1
      obtain⟨ae,rfl,he,d0,d1⟩:=load_pair (H2.out.q hq) hlt k2
      have hne:=fun W=>neq_pair W l[k] l2[k]
      have hkn:(k:Int)<(n:Int):=by omega
      by_cases heq:l[k]=l2[k]
      · have hd:decide (l[k]=l2[k])=true:=by simpa using heq
        have HE:=hid heq
        clear heq
        go_wp2
        go_quiet (fail)
        go_wp2
        go_roundw
        case rel=>exact⟨k+1,by omega,by go_num,hq.drewN _,by rw[List.take_succ_eq_append_getElem k1,List.take_succ_eq_append_getElem k2,HT.out,HE.out]⟩
        case measure=>simp[intOf];omega
      · have hd:decide (l[k]=l2[k])=false:=by simpa using heq
        have HE:=hid heq
        clear heq
        go_wp2
        go_quiet (fail)
        go_wp2
        go_ret
        exact⟨ret_bool (by symm;simp only[decide_eq_false_iff_not];rintro rfl;exact HE.out rfl),hq.drewN _⟩
    · go_wp2
      go_ret
      exact⟨ret_bool (by symm;simp only[decide_eq_true_eq];have h1:=HT.out;rwa [List.take_of_length_le (by have:=L1.out;omega),List.take_of_length_le (by have:=L2.out;omega)] at h1),hq⟩
 · have n1:((n:Int) != (m:Int))=true:=by simp;omega
   have n2:(n != m)=true:=by simp;omega
   have n3:(n == m)=false:=by simp;omega
   have n4:((n:Int) == (m:Int))=false:=by simp;omega
   have n5:¬ (n:Int)=m:=by omega
   have HN:=hid hnm
   go_enter Tryz.func67,Tryz.ntmps67
   go_wp2
   go_ret
   exact⟨ret_bool (by symm;simp only[decide_eq_false_iff_not];rintro rfl;exact HN.out (L1.out.symm.trans L2.out)),Q.refl _⟩
theorem refFind_any (key:ByteArray)(A:Option Addr)(n c:Nat)(l:List Pr)(w:World)(hf:Lst pairK w A n l)(hn:n≤maxLen) :
  Calls Tryz.prog 96 #[.slice A n c,.string key] w fun e w'=>e=.returned (.tuple #[.string (find key l).1,.bool (find key l).2])∧w=w':=by
 have HF:=hid hf
 have HL:=hid hf.len
 unfold maxLen at hn
 clear hf
 go_enter Tryz.func96,Tryz.ntmps96
 go_wp2
 go_loop [6] (fun i=>∃ k:Nat,k≤n∧i=.int .i64 k∧find key l=find key (l.drop k)) (fun i=>n - (intOf i).toNat)
 case atStart=>exact⟨0,Nat.zero_le _,rfl,rfl⟩
 case round =>
  obtain⟨k,hk,rfl,hp⟩:=hrel
  have HP:=hid hp
  clear hp
  by_cases hlt:k<n
  · have hkl:k<l.length:=by have:=HL.out;omega
    obtain⟨ad,rfl,hb,c0,c1⟩:=load_pair HF.out hlt hkl
    have hkn:(k:Int)<(n:Int):=by omega
    have e1:=same_str l[k].key key
    by_cases hh:l[k].key=key
    · rw[decide_eq_true hh] at e1
      have HE:=hid (show find key l=(l[k].val,true) by rw[HP.out,List.drop_eq_getElem_cons hkl,find];simp[hasK,hh])
      clear hh
      go_wp2
      go_ret2
      exact⟨by rw[HE.out];rfl,rfl⟩
    · rw[decide_eq_false hh] at e1
      have HE:=hid (show find key l=find key (l.drop (k+1)) by rw[HP.out,List.drop_eq_getElem_cons hkl,find];simp[hasK,hh])
      clear hh
      go_wp2
      go_round
      case rel=>exact⟨k+1,by omega,by go_num,HE.out⟩
      case measure=>simp[intOf];omega
  · have HE:=hid (show find key l=(⟨#[]⟩,false) by rw[HP.out,List.drop_of_length_le (by have:=HL.out;omega)];rfl)
    go_wp2
    go_ret2
    exact⟨by rw[HE.out];rfl,rfl⟩
def FlS (w:World)(l:List Pr)(f:Pr→Bool)(k:Nat)(v:Value)(wr:World):Prop:=
 ∃ A1 c1,v=.slice A1 ((l.take k).filter f).length c1∧OwnK pairK wr w.heap.size A1 ((l.take k).filter f).length c1 ((l.take k).filter f)∧Q w wr
theorem refDrop_any (key:ByteArray)(A:Option Addr)(n c:Nat)(l:List Pr)(w:World)(hf:Lst pairK w A n l)(hb:n*32≤140737488355328) :
  Calls Tryz.prog 130 #[.slice A n c,.string key] w fun e w'=>RetL pairK w (drop l key).length (drop l key) e w':=by
 have HF:=hid hf
 have HL:=hid hf.len
 have HB:=hid hb
 have hn:n≤9223372036854775807:=by omega
 clear hf hb
 go_enter Tryz.func130,Tryz.ntmps130
 go_wp2
 go_loopw [5,6] (fun v i wr=>∃ k:Nat,k≤n∧i=.int .i64 k∧FlS w l (keep key) k v wr) (fun _ i _=>n - (intOf i).toNat)
 case atStart=>exact⟨0,Nat.zero_le _,rfl,none,0,rfl,OwnK.nil_ _ _ _,Q.refl _⟩
 case round =>
  obtain⟨k,hk,rfl,A3,c3,rfl,o3,q3⟩:=hrel
  have hfl:((l.take k).filter (keep key)).length≤k:=Nat.le_trans (List.length_filter_le _ _) (List.length_take_le _ _)
  have O3:=hid o3
  have Q3:=hid q3
  clear o3 q3
  by_cases hlt:k<n
  · have hkl : k < l.length:=by have:=HL.out;omega
    obtain⟨ad,rfl,hab,x0,x1⟩:=load_pair (HF.out.q Q3.out) hlt hkl
    have hkm:(k:Int)<(n:Int):=by omega
    have e1:=same_str l[k].key key
    by_cases hh:l[k].key=key
    · rw[decide_eq_true hh] at e1
      have HE:=hid (filter_no (f:=keep key) hkl (by simp[keep,hasK,hh]))
      have e2:(l[k].key.toList != key.toList)=false:=by simp[bne,e1]
      clear hh
      go_wp2
      go_roundw
      case rel=>exact⟨k+1,by omega,by go_num,A3,c3,by rw[HE.out],by rw[HE.out];exact O3.out,Q3.out⟩
      case measure=>simp[intOf];omega
    · rw[decide_eq_false hh] at e1
      have e2:(l[k].key.toList != key.toList)=true:=by simp[bne,e1]
      have HF2:=hid (filter_yes (f:=keep key) hkl (by simp[keep,hasK,hh]))
      have hlen2:=hid (show (((l.take k).filter (keep key)).length+1)*32≤140737488355328 by have:=HB.out;omega)
      have hlen3:=hid (show ((l.take (k+1)).filter (keep key)).length=((l.take k).filter (keep key)).length+1 by rw[HF2.out,List.length_append,List.length_singleton])
      clear hh
      generalize hgo:((l.take k).filter (keep key))=o at O3 hfl HF2 hlen2 hlen3 ⊢
      have HGo:=hid hgo
      clear hgo
      generalize hgx:l[k]=x at x0 x1 HF2 e1 e2
      have HGx:=hid hgx
      clear hgx
      go_wp2_with (at_builtin
                   refine wpl_appK pairK rfl (.tmp 20) (.tmp 25) 28 rfl rfl w.heap.size A3 o.length c3 o rfl (O3.out.alloc _) (some ⟨wr.heap.size,0,none⟩) 1 1 [x] rfl (lit_pair wr x) (fun e=>by cases e) hlen2.out (by have:=Q3.out.size;simp;omega) ?_
                   intro A5 c5 w5 o5 b5
                   have S5:=hid (show FlS w l (keep key) (k+1) (.slice A5 (o.length+1) c5) w5 from ⟨A5,c5,by rw[hlen3.out],by rw[hlen3.out,HF2.out];exact o5,((Q3.out.alloc _).below).trans b5⟩)
                   clear o5 b5)
      go_roundw
      case rel=>exact⟨k+1,by omega,by go_num,S5.out⟩
      case measure=>simp[intOf];omega
  · have HE:=hid (show (l.take k).filter (keep key)=drop l key by rw[List.take_of_length_le (by have:=HL.out;omega)];rfl)
    rw[HE.out] at O3 ⊢
    go_wp2
    go_ret
    exact⟨A3,c3,rfl,O3.out,Q3.out⟩
end
section
open Go.RowKit Prm
def KeysIn (l:List Pr):Prop:=∀ p∈l,p.key.size≤maxLen
theorem KeysIn.at_ {l:List Pr}(h:KeysIn l){k:Nat}(hk:k<l.length):l[k].key.size≤maxLen:=h _ (List.getElem_mem hk)
theorem refRight_any (A:Option Addr)(n c:Nat)(l:List Pr)(w:World)(hd:Lst pairK w A n l)(hmx:n≤maxLen)(hs:KeysIn l) :
  Calls Tryz.prog 157 #[.slice A n c] w fun e w'=>e=.returned (.bool (right l))∧Q w w':=by
 have HD:=hid hd
 have HL:=hid hd.len
 have HS:=hid hs
 unfold maxLen at hmx
 clear hd hs
 go_enter Tryz.func157,Tryz.ntmps157
 go_wp2
 go_loopw [3] (fun i wr=>∃ k:Nat,k≤n∧i=.int .i64 ((k:Int)+1)∧Q w wr∧∀ j,∀ h:j+1<l.length,j<k→lt (l[j]'(by omega)).key l[j+1].key=true) (fun i _=>n+1 - (intOf i).toNat)
 case atStart=>exact⟨0,Nat.zero_le _,by go_num,Q.refl _,fun j _ h=>by omega⟩
 case round =>
  obtain⟨k,hk,rfl,q,hall⟩:=hrel
  have HA:=hid hall
  have HQ:=hid q
  clear hall q
  by_cases hlt:k+1<n
  · have hkl:k+1<l.length:=by have:=HL.out;omega
    have hkl0:k<l.length:=by omega
    obtain⟨ad,rfl,hab,x0,x1⟩:=load_pair (HD.out.q HQ.out) (Nat.lt_of_succ_lt hlt) hkl0
    obtain⟨ad',e,hab',y0,y1⟩:=load_pair (HD.out.q HQ.out) hlt hkl
    injection e with e
    subst e
    have e1:IntKind.i64.wrap ((k:Int)+1 - 1)=k:=by rw[IntKind.wrap_i64];omega
    have e2:((k:Int)+1).toNat=k+1:=by omega
    have e3:(k:Int)+1<(n:Int):=by omega
    have e4:(k:Int)<(n:Int):=by omega
    have e5:(0:Int)≤(k:Int)+1:=by omega
    have K1:=hid (fun W=>less_any l[k].key l[k+1].key W (HS.out.at_ hkl0) (HS.out.at_ hkl))
    by_cases hh:lt l[k].key l[k+1].key=true
    · have HN:=hid (fun (j:Nat) (h:j+1<l.length) (hj:j<k+1)=>show lt (l[j]'(by omega)).key l[j+1].key=true from by
        by_cases e:j<k
        · exact HA.out j h e
        · have e:j=k:=by omega
          subst e
          exact hh)
      rw[hh] at K1
      clear hh x1 y1
      generalize l[k].key=a at x0 K1
      generalize l[k+1].key=b at y0 K1
      go_wp2
      go_quiet ((go_at_call 129;exact Calls.quiet_of (K1.out _)))
      all_goals
        go_wp2
        go_roundw
        case rel=>exact⟨k+1,by omega,by go_num,HQ.out.drewN _,HN.out⟩
        case measure=>simp[intOf];omega
    · have hh':lt l[k].key l[k+1].key=false:=by simpa using hh
      have HE:=hid (right_not hkl hh')
      rw[hh'] at K1
      clear hh hh' x1 y1
      generalize l[k].key=a at x0 K1
      generalize l[k+1].key=b at y0 K1
      go_wp2
      go_quiet ((go_at_call 129;exact Calls.quiet_of (K1.out _)))
      all_goals
        go_wp2
        go_ret
        exact⟨by rw[HE.out];rfl,HQ.out.drewN _⟩
  · have HE:=hid (show right l=true from right_all fun i hi=>HA.out i hi (by have:=HL.out;omega))
    have e3:¬ ((k:Int)+1<(n:Int)):=by omega
    go_wp2
    go_ret
    exact⟨by rw[HE.out];rfl,HQ.out⟩
end
section
open Go.RowKit Prm
def Lo (w:World)(t:List Pr)(v:Value)(wr:World):Prop:=
 ∃ A1 c1,v=.slice A1 t.length c1∧OwnK pairK wr w.heap.size A1 t.length c1 t∧Q w wr
theorem Lo.step {w wr w5:World}{o t:List Pr}{x:Pr}{A5:Option Addr}{c5:Nat}(ht:t=o++[x])(o5:OwnK pairK w5 w.heap.size A5 (o.length+1) c5 (o++[x]))(q:Q w wr)(b5:Below w.heap.size wr w5):Lo w t (.slice A5 (o.length+1) c5) w5:=by
 subst ht
 exact⟨A5,c5,by simp,by simpa using o5,q.below.trans b5⟩
theorem set_take_other {l:List Pr}{i k:Nat}{p:Pr}(hk:k<l.length)(h:k≠i):(l.set i p).take (k+1)=(l.set i p).take k++[l[k]]:=by
 rw[List.take_succ_eq_append_getElem (by simpa using hk),List.getElem_set_ne (by omega)]
theorem set_take_same {l:List Pr}{i:Nat}{p:Pr}(hk:i<l.length):(l.set i p).take (i+1)=(l.set i p).take i++[p]:=by
 rw[List.take_succ_eq_append_getElem (by simpa using hk),List.getElem_set_self]
theorem refPut_has (key val:ByteArray)(A:Option Addr)(n c:Nat)(l:List Pr)(w:World)(hf:Lst pairK w A n l)(hb:(n+1)*32≤140737488355328)(i:Nat)(hi:i<l.length)(hh:hasK key l[i]=true)(hfirst:∀ j,∀ hj:j<l.length,j<i→hasK key l[j]=false) :
  Calls Tryz.prog 81 #[.slice A n c,.string key,.string val] w fun e w'=>RetL pairK w n (l.set i ⟨key,val⟩) e w':=by
 have HF:=hid hf
 have HL:=hid hf.len
 have HB:=hid hb
 have K0:=hid (fun W (h:Lst pairK W A n l)=>refFind_any key A n c l W h (by unfold maxLen;omega))
 rw[find_at hi hh hfirst] at K0
 have HFi:=hid hfirst
 have HH:=hid hh
 have hn:n≤9223372036854775807:=by omega
 have hin:i<n:=by have:=HL.out;omega
 clear hf hb hh hfirst
 generalize hv:l[i].val=v0 at K0
 have HV:=hid hv
 clear hv
 go_enter Tryz.func81,Tryz.ntmps81
 go_wp2_with fail
 refine(K0.out _ HF.out).mono ?_
 rintro e w1 ⟨rfl,rfl⟩
 go_wp2
 go_loopw [9,10,11] (fun v d j wr=>∃ k:Nat,k≤n∧j=.int .i64 k∧d=.bool (decide (i<k))∧Lo w ((l.set i ⟨key,val⟩).take k) v wr) (fun _ _ j _=>n - (intOf j).toNat)
 case atStart=>exact⟨0,Nat.zero_le _,rfl,rfl,none,0,rfl,OwnK.nil_ _ _ _,Q.refl _⟩
 case round =>
  obtain⟨k,hk,rfl,rfl,A3,c3,rfl,o3,q3⟩:=hrel
  have hol:((l.set i ⟨key,val⟩).take k).length=k:=by rw[List.length_take,List.length_set];have:=HL.out;omega
  have O3:=hid o3
  have Q3:=hid q3
  clear o3 q3
  by_cases hlt:k<n
  · have hkl : k < l.length:=by have:=HL.out;omega
    obtain⟨ad,rfl,hab,x0,x1⟩:=load_pair (HF.out.q Q3.out) hlt hkl
    have hkm:(k:Int)<(n:Int):=by omega
    have e1:=same_str l[k].key key
    by_cases hki:k=i
    · subst hki
      rw[show decide (l[k].key=key)=true from HH.out] at e1
      have d1:decide (k<k)=false:=by simp
      have hE:=hid (set_take_same (p:=⟨key,val⟩) hkl)
      have hlen2:=hid (show (((l.set k ⟨key,val⟩).take k).length+1)*32≤140737488355328 by have:=HB.out;omega)
      have hdd:decide (k<k+1)=true:=by simp
      clear hol
      generalize ((l.set k ⟨key,val⟩).take k)=o at O3 hE hlen2 ⊢
      generalize l[k]=x at x0 x1 e1
      go_wp2_with (at_builtin
                   refine wpl_appK pairK rfl (.tmp 51) (.tmp 55) 28 rfl rfl w.heap.size A3 o.length c3 o rfl (O3.out.alloc _) (some ⟨wr.heap.size,0,none⟩) 1 1 [⟨key,val⟩] rfl (lit_pair wr ⟨key,val⟩) (fun e=>by cases e) hlen2.out (by have:=Q3.out.size;simp;omega) ?_
                   intro A5 c5 w5 o5 b5
                   have S5:=hid (Lo.step hE.out o5 (Q3.out.alloc _) b5)
                   clear o5 b5)
      go_roundw
      case rel=>exact⟨k+1,by omega,by go_num,by rw[hdd],S5.out⟩
      case measure=>simp[intOf];omega
    · have hE:=hid (set_take_other (p:=⟨key,val⟩) hkl hki)
      have hlen2:=hid (show (((l.set i ⟨key,val⟩).take k).length+1)*32≤140737488355328 by have:=HB.out;omega)
      by_cases hlt2:k<i
      · have d1:decide (i<k)=false:=by simp;omega
        have d2:decide (i<k+1)=false:=by simp;omega
        rw[show decide (l[k].key=key)=false from HFi.out k hkl hlt2] at e1
        rw[d1]
        clear hol
        generalize ((l.set i ⟨key,val⟩).take k)=o at O3 hE hlen2 ⊢
        generalize l[k]=x at x0 x1 e1 hE
        have D2:=hid d2
        clear d1 d2
        go_wp2_with (at_builtin
                     refine wpl_appK pairK rfl (.tmp 58) (.tmp 63) 28 rfl rfl w.heap.size A3 o.length c3 o rfl (O3.out.alloc _) (some ⟨wr.heap.size,0,none⟩) 1 1 [x] rfl (lit_pair wr x) (fun e=>by cases e) hlen2.out (by have:=Q3.out.size;simp;omega) ?_
                     intro A5 c5 w5 o5 b5
                     have S5:=hid (Lo.step hE.out o5 (Q3.out.alloc _) b5)
                     clear o5 b5)
        go_roundw
        case rel=>exact⟨k+1,by omega,by go_num,by rw[D2.out],S5.out⟩
        case measure=>simp[intOf];omega
      · have d1:decide (i<k)=true:=by simp;omega
        have d2:decide (i<k+1)=true:=by simp;omega
        rw[d1]
        clear hol
        generalize ((l.set i ⟨key,val⟩).take k)=o at O3 hE hlen2 ⊢
        generalize l[k]=x at x0 x1 e1 hE
        have D2:=hid d2
        clear d1 d2 e1
        go_wp2_with (at_builtin
                     refine wpl_appK pairK rfl (.tmp 58) (.tmp 63) 28 rfl rfl w.heap.size A3 o.length c3 o rfl (O3.out.alloc _) (some ⟨wr.heap.size,0,none⟩) 1 1 [x] rfl (lit_pair wr x) (fun e=>by cases e) hlen2.out (by have:=Q3.out.size;simp;omega) ?_
                     intro A5 c5 w5 o5 b5
                     have S5:=hid (Lo.step hE.out o5 (Q3.out.alloc _) b5)
                     clear o5 b5)
        go_roundw
        case rel=>exact⟨k+1,by omega,by go_num,by rw[D2.out],S5.out⟩
        case measure=>simp[intOf];omega
  · have HE:=hid (show (l.set i ⟨key,val⟩).take k=l.set i ⟨key,val⟩ from List.take_of_length_le (by rw[List.length_set];have:=HL.out;omega))
    have HN:=hid (show (l.set i ⟨key,val⟩).length=n by rw[List.length_set];exact HL.out)
    rw[HE.out] at O3 ⊢
    have d1:decide (i<k)=true:=by simp;omega
    rw[d1]
    clear d1
    generalize hgo:l.set i ⟨key,val⟩=o at O3 HN
    have HGo:=hid hgo
    clear hgo
    go_wp2
    go_ret
    exact⟨A3,c3,by rw[HN.out];rfl,by have:=O3.out;rw[HN.out] at this;rw[HGo.out];exact this,Q3.out⟩
end
section
open Go.RowKit Prm
def insAt (l:List Pr)(i:Nat)(p:Pr):List Pr:=l.take i++p :: l.drop i
theorem insAt_len {l:List Pr}{i:Nat}{p:Pr}(hi:i≤l.length):(insAt l i p).length=l.length+1:=by simp[insAt];omega
theorem insAt_lo {l:List Pr}{i k:Nat}{p:Pr}(hi:i≤l.length)(hk:k<i):(insAt l i p)[k]? = some (l[k]'(by omega)):=by
 unfold insAt
 rw[List.getElem?_append_left (by rw[List.length_take];omega),List.getElem?_take,if_pos hk,List.getElem?_eq_getElem]
theorem insAt_eq {l:List Pr}{i:Nat}{p:Pr}(hi:i≤l.length):(insAt l i p)[i]? = some p:=by
 unfold insAt
 have hl:(l.take i).length=i:=by rw[List.length_take];omega
 rw[List.getElem?_append_right (by omega),hl,Nat.sub_self];rfl
theorem insAt_hi {l:List Pr}{i k:Nat}{p:Pr}(hk:k<l.length)(hik:i≤k):(insAt l i p)[k+1]? = some l[k]:=by
 unfold insAt
 have hl:(l.take i).length=i:=by rw[List.length_take];omega
 rw[List.getElem?_append_right (by omega),hl,show k+1 - i=(k - i)+1 by omega,List.getElem?_cons_succ,List.getElem?_drop,show i+(k - i)=k by omega,List.getElem?_eq_getElem hk]
theorem take_next {l:List Pr}{k:Nat}{x:Pr}(h:l[k]? = some x):l.take (k+1)=l.take k++[x]:=by
 obtain⟨hk,rfl⟩:=List.getElem?_eq_some_iff.1 h
 exact List.take_succ_eq_append_getElem hk
theorem refPut_new (key val:ByteArray)(A:Option Addr)(n c:Nat)(l:List Pr)(w:World)(hf:Lst pairK w A n l)(hb:(n+1)*32≤140737488355328)(hks:KeysIn l)(hky:key.size≤maxLen)(hall:∀ a∈l,hasK key a=false)(i:Nat)(hi:i≤l.length)(hia:∀ h:i<l.length,aboveK key l[i]=true)(hfirst:∀ j,∀ hj:j<l.length,j<i→aboveK key l[j]=false) :
  Calls Tryz.prog 81 #[.slice A n c,.string key,.string val] w fun e w'=>RetL pairK w (n+1) (insAt l i ⟨key,val⟩) e w':=by
 have HF:=hid hf
 have HL:=hid hf.len
 have HB:=hid hb
 have K0:=hid (fun W (h:Lst pairK W A n l)=>refFind_any key A n c l W h (by unfold maxLen;omega))
 rw[find_none hall] at K0
 have HFi:=hid hfirst
 have HIa:=hid hia
 have HKs:=hid hks
 have HKy:=hid hky
 have HT:=hid (insAt_len (p:=⟨key,val⟩) hi)
 have hn:n≤9223372036854775807:=by omega
 have hin:i≤n:=by have:=HL.out;omega
 clear hf hb hfirst hia hks hky hall
 go_enter Tryz.func81,Tryz.ntmps81
 go_wp2_with fail
 refine(K0.out _ HF.out).mono ?_
 rintro e w1 ⟨rfl,rfl⟩
 go_wp2
 go_loopw [9,10,11] (fun v d j wr=>∃ k:Nat,k≤n∧j=.int .i64 k∧d=.bool (decide (i<k))∧Lo w ((insAt l i ⟨key,val⟩).take (if i<k then k+1 else k)) v wr) (fun _ _ j _=>n - (intOf j).toNat)
 case atStart=>exact⟨0,Nat.zero_le _,rfl,rfl,none,0,rfl,OwnK.nil_ _ _ _,Q.refl _⟩
 case round =>
  obtain⟨k,hk,rfl,rfl,A3,c3,rfl,o3,q3⟩:=hrel
  have O3:=hid o3
  have Q3:=hid q3
  clear o3 q3
  by_cases hlt:k<n
  · have hkl : k < l.length := by have:=HL.out;omega
    obtain⟨ad,rfl,hab,x0,x1⟩:=load_pair (HF.out.q Q3.out) hlt hkl
    have hkm:(k:Int)<(n:Int):=by omega
    have K1:=hid (fun W=>less_any key l[k].key W HKy.out (HKs.out.at_ hkl))
    by_cases hlt2:i<k
    · have d1:decide (i<k)=true:=by simp;omega
      have d2:decide (i<k+1)=true:=by simp;omega
      rw[d1]
      rw[if_pos hlt2] at O3 ⊢
      have hE:=hid (show (insAt l i ⟨key,val⟩).take (if i<k+1 then k+1+1 else k+1)=(insAt l i ⟨key,val⟩).take (k+1)++[l[k]] by
       rw[if_pos (by omega)];exact take_next (insAt_hi hkl (by omega)))
      have hol:((insAt l i ⟨key,val⟩).take (k+1)).length≤n:=by rw[List.length_take,HT.out];omega
      have hlen2:=hid (show (((insAt l i ⟨key,val⟩).take (k+1)).length+1)*32≤140737488355328 by have:=HB.out;omega)
      have D2:=hid d2
      clear hol d1 d2 K1
      generalize ((insAt l i ⟨key,val⟩).take (k+1))=o at O3 hE hlen2 ⊢
      generalize l[k]=x at x0 x1 hE
      go_wp2_with (at_builtin
                   refine wpl_appK pairK rfl (.tmp 58) (.tmp 63) 28 rfl rfl w.heap.size A3 o.length c3 o rfl (O3.out.alloc _) (some ⟨wr.heap.size,0,none⟩) 1 1 [x] rfl (lit_pair wr x) (fun e=>by cases e) hlen2.out (by have:=Q3.out.size;simp;omega) ?_
                   intro A5 c5 w5 o5 b5
                   have S5:=hid (Lo.step hE.out o5 (Q3.out.alloc _) b5)
                   clear o5 b5)
      go_roundw
      case rel=>exact⟨k+1,by omega,by go_num,by rw[D2.out],S5.out⟩
      case measure=>simp[intOf];omega
    · have d1 : decide (i < k) = false:=by simp;omega
      rw[d1]
      rw[if_neg hlt2] at O3 ⊢
      have hol:((insAt l i ⟨key,val⟩).take k).length≤n - 1:=by rw[List.length_take,HT.out];omega
      have hlen2:=hid (show (((insAt l i ⟨key,val⟩).take k).length+1)*32≤140737488355328 by have:=HB.out;omega)
      by_cases hki:k=i
      · subst hki
        have d2:decide (k<k+1)=true:=by simp
        have D2:=hid d2
        have hE1:=hid (show (insAt l k ⟨key,val⟩).take (k+1)=(insAt l k ⟨key,val⟩).take k++[⟨key,val⟩] from take_next (insAt_eq hi))
        have hE:=hid (show (insAt l k ⟨key,val⟩).take (if k<k+1 then k+1+1 else k+1)=(insAt l k ⟨key,val⟩).take k++[⟨key,val⟩]++[l[k]] by
         rw[if_pos (by omega),←hE1.out];exact take_next (insAt_hi hkl (Nat.le_refl _)))
        have hol2:((insAt l k ⟨key,val⟩).take k).length+1≤n:=by omega
        have hlen3:Hid ((((insAt l k ⟨key,val⟩).take k).length+1+1)*32≤140737488355328):=hid (Nat.le_trans (Nat.mul_le_mul_right 32 (Nat.succ_le_succ hol2)) HB.out)
        clear hol2
        rw[show lt key l[k].key=true from HIa.out hkl] at K1
        clear hol d1 d2 hlt2
        generalize ((insAt l k ⟨key,val⟩).take k)=o at O3 hE hE1 hlen2 hlen3 ⊢
        generalize hgx:l[k]=x at x0 x1 hE K1
        have HGx:=hid hgx
        clear hgx
        go_wp2_with fail
        refine(K1.out _).mono ?_
        rintro e w4 ⟨rfl,n4,rfl⟩
        go_upto_region 9 with (at_builtin
                               refine wpl_appK pairK rfl (.tmp 51) (.tmp 55) 28 rfl rfl w.heap.size A3 o.length c3 o rfl ((O3.out.q ((Q.refl wr).drewN n4)).alloc _) (some ⟨(wr.drewN n4).heap.size,0,none⟩) 1 1 [⟨key,val⟩] rfl (lit_pair (wr.drewN n4) ⟨key,val⟩) (fun e=>by cases e) hlen2.out (by have:=(Q3.out.drewN n4).size;simp at this ⊢;omega) ?_
                               intro A5 c5 w5 o5 b5)
        have S5:=hid (show Q w w5 from ((Q3.out.drewN n4).alloc (.cells #[.string key,.string val] 75)).below.trans b5)
        have O5:=hid (show OwnK pairK w5 w.heap.size A5 (o++[(⟨key,val⟩:Pr)]).length c5 (o++[⟨key,val⟩]) by rw[List.length_append,List.length_singleton];exact o5)
        have X5:=hid (show (o++[(⟨key,val⟩:Pr)]).length=o.length+1 by simp)
        clear x0 x1 o5 b5
        obtain⟨ad2,ha2,hab2,u0,u1⟩:=load_pair (HF.out.q S5.out) hlt hkl
        injection ha2 with ha2
        subst ha2
        rw[HGx.out] at u0 u1
        have O5':=hid (show OwnK pairK w5 w.heap.size A5 (o.length+1) c5 (o++[⟨key,val⟩]) by have:=O5.out;rw[X5.out] at this;exact this)
        go_wp2_with (at_builtin
                     refine wpl_appK pairK rfl (.tmp 58) (.tmp 63) 28 rfl rfl w.heap.size A5 (o.length+1) c5 (o++[⟨key,val⟩]) rfl (O5'.out.alloc _) (some ⟨w5.heap.size,0,none⟩) 1 1 [x] rfl (lit_pair w5 x) (fun e=>by cases e) hlen3.out (by have:=S5.out.size;simp;omega) ?_
                     intro A6 c6 w6 o6 b6
                     have S6:=hid (show Lo w ((insAt l k ⟨key,val⟩).take (if k<k+1 then k+1+1 else k+1)) (.slice A6 (o.length+1+1) c6) w6 from ⟨A6,c6,by rw[hE.out];simp,by rw[hE.out];have:=o6;simpa using this,(S5.out.alloc _).below.trans b6⟩)
                     clear o6 b6)
        go_roundw
        case rel=>exact⟨k+1,by omega,by go_num,by rw[D2.out],S6.out⟩
        case measure=>simp[intOf];omega
      · have hki2:k<i:=by omega
        have d2:decide (i<k+1)=false:=by simp;omega
        have D2:=hid d2
        have hE:=hid (show (insAt l i ⟨key,val⟩).take (if i<k+1 then k+1+1 else k+1)=(insAt l i ⟨key,val⟩).take k++[l[k]] by
         rw[if_neg (by omega)];exact take_next (insAt_lo hi hki2))
        rw[show lt key l[k].key=false from HFi.out k hkl hki2] at K1
        clear hol d1 d2 hlt2 hki
        generalize ((insAt l i ⟨key,val⟩).take k)=o at O3 hE hlen2 ⊢
        generalize l[k]=x at x0 x1 hE K1
        go_wp2_with fail
        refine(K1.out _).mono ?_
        rintro e w4 ⟨rfl,n4,rfl⟩
        go_wp2_with (at_builtin
                     refine wpl_appK pairK rfl (.tmp 58) (.tmp 63) 28 rfl rfl w.heap.size A3 o.length c3 o rfl ((O3.out.q ((Q.refl wr).drewN n4)).alloc _) (some ⟨(wr.drewN n4).heap.size,0,none⟩) 1 1 [x] rfl (lit_pair (wr.drewN n4) x) (fun e=>by cases e) hlen2.out (by have:=(Q3.out.drewN n4).size;simp at this ⊢;omega) ?_
                     intro A5 c5 w5 o5 b5
                     have S5:=hid (Lo.step hE.out o5 ((Q3.out.drewN n4).alloc _) b5)
                     clear o5 b5)
        go_roundw
        case rel=>exact⟨k+1,by omega,by go_num,by rw[D2.out],S5.out⟩
        case measure=>simp[intOf];omega
  · have hkn : k = n:=by omega
    subst hkn
    by_cases hik:i<k
    · have d1:decide (i<k)=true:=by simp;omega
      rw[d1]
      rw[if_pos hik] at O3 ⊢
      have HE:=hid (show (insAt l i ⟨key,val⟩).take (k+1)=insAt l i ⟨key,val⟩ from List.take_of_length_le (by rw[HT.out];have:=HL.out;omega))
      have HN:=hid (show (insAt l i ⟨key,val⟩).length=k+1 by rw[HT.out,HL.out])
      rw[HE.out] at O3 ⊢
      clear d1 hik
      generalize hgo:insAt l i ⟨key,val⟩=o at O3 HN ⊢
      have HGo:=hid hgo
      clear hgo
      go_wp2
      go_ret
      exact⟨A3,c3,by rw[HN.out];rfl,by have:=O3.out;rw[HN.out] at this;rw[HGo.out];exact this,Q3.out⟩
    · have hik':i=k:=by omega
      subst hik'
      have d1:decide (i<i)=false:=by simp
      rw[d1]
      rw[if_neg hik] at O3 ⊢
      have HE:=hid (show insAt l i ⟨key,val⟩=(insAt l i ⟨key,val⟩).take i++[⟨key,val⟩] by
       rw[←take_next (insAt_eq hi)];exact(List.take_of_length_le (by rw[HT.out];have:=HL.out;omega)).symm)
      have hol:((insAt l i ⟨key,val⟩).take i).length=i:=by rw[List.length_take,HT.out];have:=HL.out;omega
      have HO:=hid hol
      have hlen2:=hid (show (((insAt l i ⟨key,val⟩).take i).length+1)*32≤140737488355328 by rw[hol];exact HB.out)
      clear d1 hik hol
      generalize hgo:((insAt l i ⟨key,val⟩).take i)=o at O3 HE hlen2 HO ⊢
      have HGo:=hid hgo
      clear hgo
      go_wp2_with (at_builtin
                   refine wpl_appK pairK rfl (.tmp 67) (.tmp 71) 28 rfl rfl w.heap.size A3 o.length c3 o rfl (O3.out.alloc _) (some ⟨wr.heap.size,0,none⟩) 1 1 [⟨key,val⟩] rfl (lit_pair wr ⟨key,val⟩) (fun e=>by cases e) hlen2.out (by have:=Q3.out.size;simp;omega) ?_
                   intro A5 c5 w5 o5 b5
                   have O5:=hid o5
                   have B5:=hid b5
                   clear o5 b5)
      go_ret
      exact⟨A5,c5,by rw[HO.out];rfl,by have:=O5.out;rw[HO.out] at this;rw[HE.out];exact this,(Q3.out.alloc _).below.trans B5.out⟩
end
section
open Go.RowKit Prm
theorem trefPut_any (key val:ByteArray)(A:Option Addr)(n c:Nat)(l:List Pr)(w:World)(hf:Lst pairK w A n l)(hb:(n+1)*32≤140737488355328)(hks:KeysIn l)(hky:key.size≤maxLen) :
  Calls Tryz.prog 81 #[.slice A n c,.string key,.string val] w fun e w'=>RetL pairK w (put l ⟨key,val⟩).length (put l ⟨key,val⟩) e w':=by
 have hl:=hf.len
 rcases idx_cases (hasK key) l 0 with ⟨hp,hall⟩ | ⟨k,hk,hp,hkn,hfirst⟩
 · have hx:∃ i,∃ hi:i≤l.length,(∀ h:i<l.length,aboveK key l[i]=true)∧∀ j,∀ hj:j<l.length,j<i→aboveK key l[j]=false:=by
     rcases idx_cases (aboveK key) l 0 with ⟨_,halla⟩ | ⟨i,hi,_,hia,hfa⟩
     · exact⟨l.length,Nat.le_refl _,fun h=>absurd h (Nat.lt_irrefl _),fun j hj _=>halla _ (List.getElem_mem hj)⟩
     · exact⟨i,Nat.le_of_lt hi,fun _=>hia,hfa⟩
   obtain⟨i,hi,hia,hfa⟩:=hx
   have e:put l (⟨key,val⟩:Pr)=insAt l i ⟨key,val⟩:=by rw[put_new (p:=⟨key,val⟩) hall];exact ins_at (p:=⟨key,val⟩) hi hia hfa
   have e2:(put l (⟨key,val⟩:Pr)).length=n+1:=by rw[e,insAt_len hi,hl]
   simp only[e2]
   rw[e]
   exact refPut_new key val A n c l w hf hb hks hky hall i hi hia hfa
 · have e:put l (⟨key,val⟩:Pr)=l.set k ⟨key,val⟩:=put_has (p:=⟨key,val⟩) hk hkn hfirst
   have e2:(put l (⟨key,val⟩:Pr)).length=n:=by rw[e,List.length_set,hl]
   simp only[e2]
   rw[e]
   exact refPut_has key val A n c l w hf hb k hk hkn hfirst
def WKeysIn (l:List Wr):Prop:=∀ p∈l,p.key.size≤maxLen
theorem put_keys {l:List Pr}{p:Pr}(h:KeysIn l)(hp:p.key.size≤maxLen):KeysIn (put l p):=by
 intro q hq
 have hi:∀ (l:List Pr),KeysIn l→q∈ins p l→q.key.size≤maxLen:=by
  intro l
  induction l with
  | nil=>intro _ hq;simp[ins] at hq;subst hq;exact hp
  | cons a l ih =>
    intro h hq
    simp only[ins] at hq
    split at hq
    · rcases List.mem_cons.1 hq with rfl | hq
      · exact hp
      · exact h q hq
    · rcases List.mem_cons.1 hq with rfl | hq
      · exact h _ (by simp)
      · exact ih (fun x hx=>h x (by simp[hx])) hq
 have hs:∀ (l:List Pr),KeysIn l→q∈setF p l→q.key.size≤maxLen:=by
  intro l
  induction l with
  | nil=>intro _ hq;simp[setF] at hq
  | cons a l ih =>
    intro h hq
    simp only[setF] at hq
    split at hq
    · rcases List.mem_cons.1 hq with rfl | hq
      · exact hp
      · exact h q (by simp[hq])
    · rcases List.mem_cons.1 hq with rfl | hq
      · exact h _ (by simp)
      · exact ih (fun x hx=>h x (by simp[hx])) hq
 unfold put at hq
 split at hq
 · exact hs l h hq
 · exact hi l h hq
theorem drop_keys {l:List Pr}{k:ByteArray}(h:KeysIn l):KeysIn (drop l k):=fun q hq=>h q (List.mem_filter.1 hq).1
theorem act_keys {l:List Pr}{x:Wr}(h:KeysIn l)(hx:x.key.size≤maxLen):KeysIn (act l x):=by
 unfold act;split
 · exact drop_keys h
 · exact put_keys h hx
theorem apply_keys {ws:List Wr}:∀ {l:List Pr},KeysIn l→WKeysIn ws→KeysIn (apply l ws):=by
 induction ws with
 | nil=>intro l h _;exact h
 | cons x ws ih=>intro l h hw;exact ih (l:=act l x) (act_keys h (hw x (by simp))) (fun y hy=>hw y (by simp[hy]))
theorem refApply_any (A A2:Option Addr)(n c m c2:Nat)(l:List Pr)(ws:List Wr)(w:World)(hd:In_ pairK w A n c l)(hw:Lst writeK w A2 m ws)(hb:(n+m)*32≤140737488355328)(hks:KeysIn l)(hwk:WKeysIn ws) :
  Calls Tryz.prog 80 #[.slice A n c,.slice A2 m c2] w fun e w'=>RetL pairK w (apply l ws).length (apply l ws) e w':=by
 have HD:=hid hd
 have HW:=hid hw
 have HL:=hid hd.len
 have HWL:=hid hw.len
 have HKs:=hid hks
 have HWk:=hid hwk
 have HNil:=hid hd.nil
 clear hd hw hks hwk
 go_enter Tryz.func80,Tryz.ntmps80
 go_wp2_with (at_builtin
              refine wpl_appK pairK rfl (.tmp 7) (.tmp 8) 28 rfl rfl w.heap.size (some ⟨w.heap.size,0,none⟩) 0 0 [] rfl (OwnK.lit0 pairK w _ (Nat.le_refl _)) A n c l rfl (HD.out.lst.q ((Q.refl _).alloc _)) HNil.out (by have:=HD.out.few;simpa using this) (by simp) ?_
              intro A1 c1 w1 o1 b1
              have S0:=hid (show ApS w l ws 0 (.slice A1 n c1) w1 from ⟨A1,c1,by rw[←HL.out];rfl,by rw[show (apply l (ws.take 0)).length=n from HL.out];show OwnK pairK w1 w.heap.size A1 n c1 l;simpa using o1,((Q.refl w).alloc _).below.trans b1⟩)
              clear o1 b1)
 go_loopw [5,6] (fun v i wr=>∃ k:Nat,k≤m∧i=.int .i64 k∧ApS w l ws k v wr) (fun _ i _=>m - (intOf i).toNat)
 case atStart=>exact⟨0,Nat.zero_le _,rfl,by first | exact S0.out | (rw[Nat.zero_add];exact S0.out)⟩
 case round =>
  obtain⟨k,hk,rfl,A3,c3,rfl,o3,q3⟩:=hrel
  have O3:=hid o3
  have Q3:=hid q3
  clear o3 q3
  by_cases hlt:k<m
  · have hkl:k<ws.length:=by have:=HWL.out;omega
    have hln:(apply l (ws.take k)).length≤n+k:=by
     have h1:=apply_len l (ws.take k)
     have h2:=HL.out
     have h3:=List.length_take_le k ws
     omega
    have hsn:=apply_snoc l ws hkl
    obtain⟨ad,rfl,hab,x0,x1,x2⟩:=load_write (HW.out.q Q3.out) hlt hkl
    have HS:=hid hsn
    have HN:=hid (show ((apply l (ws.take k)).length+1)*32≤140737488355328 by omega)
    have HN0:=hid (show (apply l (ws.take k)).length*32≤140737488355328 by omega)
    have HAk:=hid (show KeysIn (apply l (ws.take k)) from apply_keys HKs.out fun x hx=>HWk.out x (List.mem_of_mem_take hx))
    have HXk:=hid (show ws[k].key.size≤maxLen from HWk.out _ (List.getElem_mem hkl))
    clear hsn hln
    have hkm:(k:Int)<(m:Int):=by omega
    by_cases hdl:ws[k].del=true
    · have hE:=hid (show apply l (ws.take (k+1))=drop (apply l (ws.take k)) ws[k].key by rw[HS.out,act_drop hdl])
      generalize ws[k]=x at x0 x1 x2 hE hdl HXk
      rw[hdl] at x2
      clear hdl
      go_wp2_with fail
      refine(refDrop_any x.key A3 _ c3 _ _ (O3.out.lst) HN0.out).mono ?_
      rintro e w5 ⟨A5,c5,rfl,o5,q5⟩
      have S5:=hid (show ApS w l ws (k+1) (.slice A5 (drop (apply l (ws.take k)) x.key).length c5) w5 from ⟨A5,c5,by rw[hE.out],by rw[hE.out];exact o5.lower Q3.out.size,Q3.out.trans q5⟩)
      clear o5 q5
      go_wp2
      go_roundw
      case rel=>exact⟨k+1,by omega,by go_num,S5.out⟩
      case measure=>simp[intOf];omega
    · have hdf:ws[k].del=false:=by simpa using hdl
      have hE:=hid (show apply l (ws.take (k+1))=put (apply l (ws.take k)) ⟨ws[k].key,ws[k].val⟩ by rw[HS.out,act_put hdf])
      generalize ws[k]=x at x0 x1 x2 hE hdf HXk
      rw[hdf] at x2
      clear hdl hdf
      go_wp2
      go_still_tail 11,(by kernel_rfl)
      have Q4:=hid ((Q.refl wr).drew)
      change wpList _ _ _ _ _ wr.drew
      generalize wr.drew=w4 at Q4 ⊢
      go_wp2_with fail
      refine(trefPut_any x.key x.val A3 _ c3 _ _ (O3.out.lst.q Q4.out) HN.out HAk.out HXk.out).mono ?_
      rintro e w5 ⟨A5,c5,rfl,o5,q5⟩
      have S5:=hid (show ApS w l ws (k+1) (.slice A5 (put (apply l (ws.take k)) ⟨x.key,x.val⟩).length c5) w5 from ⟨A5,c5,by rw[hE.out],by rw[hE.out];exact o5.lower (Q3.out.trans Q4.out).size,(Q3.out.trans Q4.out).trans q5⟩)
      clear o5 q5
      go_wp2
      go_roundw
      case rel=>exact⟨k+1,by omega,by go_num,S5.out⟩
      case measure=>simp[intOf];omega
  · have hkm:k=m:=by omega
    have HE:=hid (show ws.take k=ws by rw[List.take_of_length_le (by rw[HWL.out];omega)])
    clear hkm
    go_wp2
    go_ret
    exact⟨A3,c3,by rw[HE.out];rfl,by have:=O3.out;rw[HE.out] at this;exact this,Q3.out⟩
end
section
open Go.RowKit Prm
theorem long_any (p:Pr)(w:World):Calls Tryz.prog 181 #[p.v] w fun e w'=>e=.returned (.bool (Rn.big p))∧Q w w':=by
 obtain⟨a,b⟩:=p
 by_cases h1:(65536:Int)<(a.size:Int)
 · have hr:Rn.big ⟨a,b⟩=true:=by unfold Rn.big;simp;omega
   have HR:=hid hr
   clear hr
   go_enter Tryz.func181,Tryz.ntmps181
   go_wp2
   go_ret
   exact⟨ret_bool HR.out.symm,(Q.refl _).alloc _⟩
 · by_cases h2:(65536:Int)<(b.size:Int)
   · have hr:Rn.big ⟨a,b⟩=true:=by unfold Rn.big;simp;omega
     have HR:=hid hr
     clear hr
     go_enter Tryz.func181,Tryz.ntmps181
     go_wp2
     go_ret
     exact⟨ret_bool HR.out.symm,(Q.refl _).alloc _⟩
   · have hr:Rn.big ⟨a,b⟩=false:=by unfold Rn.big;simp;omega
     have HR:=hid hr
     clear hr
     go_enter Tryz.func181,Tryz.ntmps181
     go_wp2
     go_ret
     exact⟨ret_bool HR.out.symm,(Q.refl _).alloc _⟩
theorem indexLong (A:Option Addr)(n c:Nat)(l:List Pr)(w:World)(hf:Lst pairK w A n l)(hn:n≤maxLen) :
  Calls Tryz.prog 198 #[.slice A n c,.func (.func 181) #[] #[]] w fun e w'=>e=.returned (.int .i64 (idx Rn.big l 0))∧Q w w':=by
 unfold maxLen at hn
 have HF:=hid hf
 clear hf
 go_enter Tryz.func198,Tryz.ntmps198
 go_wp2
 go_loopw [8] (fun i wr=>∃ k:Nat,k≤n∧i=.int .i64 k∧Q w wr∧idx Rn.big l 0=idx Rn.big (l.drop k) k) (fun i _=>n - (intOf i).toNat)
 case atStart=>exact⟨0,Nat.zero_le _,rfl,Q.refl _,rfl⟩
 case round =>
  obtain⟨k,hk,rfl,hq,hp⟩:=hrel
  have HP:=hid hp
  clear hp
  by_cases hlt:k<n
  · have hlen:=HF.out.len
    have hkl:k<l.length:=by omega
    obtain⟨ad,rfl,hb,c0,c1⟩:=load_pair (HF.out.q hq) hlt hkl
    clear hlen
    go_wp2_with fail
    refine(long_any l[k] _).mono ?_
    rintro e w1 ⟨rfl,q1⟩
    by_cases hh:Rn.big l[k]=true
    · go_wp2
      go_ret
      exact⟨ret_int (by rw[HP.out,idx_drop _ _ hkl,if_pos hh]),hq.trans q1⟩
    · have hd:Rn.big l[k]=false:=by simpa using hh
      go_wp2
      go_roundw
      case rel=>exact⟨k+1,by omega,by go_num,hq.trans q1,by rw[HP.out,idx_drop _ _ hkl,if_neg hh]⟩
      case measure=>simp[intOf];omega
  · have hlen:=HF.out.len
    have HL:=hid hlen
    clear hlen
    go_wp2
    go_ret
    exact⟨ret_int (by rw[HP.out,idx_end _ _ (by have:=HL.out;omega)]),hq⟩
theorem containsLong (A:Option Addr)(n c:Nat)(l:List Pr)(w:World)(hf:Lst pairK w A n l)(hn:n≤maxLen) :
  Calls Tryz.prog 180 #[.slice A n c,.func (.func 181) #[] #[]] w fun e w'=>e=.returned (.bool (l.any Rn.big))∧Q w w':=by
 have K:=hid (indexLong A n c l w hf hn)
 rcases idx_cases Rn.big l 0 with ⟨hp,hall⟩ | ⟨k,hk,hp,hkn,hfirst⟩
 · have hr:l.any Rn.big=false:=by rw[List.any_eq_false];intro x hx;simp[hall x hx]
   have HR:=hid hr
   have HP:=hid hp
   clear hr hp hall hf
   go_enter Tryz.func180,Tryz.ntmps180
   go_wp2_with fail
   refine K.out.mono ?_
   rintro e w1 ⟨rfl,q1⟩
   rw[HP.out]
   go_wp2
   go_ret
   exact⟨ret_bool HR.out.symm,q1⟩
 · have hr:l.any Rn.big=true:=List.any_eq_true.2 ⟨_,List.getElem_mem hk,hkn⟩
   have HR:=hid hr
   have HP:=hid (hp.trans (by simp:((0+k:Nat):Int)=(k:Int)))
   clear hr hp hfirst hf hkn
   have h0:(0:Int)≤(k:Int):=by omega
   go_enter Tryz.func180,Tryz.ntmps180
   go_wp2_with fail
   refine K.out.mono ?_
   rintro e w1 ⟨rfl,q1⟩
   rw[HP.out]
   go_wp2
   go_ret
   exact⟨ret_bool HR.out.symm,q1⟩
theorem mayBe_any (A:Option Addr)(n c:Nat)(l:List Pr)(w:World)(hf:Lst pairK w A n l)(hn:n≤maxLen) :
  Calls Tryz.prog 150 #[.slice A n c] w fun e w'=>e=.returned (.bool (Rn.may l))∧Q w w':=by
 have K:=hid (right_any A n c l w hf hn)
 have HF:=hid hf
 have HN:=hid hn
 have hm:Rn.may l=(right l && !l.any Rn.big):=rfl
 have HM:=hid hm
 clear hf hn hm
 generalize hr:right l=r at K HM
 have HR:=hid hr
 clear hr
 cases r with
 | false =>
   go_enter Tryz.func150,Tryz.ntmps150
   go_wp2_with fail
   refine K.out.mono ?_
   rintro e w1 ⟨rfl,q1⟩
   go_wp2_with fail
   go_ret
   exact⟨ret_bool (by rw[HM.out];rfl),q1⟩
 | true =>
   go_enter Tryz.func150,Tryz.ntmps150
   go_wp2_with fail
   refine K.out.mono ?_
   rintro e w1 ⟨rfl,q1⟩
   go_wp2_with fail
   refine(containsLong A n c l _ (HF.out.q q1) HN.out).mono ?_
   rintro e w2 ⟨rfl,q2⟩
   generalize l.any Rn.big=b at HM
   cases b
   all_goals
     go_wp2_with fail
     go_ret
     exact⟨ret_bool (by rw[HM.out];rfl),q1.trans q2⟩
end
section
open Go.RowKit Prm
def RetP (w:World)(x:List Pr×List UInt8×Nat)(e:Ending)(w':World):Prop:=
 ∃ A c,e=.returned (.tuple #[.slice A x.1.length c,.string ⟨x.2.1.toArray⟩,.int .i64 (x.2.2:Int)])∧OwnK pairK w' w.heap.size A x.1.length c x.1∧Q w w'
theorem tnum_nil (l:List UInt8)(h:(Dm.tnum l).2.2≠0):Dm.tnum l=(0,[],(Dm.tnum l).2.2):=by
 unfold Dm.tnum at h ⊢
 split at h
 · rename_i a;rw[if_pos a]
 · rename_i a
   split at h
   · rename_i b;rw[if_neg a,if_pos b]
   · rename_i b
     split at h
     · rename_i c;rw[if_neg a,if_neg b,if_pos c]
     · simp at h
theorem ttext_nil (l:List UInt8)(m:Int)(h:(Dm.ttext l m).2.2≠0):Dm.ttext l m=([],[],(Dm.ttext l m).2.2):=by
 unfold Dm.ttext at h ⊢
 split at h
 · rename_i a;rw[if_pos a]
 · rename_i a
   split at h
   · rename_i b;rw[if_neg a,if_pos b]
   · rename_i b
     split at h
     · rename_i c;rw[if_neg a,if_neg b,if_pos c]
     · simp at h
def TpS (w:World)(sz:Nat)(T:List Pr×List UInt8×Nat)(v er:Nat)(k:Nat)(s6 s7 s8:Value)(wr:World):Prop:=
 ∃ (r:ByteArray) (acc:List Pr) (A:Option Addr) (c:Nat),s6=.string r∧s7=.int .i64 (er:Int)∧s8=.slice A acc.length c∧OwnK pairK wr w.heap.size A acc.length c acc∧Q w wr∧4*acc.length+r.size≤sz ∧
   (k<v→er=0)∧T=(if er≠0 then (acc,r.data.toList,er) else Rn.tkp (v - k) r.data.toList acc)
theorem TpS.step {w wr w2:World}{sz:Nat}{T:List Pr×List UInt8×Nat}{v er k:Nat}{s6 s7 s8:Value}(h:TpS w sz T v er k s6 s7 s8 wr)(q:Q wr w2):TpS w sz T v er k s6 s7 s8 w2:=by
 obtain⟨r,acc,A,c,h1,h2,h3,h4,h5,h6⟩:=h
 exact⟨r,acc,A,c,h1,h2,h3,h4.q q,h5.trans q,h6⟩
theorem tkp_key {n:Nat}{r:List UInt8}{acc:List Pr}(h:(Dm.ttext r 65536).2.2≠0):Rn.tkp (n+1) r acc=(acc,[],(Dm.ttext r 65536).2.2):=by rw[Rn.tkp,if_pos h]
theorem tkp_val {n:Nat}{r:List UInt8}{acc:List Pr}(h1:(Dm.ttext r 65536).2.2=0)(h:(Dm.ttext (Dm.ttext r 65536).2.1 65536).2.2≠0):Rn.tkp (n+1) r acc=(acc,[],(Dm.ttext (Dm.ttext r 65536).2.1 65536).2.2):=by
 rw[Rn.tkp,if_neg (by simpa using h1),if_pos h]
theorem tkp_both {n:Nat}{r:List UInt8}{acc:List Pr}(h1:(Dm.ttext r 65536).2.2=0)(h:(Dm.ttext (Dm.ttext r 65536).2.1 65536).2.2=0) :
  Rn.tkp (n+1) r acc=Rn.tkp n (Dm.ttext (Dm.ttext r 65536).2.1 65536).2.1 (acc++[⟨⟨(Dm.ttext r 65536).1.toArray⟩,⟨(Dm.ttext (Dm.ttext r 65536).2.1 65536).1.toArray⟩⟩]):=by
 rw[Rn.tkp,if_neg (by simpa using h1),if_neg (by simpa using h)]
theorem takePairs_any (s:ByteArray)(w:World)(hs:s.size≤8796093022208) :
  Calls Tryz.prog 186 #[.string s] w (RetP w (Rn.tkps s.data.toList)):=by
 have hcall:=takeNum_any s w (by unfold maxLen;omega)
 have hlen:=Dm.tnum_len s.data.toList
 have hle:=Dm.tnum_le s.data.toList
 have herr:=Dm.tnum_err s.data.toList
 have hnl:=tnum_nil s.data.toList
 have hT:Rn.tkps s.data.toList=if (Dm.tnum s.data.toList).2.2≠0 then ([],[],(Dm.tnum s.data.toList).2.2) else Rn.tkp (Dm.tnum s.data.toList).1 (Dm.tnum s.data.toList).2.1 []:=rfl
 generalize Rn.tkps s.data.toList=T at hT ⊢
 generalize Dm.tnum s.data.toList=x at *
 obtain⟨v,r0,er⟩:=x
 simp only at hlen hle herr hnl hT
 rw[Rn.size_data] at hlen
 obtain⟨R,hR,hRs,hRl⟩:=bytes_of r0
 unfold tnR at hcall
 simp only at hcall
 rw[←hR] at hcall
 have HC:=hid hcall
 have S0:=hid (show TpS w s.size T v er 0 (.string R) (.int .i64 (er:Int)) (.slice none 0 0) w from
  ⟨R, [],none,0,rfl,rfl,rfl,OwnK.nil_ _ _ _,Q.refl _,by simp;omega,fun h=>Classical.byContradiction fun hh=>by
    have:=hnl hh;simp only[Prod.mk.injEq] at this;omega,by
    rw[hT]
    by_cases hh:er=0
    · rw[if_neg (by simpa using hh),if_neg (by simpa using hh),Nat.sub_zero,hRl]
    · rw[if_pos hh,if_pos hh]
      have:=hnl hh;simp only[Prod.mk.injEq] at this
      rw[hRl,this.2.1]⟩)
 have hv1:(v:Int)≤18446744073709551615:=by unfold Dm.maxU at hle;omega
 clear hcall hT hnl hRl hR hRs hlen hle herr
 go_enter Tryz.func186,Tryz.ntmps186
 go_wp2_with fail
 go_step3
 go_wp2_with fail
 refine HC.out.mono ?_
 rintro e w1 ⟨rfl,q1⟩
 go_wp2_with fail
 go_step3
 go_wp2
 have S1:=hid (S0.out.step q1)
 clear S0 q1
 go_loopg [6,7,8,18] v (fun g s6 s7 s8 s18 wr=>∃ k:Nat,k+g=v∧s18=.int .u64 k∧TpS w s.size T v er k s6 s7 s8 wr)
 case atStart=>exact⟨0,by omega,rfl,S1.out⟩
 case round =>
  obtain⟨k,hkg,rfl,r,acc,A,c,rfl,rfl,rfl,o1,q1,hsz,her,hT⟩:=hrel
  obtain⟨wo,rfl⟩:∃ x,x=wr:=⟨_,rfl⟩
  have HO:=hid o1
  have HQ:=hid q1
  have HT:=hid hT
  clear o1 q1 hT S1 HC
  by_cases hlt:k<v
  · obtain ⟨g, rfl⟩ : ∃ g,gk=g+1:=⟨gk - 1,by omega⟩
    have h0:=her hlt
    subst h0
    have hkv:(k:Int)<(v:Int):=by omega
    obtain⟨m,hm⟩:∃ m,v - k=m+1:=⟨v - k - 1,by omega⟩
    have hT:=HT.out
    rw[if_neg (by simp),hm] at hT
    have hm2:m=v - (k+1):=by omega
    have K1:=fun W=>takeText_any r 65536 W (by unfold maxLen;omega) (by omega) (by omega)
    have l1:=ttext_len r.data.toList 65536
    have t1:=Rn.ttext_takes r.data.toList 65536
    rw[Rn.size_data] at l1 t1
    have n1:=ttext_nil r.data.toList 65536
    have a1:=fun h=>tkp_key (n:=m) (r:=r.data.toList) (acc:=acc) h
    have a2:=fun h h2=>tkp_val (n:=m) (r:=r.data.toList) (acc:=acc) h h2
    have a3:=fun h h2=>tkp_both (n:=m) (r:=r.data.toList) (acc:=acc) h h2
    generalize Dm.ttext r.data.toList 65536=x1 at K1 l1 t1 n1 a1 a2 a3
    obtain⟨k1,r1,e1⟩:=x1
    simp only at l1 t1 n1 a1 a2 a3
    obtain⟨KB,hKB,hKBs,hKBl⟩:=bytes_of k1
    obtain⟨RB,hRB,hRBs,hRBl⟩:=bytes_of r1
    unfold ttR at K1
    simp only at K1
    rw[←hKB,←hRB] at K1
    by_cases c1:e1=0
    · subst c1
      have K2:=fun W=>takeText_any RB 65536 W (by unfold maxLen;omega) (by omega) (by omega)
      have l2:=ttext_len r1 65536
      have t2:=Rn.ttext_takes r1 65536
      have n2:=ttext_nil r1 65536
      have t1':=t1 rfl
      have a2':=a2 rfl
      have a3':=a3 rfl
      rw[hRBl] at K2
      generalize Dm.ttext r1 65536=x2 at K2 l2 t2 n2 a2' a3'
      obtain⟨k2,r2,e2⟩:=x2
      simp only at l2 t2 n2 a2' a3'
      obtain⟨VB,hVB,hVBs,hVBl⟩:=bytes_of k2
      obtain⟨SB,hSB,hSBs,hSBl⟩:=bytes_of r2
      unfold ttR at K2
      simp only at K2
      rw[←hVB,←hSB] at K2
      rw[←hKB,←hVB] at a3'
      have HKK:=hid K1
      have HK2:=hid K2
      have hz0:((0:Int) != 0)=false:=by decide
      clear K1 K2 n1 a1 a2 a3 t1 l1 hKB hKBs hKBl hRB hVB hVBs hVBl
      have X0:=hid (Bx.new wo [.string ⟨#[]⟩,.string ⟨#[]⟩] 285)
      by_cases c2:e2=0
      · subst c2
        have HA:=hid (hT.trans (a3' rfl))
        have t2':=t2 rfl
        have HM:=hid hm2
        have HSl:=hid hSBl
        have hss:4*(acc.length+1)+SB.size≤s.size:=by rw[hSBs];omega
        have HSS:=hid hss
        have hap:(acc.length+1)*32≤140737488355328:=by omega
        have HAp:=hid hap
        clear hT n2 t2 a2' a3' hSB hSBs hSBl hRBs hRBl t1' l2 hm hm2 t2' hsz hss hap
        go_wp2_with fail
        go_loopw [6,7,20] (fun s6 s7 s20 wx=>s7=.int .i64 0∧Q wo wx∧((s6=.string r∧s20=.int .i64 0∧Bx wx wo.heap.size [.string ⟨#[]⟩,.string ⟨#[]⟩])∨(s6=.string RB∧s20=.int .i64 1∧Bx wx wo.heap.size [.string KB,.string ⟨#[]⟩])∨(s6=.string SB∧s20=.int .i64 2∧Bx wx wo.heap.size [.string KB,.string VB]))) (fun _ _ s20 _=>(2 - intOf s20).toNat)
        case atStart=>exact⟨rfl,(Q.refl _).alloc _,.inl ⟨rfl,rfl,X0.out⟩⟩
        case round =>
         obtain⟨rfl,q2,⟨rfl,rfl,x2⟩ | ⟨rfl,rfl,x2⟩ | ⟨rfl,rfl,x2⟩⟩:=hrel
         · have Q2:=hid q2
           have X2:=hid x2
           clear q2 x2
           go_wp2_with fail
           refine(HKK.out _).mono ?_
           rintro e w3 ⟨rfl,q3⟩
           obtain⟨b0,g0⟩:=(X2.out.q q3) 0 _ rfl
           have X3:=hid ((X2.out.q q3).set (k:=0) (by simp) (.string KB))
           have Q3:=hid ((Q2.out.trans q3).setCell (p:=⟨wo.heap.size,0,none⟩) (Nat.le_refl _) (.string KB))
           clear q3 X2 Q2
           go_wp2_with fail
           go_roundw
           case rel=>exact⟨rfl,Q3.out,.inr (.inl ⟨rfl,rfl,X3.out⟩)⟩
           case measure=>simp[intOf]
         · have Q2:=hid q2
           have X2:=hid x2
           clear q2 x2
           go_wp2_with fail
           refine(HK2.out _).mono ?_
           rintro e w3 ⟨rfl,q3⟩
           obtain⟨b0,g0⟩:=(X2.out.q q3) 1 _ rfl
           have X3:=hid ((X2.out.q q3).set (k:=1) (by simp) (.string VB))
           have Q3:=hid ((Q2.out.trans q3).setCell (p:=⟨wo.heap.size,1,none⟩) (Nat.le_refl _) (.string VB))
           clear q3 X2 Q2
           go_wp2_with fail
           go_roundw
           case rel=>exact⟨rfl,Q3.out,.inr (.inr ⟨rfl,rfl,X3.out⟩)⟩
           case measure=>simp[intOf]
         · have Q2:=hid q2
           obtain⟨b0,_⟩:=x2 0 _ rfl
           obtain⟨b1,_⟩:=x2 1 _ rfl
           clear q2 x2
           go_wp2_with (at_builtin
                        refine wpl_appK pairK rfl (.tmp 34) (.tmp 40) 28 rfl rfl w.heap.size A acc.length c acc rfl ((HO.out.q Q2.out).alloc _) (some ⟨wr.heap.size,0,none⟩) 1 1 [⟨KB,VB⟩] rfl (by have:=lit_pair wr ⟨KB,VB⟩;simpa using this) (fun e=>by cases e) HAp.out (by have:=HQ.out.size;have:=Q2.out.size;simp;omega) ?_
                        intro A5 c5 w5 o5 b5
                        have S5:=hid (show TpS w s.size T v 0 (k+1) (.string SB) (.int .i64 0) (.slice A5 (acc.length+1) c5) w5 from ⟨SB,acc++[⟨KB,VB⟩],A5,c5,rfl,rfl,by rw[List.length_append];rfl,by rw[List.length_append];exact o5,((HQ.out.trans Q2.out).alloc _).below.trans b5,by rw[List.length_append];exact HSS.out,fun _=>rfl,by rw[if_neg (by simp),HSl.out,←HM.out];exact HA.out⟩)
                        clear o5 b5)
           go_roundg g
           case measure=>omega
           case rel=>exact⟨k+1,by omega,by go_num,S5.out⟩
      · have HA:=hid (hT.trans (a2' c2))
        have hr2:=n2 c2
        simp only[Prod.mk.injEq,and_true] at hr2
        have hne:((e2:Int) != 0)=true:=by simp;omega
        have HRe:=hid (show SB=⟨#[]⟩ by rw[hSB,hr2.2])
        clear hT n2 t2 a2' a3' hSB hSBs hSBl hRBs hRBl hr2 t1' l2 c2 hm hm2
        go_wp2_with fail
        go_loopw [6,7,20] (fun s6 s7 s20 wx=>s7=.int .i64 0∧Q wo wx∧((s6=.string r∧s20=.int .i64 0∧Bx wx wo.heap.size [.string ⟨#[]⟩,.string ⟨#[]⟩])∨(s6=.string RB∧s20=.int .i64 1∧Bx wx wo.heap.size [.string KB,.string ⟨#[]⟩]))) (fun _ _ s20 _=>(2 - intOf s20).toNat)
        case atStart=>exact⟨rfl,(Q.refl _).alloc _,.inl ⟨rfl,rfl,X0.out⟩⟩
        case round =>
         obtain⟨rfl,q2,⟨rfl,rfl,x2⟩ | ⟨rfl,rfl,x2⟩⟩:=hrel
         · have Q2:=hid q2
           have X2:=hid x2
           clear q2 x2
           go_wp2_with fail
           refine(HKK.out _).mono ?_
           rintro e w3 ⟨rfl,q3⟩
           obtain⟨b0,g0⟩:=(X2.out.q q3) 0 _ rfl
           have X3:=hid ((X2.out.q q3).set (k:=0) (by simp) (.string KB))
           have Q3:=hid ((Q2.out.trans q3).setCell (p:=⟨wo.heap.size,0,none⟩) (Nat.le_refl _) (.string KB))
           clear q3 X2 Q2
           go_wp2_with fail
           go_roundw
           case rel=>exact⟨rfl,Q3.out,.inr ⟨rfl,rfl,X3.out⟩⟩
           case measure=>simp[intOf]
         · have Q2:=hid q2
           have X2:=hid x2
           clear q2 x2
           go_wp2_with fail
           refine(HK2.out _).mono ?_
           rintro e w3 ⟨rfl,q3⟩
           obtain⟨b0,g0⟩:=(X2.out.q q3) 1 _ rfl
           have Q3:=hid (Q2.out.trans q3)
           clear q3
           go_wp2_with fail
           (try rw[Exit.noGoto_ret])
           go_ret3
           rw[HA.out]
           exact⟨A,c,by rw[HRe.out];rfl,HO.out.q (Q3.out.setCell (p:=⟨wo.heap.size,1,none⟩) (Nat.le_refl _) _),HQ.out.trans (Q3.out.setCell (p:=⟨wo.heap.size,1,none⟩) (Nat.le_refl _) _)⟩
    · have HA:=hid (hT.trans (a1 c1))
      have hr1:=n1 c1
      simp only[Prod.mk.injEq,and_true] at hr1
      have HKK:=hid K1
      have hne:((e1:Int) != 0)=true:=by simp;omega
      have hRe:RB=⟨#[]⟩:=by rw[hRB,hr1.2]
      have HRe:=hid hRe
      clear hT K1 n1 a1 a2 a3 hKB hKBs hKBl hRB hRBs hRBl hr1 t1 l1 hRe c1 hm hm2
      have X0:=hid (Bx.new wo [.string ⟨#[]⟩,.string ⟨#[]⟩] 285)
      go_wp2_with fail
      go_loopw [6,7,20] (fun s6 s7 s20 wx=>s6=.string r∧s7=.int .i64 0∧s20=.int .i64 0∧Q wo wx∧Bx wx wo.heap.size [.string ⟨#[]⟩,.string ⟨#[]⟩]) (fun _ _ _ _=>0)
      case atStart=>exact⟨rfl,rfl,rfl,(Q.refl _).alloc _,X0.out⟩
      case round =>
       obtain⟨rfl,rfl,rfl,q2,x2⟩:=hrel
       have Q2:=hid q2
       have X2:=hid x2
       clear q2 x2
       go_wp2_with fail
       refine(HKK.out _).mono ?_
       rintro e w3 ⟨rfl,q3⟩
       obtain⟨b0,g0⟩:=(X2.out.q q3) 0 _ rfl
       have Q3:=hid (Q2.out.trans q3)
       clear q3
       go_wp2_with fail
       (try rw[Exit.noGoto_ret])
       go_ret3
       rw[HA.out]
       exact⟨A,c,by rw[HRe.out];rfl,HO.out.q (Q3.out.setCell (p:=⟨wo.heap.size,0,none⟩) (Nat.le_refl _) _),HQ.out.trans (Q3.out.setCell (p:=⟨wo.heap.size,0,none⟩) (Nat.le_refl _) _)⟩
  · have hkm:k=v:=by omega
    have HE:=hid (show T=(acc,r.data.toList,er) by
     rw[HT.out]
     by_cases hh:er=0
     · rw[if_neg (by simpa using hh),show v - k=0 by omega,hh];rfl
     · rw[if_pos hh])
    clear hkm
    go_wp2
    try rw[Exit.noGoto_ret]
    go_ret3
    rw[HE.out]
    exact⟨A,c,by simp,HO.out,HQ.out⟩
end
section
open Go.RowKit
theorem figs_end (l:List UInt8):(Dm.figs l).length=l.length∨∃ h:(Dm.figs l).length<l.length,Dm.isD (l[(Dm.figs l).length])=false:=by
 rcases Nat.lt_or_ge (Dm.figs l).length l.length with h | h
 · right
   refine⟨h,?_⟩
   have hr:Dm.rest l=l[(Dm.figs l).length] :: l.drop ((Dm.figs l).length+1):=by rw[Dm.rest_eq,List.drop_eq_getElem_cons h]
   have hne:Dm.rest l≠[]:=by rw[hr];exact List.cons_ne_nil _ _
   have:=List.head_dropWhile_not Dm.isD hne
   have e:(List.dropWhile Dm.isD l).head hne=l[(Dm.figs l).length]:=by
    show (Dm.rest l).head hne=_
    simp only[hr,List.head_cons]
   rw[e] at this
   simpa using this
 · left;have:=Dm.figs_len l;omega
theorem figs_get (l:List UInt8)(i:Nat)(h:i<(Dm.figs l).length)(h':i<l.length):Dm.isD l[i]=true:=by
 have:=Dm.figs_all l _ (List.getElem_mem h)
 have e:=Dm.figs_eq l
 have e2:(Dm.figs l)[i]=l[i]:=by
  have:(Dm.figs l)[i]? = (l.take (Dm.figs l).length)[i]?:=by rw[←e]
  rw[List.getElem?_take,if_pos h,List.getElem?_eq_getElem h,List.getElem?_eq_getElem h'] at this
  injection this
 rw[←e2];exact this
theorem bad_long (l:List UInt8)(h:20<(Dm.figs l).length):Dm.bad l=true:=by
 cases hl:l with
 | nil=>rw[hl] at h;simp[Dm.figs] at h
 | cons c r =>
   rw[←hl]
   have hh:l.head? = some c:=by rw[hl];rfl
   by_cases h0:c.toNat=48
   · have hc:c=48:=UInt8.toNat_inj.1 (by rw[h0];rfl)
     unfold Dm.bad;rw[decide_eq_true (show 1<(Dm.figs l).length by omega),hh,hc];rfl
   · have hl0:0<l.length:=by rw[hl];simp
     have hd:=figs_get l 0 (by omega) hl0
     have e:l[0]=c:=by simp[hl]
     rw[e] at hd
     cases hf:Dm.figs l with
     | nil=>rw[hf] at h;simp at h
     | cons c2 r2 =>
       have hc2:c2=c:=by
        have:=Dm.figs_rest l
        rw[hf,hl] at this
        simp at this;exact this.1
       have:=Dm.val_big (Dm.figs l) c2 r2 hf (by rw[hc2];exact hd) (by rw[hc2];exact h0) h
       unfold Dm.bad;rw[decide_eq_true this,Bool.or_true]
theorem bad_lead (l:List UInt8)(h:1<(Dm.figs l).length)(h0:l.head? = some 48):Dm.bad l=true:=by
 unfold Dm.bad;rw[decide_eq_true h,h0];rfl
theorem tnum_bad (l:List UInt8)(h:Dm.bad l=true):Dm.tnum l=(0,[],3):=by unfold Dm.tnum;rw[if_pos h]
theorem tnum_more (l:List UInt8)(hb:Dm.bad l=false)(h:(Dm.figs l).length=l.length):Dm.tnum l=(0,[],2):=by
 unfold Dm.tnum
 rw[hb,if_neg (by simp),if_pos (by rw[Dm.rest_eq,h,List.drop_length])]
theorem rest_cons (l:List UInt8)(h:(Dm.figs l).length<l.length):Dm.rest l=l[(Dm.figs l).length] :: l.drop ((Dm.figs l).length+1):=by
 rw[Dm.rest_eq,List.drop_eq_getElem_cons h]
theorem tnum_other (l:List UInt8)(hb:Dm.bad l=false)(h:(Dm.figs l).length<l.length)(hc:l[(Dm.figs l).length]≠59∨(Dm.figs l).length=0):Dm.tnum l=(0,[],3):=by
 unfold Dm.tnum
 rw[hb,if_neg (by simp),rest_cons l h,if_neg (List.cons_ne_nil _ _),if_pos]
 rcases hc with hc | hc
 · left;rw[List.head?_cons];intro e;injection e with e;exact hc e
 · right;exact List.length_eq_zero_iff.1 hc
theorem tnum_ok (l:List UInt8)(hb:Dm.bad l=false)(h:(Dm.figs l).length<l.length)(hc:l[(Dm.figs l).length]=59)(h0:(Dm.figs l).length≠0) :
  Dm.tnum l=(Dm.val (Dm.figs l),l.drop ((Dm.figs l).length+1),0):=by
 unfold Dm.tnum
 rw[hb,if_neg (by simp),rest_cons l h,if_neg (List.cons_ne_nil _ _),if_neg]
 · rfl
 · rintro(e | e)
   · simp[hc] at e
   · exact h0 (List.length_eq_zero_iff.2 e)
theorem refTakeNum_any (s:ByteArray)(w:World)(hs:s.size≤maxLen) :
  Calls Tryz.prog 41 #[.string s] w fun e w'=>e=.returned (tnR (Dm.tnum s.data.toList))∧Q w w':=by
 unfold maxLen at hs
 have hend0:=figs_end s.data.toList
 have hle:(Dm.figs s.data.toList).length≤s.size:=by have:=Dm.figs_len s.data.toList;rw[size_list] at this;exact this
 have hget:=figs_get s.data.toList
 have hfe:=Dm.figs_eq s.data.toList
 have hbl:=bad_long s.data.toList
 have hbz:=bad_lead s.data.toList
 have hbb:=tnum_bad s.data.toList
 have hrest:=Dm.rest_eq s.data.toList
 have hnil:Dm.figs s.data.toList=[]↔(Dm.figs s.data.toList).length=0:=List.length_eq_zero_iff.symm
 obtain⟨N,hN⟩:∃ N,N=(Dm.figs s.data.toList).length:=⟨_,rfl⟩
 rw[←hN] at hle hget hbl hbz hrest hnil
 have hdig:∀ i (h:i<N) (h':i<s.size),48≤s[i].toNat∧s[i].toNat≤57:=by
  intro i h h'
  have:=hget i h (by rw[size_list];exact h')
  rw[get_list,Dm.isD_iff] at this;exact this
 have hend:s.size≤N∨(∃ h:N<s.size,s[N].toNat<48)∨(∃ h:N<s.size,57<s[N].toNat):=by
  rcases hend0 with h | ⟨h,h2⟩
  · left;rw[hN,h,size_list];exact Nat.le_refl _
  · right
    have h3:N<s.size:=by rw[hN];rw[size_list] at h;exact h
    have h4:Dm.isD s[N]=false:=by
     have:s[N]=s.data.toList[(Dm.figs s.data.toList).length]:=by simp only[hN];rfl
     rw[this];exact h2
    unfold Dm.isD at h4
    simp only[Bool.and_eq_false_iff,decide_eq_false_iff_not] at h4
    rcases h4 with h4 | h4
    · left;exact⟨h3,by omega⟩
    · right;exact⟨h3,by omega⟩
 have HDIG:=hid hdig
 have HFE:=hid hfe
 have HNIL:=hid hnil
 have HREST:=hid hrest
 have HBB:=hid hbb
 have HN:=hid hN
 clear hend0 hget hfe hdig hnil hrest hbb
 by_cases cL:20<N∨(1<N∧∃ h:0<s.size,s[0].toNat=48)
 · have hbad:Dm.bad s.data.toList=true:=by
     rcases cL with h | ⟨h,h1,h2⟩
     · exact hbl h
     · exact hbz h (by rw[head_list s h1];congr 1;exact UInt8.toNat_inj.1 (by rw[h2];rfl))
   have ht:=HBB.out hbad
   have HT:=hid ht
   have CL:=hid cL
   clear ht hbl hbz cL hbad hN
   rcases hend with hend | ⟨hlt,hend⟩ | ⟨hlt,hend⟩
   all_goals
     go_enter Tryz.func41,Tryz.ntmps41
     go_wp2
     go_loop [5] (fun n=>∃ k:Nat,k≤N∧n=.int .i64 k) (fun n=>N - (intOf n).toNat)
     case atStart=>exact⟨0,Nat.zero_le _,rfl⟩
     case round =>
      obtain⟨k,hk,rfl⟩:=hrel
      by_cases c:k<N
      · have hks:k<s.size:=by omega
        obtain⟨d1,d2⟩:=HDIG.out k c hks
        go_wp2
        go_round
        case rel=>exact⟨k+1,by omega,by go_num⟩
        case measure=>simp[intOf];omega
      · obtain rfl:k=N:=by omega
        by_cases cN:20<k
        · have dN:decide (20<(k:Int))=true:=by simp;omega
          go_wp2
          go_ret3
          exact⟨by rw[HT.out];rfl,Q.refl _⟩
        · have h1:1<k:=by have:=CL.out;omega
          have h0s:0<s.size:=by omega
          have hb:((s[0].toNat:Int) == 48)=true:=by
           rcases CL.out with h | ⟨_,_,h⟩
           · omega
           · simp;omega
          go_wp2
          go_ret3
          exact⟨by rw[HT.out];rfl,Q.refl _⟩
 have cN:N≤20:=by
  rcases Nat.lt_or_ge 20 N with h | h
  · exact absurd (.inl h) cL
  · exact h
 have hz:1<N→∀ h:0<s.size,((s[0].toNat:Int) == 48)=false:=by
  intro h1 h2
  have:¬ s[0].toNat=48:=fun e=>cL (.inr ⟨h1,h2,e⟩)
  simp;omega
 have HZ:=hid hz
 have dN:decide (20<(N:Int))=false:=by simp;omega
 have hvl:Dm.val (s.data.toList.take N)=Dm.val (Dm.figs s.data.toList):=by rw[HN.out];rw[←HFE.out]
 have HVL:=hid hvl
 have hmono:∀ k,k<N→Dm.maxU<Dm.val (s.data.toList.take (k+1))→Dm.tnum s.data.toList=(0,[],3):=by
  intro k hk h
  apply HBB.out
  refine Dm.bad_big s.data.toList k (by rw[size_list];omega) ?_ h
  intro i hi
  rw[get_list,Dm.isD_iff];exact HDIG.out i (by omega) (by omega)
 have HM:=hid hmono
 have hgood:Dm.val (Dm.figs s.data.toList)≤Dm.maxU→Dm.bad s.data.toList=false:=by
  intro h
  refine Dm.bad_not s.data.toList N (by rw[HN.out];exact HFE.out) (by rw[size_list];exact hle) ?_ (by rw[hvl];exact h)
  intro h1 e
  have h2:0<s.size:=by omega
  rw[head_list s h2] at e
  injection e with e
  have:=hz h1 h2
  rw[e] at this
  exact absurd this (by decide)
 have HG:=hid hgood
 clear hbl hbz cL hz hN hvl hmono hgood
 rcases hend with hend | ⟨hlt,hend⟩ | ⟨hlt,hend⟩
 all_goals
   go_enter Tryz.func41,Tryz.ntmps41
   go_wp2
   go_loop [5] (fun n=>∃ k:Nat,k≤N∧n=.int .i64 k) (fun n=>N - (intOf n).toNat)
   case atStart=>exact⟨0,Nat.zero_le _,rfl⟩
   case round =>
    obtain⟨k,hk,rfl⟩:=hrel
    by_cases c:k<N
    · have hks:k<s.size:=by omega
      obtain⟨d1,d2⟩:=HDIG.out k c hks
      go_wp2
      go_round
      case rel=>exact⟨k+1,by omega,by go_num⟩
      case measure=>simp[intOf];omega
    · obtain rfl : k=N:=by omega
      have hcase:k≤1∨(1<k∧∃ h:0<s.size,((s[0].toNat:Int) == 48)=false):=by
       rcases Nat.lt_or_ge 1 k with h | h
       · exact .inr ⟨h,by omega,HZ.out h (by omega)⟩
       · exact .inl h
      rcases hcase with h1 | ⟨h1,h0s,hb0⟩
      all_goals
        go_wp2
        go_loop [6,7] (fun v i=>∃ j:Nat,j≤k∧i=.int .i64 j∧v=.int .u64 (Dm.val (s.data.toList.take j))∧Dm.val (s.data.toList.take j)≤Dm.maxU) (fun _ i=>k - (intOf i).toNat)
        case atStart=>exact⟨0,Nat.zero_le _,rfl,rfl,Nat.zero_le _⟩
        case round =>
         obtain⟨j,hj,rfl,rfl,hv⟩:=hrel
         by_cases c2:j<k
         · have hjs:j<s.size:=by omega
           obtain⟨d1,d2⟩:=HDIG.out j c2 hjs
           have e1:=Dm.val_snoc (s.data.toList.take j) s[j]
           rw[←take_snoc' s j hjs] at e1
           have hov:=HM.out j c2
           generalize hA:Dm.val (s.data.toList.take j)=A at *
           rw[e1] at hov
           have hdv:Dm.dv s[j]=s[j].toNat - 48:=rfl
           rw[hdv] at e1 hov
           have H1:=hid e1
           have HO:=hid hov
           unfold Dm.maxU at hv
           clear e1 hov hdv hA
           by_cases c3:1844674407370955161<A
           · have HT:=hid (HO.out (by unfold Dm.maxU;omega))
             have c3':decide ((1844674407370955161:Int)<(A:Int))=true:=by simp;omega
             go_wp2
             go_ret3
             exact⟨by rw[HT.out];rfl,Q.refl _⟩
           have c3':decide ((1844674407370955161:Int)<(A:Int))=false:=by simp;omega
           by_cases c4:A=1844674407370955161
           · have c4':((A:Int) == 1844674407370955161)=true:=by simp;omega
             by_cases c5:53<s[j].toNat
             · have HT:=hid (HO.out (by unfold Dm.maxU;omega))
               clear c4
               go_wp2
               go_ret3
               exact⟨by rw[HT.out];rfl,Q.refl _⟩
             · have c5':s[j].toNat≤53:=by omega
               have hle2:10*A+(s[j].toNat - 48)≤18446744073709551615:=by omega
               have hle3:10*(A:Int)+((s[j].toNat:Int) - 48)≤18446744073709551615:=by omega
               have HN2:=hid (show ((10*A+(s[j].toNat - 48):Nat):Int)=10*(A:Int)+((s[j].toNat:Int) - 48) by omega)
               have HL2:=hid hle2
               clear c4 hle2
               go_wp2
               go_round
               case rel=>exact⟨j+1,by omega,by go_num,by rw[H1.out,HN2.out],by rw[H1.out];exact HL2.out⟩
               case measure=>simp[intOf];omega
           · have c4':((A:Int) == 1844674407370955161)=false:=by simp;omega
             have hle2:10*A+(s[j].toNat - 48)≤18446744073709551615:=by omega
             have hle3:10*(A:Int)+((s[j].toNat:Int) - 48)≤18446744073709551615:=by omega
             have HN2:=hid (show ((10*A+(s[j].toNat - 48):Nat):Int)=10*(A:Int)+((s[j].toNat:Int) - 48) by omega)
             have HL2:=hid hle2
             clear c4 hle2
             go_wp2
             go_round
             case rel=>exact⟨j+1,by omega,by go_num,by rw[H1.out,HN2.out],by rw[H1.out];exact HL2.out⟩
             case measure=>simp[intOf];omega
         · obtain rfl:j=k:=by omega
           have hg:=HG.out (by rw[←HVL.out];exact hv)
           by_cases c6:j=s.size
           · have HT:=hid (tnum_more s.data.toList hg (by rw[size_list,←HN.out];exact c6))
             have hbe:((j:Int) == (s.size:Int))=true:=by simp;omega
             clear hg
             first
               | (exfalso;omega)
               | (clear c6
                  go_wp2
                  go_ret3
                  exact⟨by rw[HT.out];rfl,Q.refl _⟩)
           · have hbe:((j:Int) == (s.size:Int))=false:=by simp;omega
             have hjs:j<s.size:=by omega
             have hgt:s.data.toList[(Dm.figs s.data.toList).length]'(by rw[size_list,←HN.out];exact hjs)=s[j]:=by
              simp only[←HN.out];rfl
             all_goals (try (exfalso;omega))
             all_goals
               by_cases c7:s[j].toNat=59∧j≠0
               · obtain⟨c7,c8⟩:=c7
                 have ht:=tnum_ok s.data.toList hg (by rw[size_list,←HN.out];exact hjs) (by rw[hgt];exact UInt8.toNat_inj.1 (by rw[c7];rfl)) (by rw[←HN.out];exact c8)
                 rw[←HN.out,←HVL.out] at ht
                 have he:=extract_list s (j+1) s.size
                 rw[List.take_of_length_le (by rw[size_list];omega)] at he
                 have HT:=hid ht
                 have HE:=hid he
                 have hne:((s[j].toNat:Int) != 59)=false:=by simp;omega
                 have h0:((j:Int) == 0)=false:=by simp;omega
                 have e1:IntKind.i64.wrap ((j:Int)+1)=(j:Int)+1:=IntWalk.i64_in _ (by omega)
                 have e2:0≤(j:Int)+1:=by omega
                 have e3:((j:Int)+1).toNat=j+1:=by omega
                 have e4:(j:Int)+1≤(s.size:Int):=by omega
                 clear ht he hg hgt c7 c8 c6 hend
                 generalize Dm.val (s.data.toList.take j)=A at *
                 go_wp2
                 go_quiet (fail)
                 go_wp2
                 go_ret3
                 refine⟨?_,(Q.refl _).drewN _⟩
                 rw[HT.out];unfold tnR
                 simp only[←HE.out];rfl
               · have HT:=hid (tnum_other s.data.toList hg (by rw[size_list,←HN.out];exact hjs) (by
                   rw[hgt,←HN.out]
                   rcases Nat.eq_zero_or_pos j with e | e
                   · exact .inr e
                   · left;intro e2;exact c7 ⟨by rw[e2];rfl,by omega⟩))
                 have C7:=hid c7
                 clear hg hgt c7 c6
                 by_cases c8:s[j].toNat=59
                 · have hne:((s[j].toNat:Int) != 59)=false:=by simp;omega
                   have h0:((j:Int) == 0)=true:=by have:=C7.out;simp;omega
                   clear c8
                   go_wp2
                   go_ret3
                   exact⟨by rw[HT.out];rfl,Q.refl _⟩
                 · have hne:((s[j].toNat:Int) != 59)=true:=by simp;omega
                   clear c8
                   go_wp2
                   go_ret3
                   exact⟨by rw[HT.out];rfl,Q.refl _⟩
end
section
open Go.RowKit
theorem refTakeText_any (s:ByteArray)(most:Int)(w:World)(hs:s.size≤maxLen)(hm0:-9223372036854775808≤most)(hm1:most≤9223372036854775807) :
  Calls Tryz.prog 78 #[.string s,.int .i64 most] w fun e w'=>e=.returned (ttR (Dm.ttext s.data.toList most))∧Q w w':=by
 have hlen:=Dm.tnum_len s.data.toList
 have hle:=Dm.tnum_le s.data.toList
 have hcall:=refTakeNum_any s w hs
 have htx:Dm.ttext s.data.toList most=if (Dm.tnum s.data.toList).2.2≠0 then ([],[],(Dm.tnum s.data.toList).2.2) else if most<0∨most<((Dm.tnum s.data.toList).1:Int) then ([],[],4) else if (Dm.tnum s.data.toList).2.1.length<(Dm.tnum s.data.toList).1 then ([],[],2)
   else ((Dm.tnum s.data.toList).2.1.take (Dm.tnum s.data.toList).1,(Dm.tnum s.data.toList).2.1.drop (Dm.tnum s.data.toList).1,0):=rfl
 have herr:=Dm.tnum_err s.data.toList
 generalize Dm.tnum s.data.toList=x at *
 obtain⟨n,r,er⟩:=x
 obtain⟨R,hR⟩:∃ R:ByteArray,R=⟨r.toArray⟩:=⟨_,rfl⟩
 have hsz:R.size=r.length:=by rw[hR];show r.toArray.size=_;simp
 have hl:R.data.toList=r:=by rw[hR]
 unfold tnR at hcall
 simp only at hlen hle hcall htx herr
 rw[←hR] at hcall
 have hRle:R.size≤s.size:=by rw[hsz];rw[size_list] at hlen;exact hlen
 unfold maxLen at hs
 unfold Dm.maxU at hle
 have HC:=hid hcall
 have HT:=hid htx
 have HSZ:=hid hsz
 have HL:=hid hl
 clear hcall htx hsz hl hR hlen
 by_cases c0:er=0
 · subst c0
   clear herr
   by_cases c1:most<0∨most<(n:Int)
   · have ht:Dm.ttext s.data.toList most=([],[],4):=by rw[HT.out,if_neg (by simp),if_pos c1]
     have HT2:=hid ht
     have C1:=hid c1
     clear ht c1
     by_cases c3:most<0
     · have d3:decide (most<0)=true:=by simpa using c3
       go_enter Tryz.func78,Tryz.ntmps78
       go_wp2_with fail
       refine HC.out.mono ?_
       rintro e w1 ⟨rfl,q1⟩
       go_wp2_with fail
       go_ret3
       exact⟨by rw[HT2.out];rfl,q1⟩
     · have c3':0≤most:=by omega
       have d3:decide (most<0)=false:=by simpa using c3'
       have c4:most<(n:Int):=by have:=C1.out;omega
       clear c3
       go_enter Tryz.func78,Tryz.ntmps78
       go_wp2_with fail
       refine HC.out.mono ?_
       rintro e w1 ⟨rfl,q1⟩
       go_wp2_with fail
       go_ret3
       exact⟨by rw[HT2.out];rfl,q1⟩
   have c1':0≤most:=by omega
   have c1'':(n:Int)≤most:=by omega
   have d3:decide (most<0)=false:=by simpa using c1'
   by_cases c2:R.size<n
   · have ht:Dm.ttext s.data.toList most=([],[],2):=by rw[HT.out,if_neg (by simp),if_neg c1,if_pos (by rw[←HSZ.out];exact c2)]
     have HT2:=hid ht
     clear ht c1
     go_enter Tryz.func78,Tryz.ntmps78
     go_wp2_with fail
     refine HC.out.mono ?_
     rintro e w1 ⟨rfl,q1⟩
     go_wp2_with fail
     go_ret3
     exact⟨by rw[HT2.out];rfl,q1⟩
   have c2':n≤R.size:=by omega
   have ht:Dm.ttext s.data.toList most=(r.take n,r.drop n,0):=by rw[HT.out,if_neg (by simp),if_neg c1,if_neg (by rw[←HSZ.out];exact c2)]
   have he1:=extract_list R 0 n
   have he2:=extract_list R n R.size
   rw[List.take_of_length_le (by rw[size_list];omega),HL.out] at he2
   rw[HL.out,List.drop_zero] at he1
   have HT2:=hid ht
   have HE1:=hid he1
   have HE2:=hid he2
   have e4:(n:Int)≤(R.size:Int):=by omega
   clear ht c1 c2 he1 he2
   go_enter Tryz.func78,Tryz.ntmps78
   go_wp2_with fail
   refine HC.out.mono ?_
   rintro e w1 ⟨rfl,q1⟩
   go_wp2_with fail
   go_quiet (fail)
   go_wp2_with fail
   go_ret3
   refine⟨?_,q1.drewN _⟩
   rw[HT2.out];unfold ttR
   simp only[←HE1.out,←HE2.out];rfl
 · have ht:Dm.ttext s.data.toList most=([],[],er):=by rw[HT.out,if_pos c0]
   have HT2:=hid ht
   have hne:((er:Int) != 0)=true:=by simp;omega
   clear ht c0 herr
   go_enter Tryz.func78,Tryz.ntmps78
   go_wp2_with fail
   refine HC.out.mono ?_
   rintro e w1 ⟨rfl,q1⟩
   go_wp2_with fail
   go_ret3
   exact⟨by rw[HT2.out];rfl,q1⟩
end
section
open Go.RowKit
theorem refOpen_any (f:ByteArray)(most:Int)(w:World)(hs:f.size≤maxLen)(hm0:-9223372036854775808≤most)(hm1:most≤9223372036854775807) :
  Calls Tryz.prog 40 #[.string f,.int .i64 most] w fun e w'=>e=.returned (ttR (topen f.data.toList most))∧Q w w':=by
 have hcall:=refTakeText_any f most w hs hm0 hm1
 have hlen:=ttext_len f.data.toList most
 have herr:=ttext_err f.data.toList most
 rw[size_list] at hlen
 have htx:topen f.data.toList most=topen1 (Dm.ttext f.data.toList most):=rfl
 generalize topen f.data.toList most=out at *
 subst htx
 generalize Dm.ttext f.data.toList most=x at *
 obtain⟨t,r,er⟩:=x
 obtain⟨S,hS,hSs,hSl⟩:=bytes_of t
 obtain⟨R,hR,hRs,hRl⟩:=bytes_of r
 unfold ttR at hcall
 simp only at hlen hcall herr
 rw[←hS,←hR] at hcall
 rw[←hSs,←hRs] at hlen
 obtain⟨hl1,hl2⟩:=hlen
 have HC:=hid hcall
 have HSL:=hid hSl
 have HRL:=hid hRl
 have HS:=hid hS
 clear hcall hSl hRl hS hR hSs hRs
 by_cases c0:er=0
 · subst c0
   clear herr
   have ho:topen1 (t,r,0)=topen2 t (Dm.tnum r):=by unfold topen1;rw[if_neg (by simp)]
   rw[ho]
   have hcall2:=fun W=>refTakeNum_any R W (Nat.le_trans hl2 hs)
   have hle:=Dm.tnum_le r
   have hlen:=Dm.tnum_len r
   have herr:=Dm.tnum_err r
   rw[HRL.out] at hcall2
   generalize Dm.tnum r=y at *
   obtain⟨v,r2,er2⟩:=y
   obtain⟨R2,hR2,hR2s,hR2l⟩:=bytes_of r2
   unfold tnR at hcall2
   simp only at hle hlen herr hcall2
   rw[←hR2] at hcall2
   have HR2:=hid hR2
   have HC2:=hid hcall2
   clear ho hcall2 hR2 hR2s hR2l hlen
   unfold Dm.maxU at hle
   by_cases c1:er2=0
   · subst c1
     clear herr
     have hof:=fun W=>refOf_any S W (Nat.le_trans hl1 hs)
     rw[HSL.out] at hof
     have hr:=Sm.adler_range t
     have HOF:=hid hof
     clear hof
     unfold maxLen at hs
     by_cases c2:(v:Int)=Sm.adler t
     · have hfin:topen2 t (v,r2,0)=(t,r2,0):=by unfold topen2;rw[if_neg (by simp),if_neg (by simpa using c2)]
       have hbn:((v:Int) != Sm.adler t)=false:=by simpa using c2
       have HF:=hid hfin
       clear hfin c2
       generalize Sm.adler t=ad at *
       go_enter Tryz.func40,Tryz.ntmps40
       go_wp2_with fail
       refine HC.out.mono ?_
       rintro e w1 ⟨rfl,q1⟩
       go_wp2_with fail
       refine(HC2.out _).mono ?_
       rintro e w2 ⟨rfl,q2⟩
       go_wp2_with fail
       refine(HOF.out _).mono ?_
       rintro e w3 ⟨rfl,q3⟩
       go_wp2_with fail
       go_ret3
       refine⟨?_,q1.trans (q2.trans q3)⟩
       rw[HF.out];unfold ttR
       simp only[←HR2.out,←HS.out];rfl
     · have hfin:topen2 t (v,r2,0)=([],[],10):=by unfold topen2;rw[if_neg (by simp),if_pos (by simpa using c2)]
       have hbn:((v:Int) != Sm.adler t)=true:=by simpa using c2
       have HF:=hid hfin
       clear hfin c2
       generalize Sm.adler t=ad at *
       go_enter Tryz.func40,Tryz.ntmps40
       go_wp2_with fail
       refine HC.out.mono ?_
       rintro e w1 ⟨rfl,q1⟩
       go_wp2_with fail
       refine(HC2.out _).mono ?_
       rintro e w2 ⟨rfl,q2⟩
       go_wp2_with fail
       refine(HOF.out _).mono ?_
       rintro e w3 ⟨rfl,q3⟩
       go_wp2_with fail
       go_ret3
       exact⟨by rw[HF.out];rfl,q1.trans (q2.trans q3)⟩
   · have hfin:topen2 t (v,r2,er2)=([],[],er2):=by unfold topen2;rw[if_pos c1]
     have hne:((er2:Int) != 0)=true:=by simp;omega
     have HF:=hid hfin
     clear hfin c1 herr
     go_enter Tryz.func40,Tryz.ntmps40
     go_wp2_with fail
     refine HC.out.mono ?_
     rintro e w1 ⟨rfl,q1⟩
     go_wp2_with fail
     refine(HC2.out _).mono ?_
     rintro e w2 ⟨rfl,q2⟩
     go_wp2_with fail
     go_ret3
     exact⟨by rw[HF.out];rfl,q1.trans q2⟩
 · have ho:topen1 (t,r,er)=([],[],er):=by unfold topen1;rw[if_pos c0]
   have hne:((er:Int) != 0)=true:=by simp;omega
   have HF:=hid ho
   clear ho c0 herr
   go_enter Tryz.func40,Tryz.ntmps40
   go_wp2_with fail
   refine HC.out.mono ?_
   rintro e w1 ⟨rfl,q1⟩
   go_wp2_with fail
   go_ret3
   exact⟨by rw[HF.out];rfl,q1⟩
end
end Go.Proofs.YtccoknaaofmbcaaGreatDoor
