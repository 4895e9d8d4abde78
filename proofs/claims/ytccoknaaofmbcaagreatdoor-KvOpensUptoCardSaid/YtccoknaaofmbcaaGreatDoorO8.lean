/- RunTake2, RunRef, RunLoad, KvMath, Tab, WalName, KvMan, DiskApart, DiskWhole, DiskUniq, WalLastM, WalLastR, WalLastI, KvOnceM: merged. -/
import Derived.Test.YtccoknaaofmbcaaGreatDoorO7
import Derived.Test.YtccoknaaofmbcaaGreatDoorO2
import Derived.Test.YtccoknaaofmbcaaGreatDoorO4
import Derived.Test.YtccoknaaofmbcaaGreatDoorO6
import Derived.Test.YtccoknaaofmbcaaGreatDoorO1
import Derived.Lib.LaidTab
import Derived.Lib.AppendIntMem
import Derived.Test.YtccoknaaofmbcaaGreatDoorShelfC
import Derived.Lib.ItoaMem
import Derived.Lib.MinMax
set_option linter.unusedVariables false
set_option linter.unusedSimpArgs false
set_option maxRecDepth 100000
set_option maxHeartbeats 16000000
open Go.Lib (hid)
namespace Go.Proofs.YtccoknaaofmbcaaGreatDoor
section
open Go.RowKit Prm
def RetT (w:World)(x:List Pr×Nat)(e:Ending)(w':World):Prop:=
 ∃ A c,e=.returned (.tuple #[.slice A x.1.length c,.int .i64 (x.2:Int)])∧OwnK pairK w' w.heap.size A x.1.length c x.1∧Q w w'
theorem RetT.bad {w w':World}(q:Q w w'):RetT w ([],3) (.returned (.tuple #[.slice none 0 0,.int .i64 3])) w':=⟨none,0,rfl,OwnK.nil_ _ _ _,q⟩
theorem topen_len (l:List UInt8)(most:Int):(topen l most).1.length≤l.length∧(topen l most).2.1.length≤l.length:=by
 have h:=ttext_len l most
 have h2:=Dm.tnum_len (Dm.ttext l most).2.1
 unfold topen topen1 topen2
 split
 · simp
 · split
   · simp
   · split
     · simp
     · simp only;omega
theorem str_nonempty {s:ByteArray}{l:List UInt8}(h:s.data.toList=l)(hl:l≠[]):s.toList≠[]∧s.toList.isEmpty=false∧(s.toList == [])=false:=by
 have h1:s.toList≠[]:=by rw[ByteArray.toList_eq,h];exact hl
 exact⟨h1,by simpa using h1,by simpa using h1⟩
theorem str_empty {s:ByteArray}{l:List UInt8}(h:s.data.toList=l)(hl:l=[]):s=⟨#[]⟩:=ByteArray.ext (by rw[←Array.toList_inj,h,hl])
theorem may_cases {l:List Pr}:Rn.may l=true∨Rn.may l=false:=by cases Rn.may l<;>simp
theorem rtake_any (s:ByteArray)(w:World)(hs:s.size≤8796093022208) :
  Calls Tryz.prog 158 #[.string s] w (RetT w (Rn.take s.data.toList s.size)):=by
 have K1:=sopen_any s s.size w (by unfold maxLen;omega) (by omega) (by omega)
 have hln:=topen_len s.data.toList s.size
 have hT:Rn.take s.data.toList s.size=Rn.tk1 (topen s.data.toList s.size):=rfl
 rw[Rn.size_data] at hln
 generalize topen s.data.toList s.size=x at K1 hT hln
 generalize Rn.take s.data.toList s.size=T at hT ⊢
 obtain⟨b,r,e1⟩:=x
 obtain⟨BB,hB,hBs,hBl⟩:=bytes_of b
 obtain⟨RB,hR,hRs,hRl⟩:=bytes_of r
 unfold ttR at K1
 simp only at K1 hln
 rw[←hB,←hR] at K1
 rw[←hBs] at hln
 have HK:=hid K1
 have HB:=hid hln.1
 clear K1 hln
 unfold Rn.tk1 at hT
 simp only at hT
 by_cases c1:e1=0
 · subst c1
   by_cases c2:r=[]
   · rw [if_neg (by simpa using c2)] at hT
     have hre:=str_empty hRl c2
     rw[hre] at HK
     have K2:=takePairs_any BB
     rw[hBl] at K2
     generalize Rn.tkps b=y at K2 hT
     obtain⟨l,r2,e2⟩:=y
     unfold RetP at K2
     simp only at K2
     obtain⟨SB,hS,hSs,hSl⟩:=bytes_of r2
     rw[←hS] at K2
     have HK2:=hid (fun W=>K2 W (Nat.le_trans HB.out hs))
     unfold Rn.tk2 at hT
     simp only at hT
     clear K2 hre hR hRs hRl hB hBs hBl c2 HB
     by_cases c3:e2=0
     · subst c3
       by_cases c4:r2=[]
       · have hse:=str_empty hSl c4
         rw[hse] at HK2
         rcases may_cases (l:=l) with c5 | c5
         · have HT:=hid (show T=(l,0) by rw[hT,if_neg (by simp[c4,c5])])
           have HM:=hid c5
           clear hT c4 hse hS hSs hSl c5
           go_enter Tryz.func158,Tryz.ntmps158
           go_wp2_with fail
           refine HK.out.mono ?_
           rintro e w1 ⟨rfl,q1⟩
           go_wp2_with fail
           refine(HK2.out _).mono ?_
           rintro e w2 ⟨A,c,rfl,o2,q2⟩
           have O2:=hid o2
           have Q2:=hid (q1.trans q2)
           have hcap:=o2.le
           have hcap2:=o2.cap
           clear o2
           go_wp2_with fail
           refine(mayBe_any A l.length c l _ O2.out.lst (by unfold maxLen at *;omega)).mono ?_
           rw[HM.out]
           rintro e w3 ⟨rfl,q3⟩
           go_wp2_with fail
           go_ret2
           rw[HT.out]
           exact⟨A,c,rfl,(O2.out.lower q1.size).q q3,Q2.out.trans q3⟩
         · have HT:=hid (show T=([],3) by rw[hT,if_pos (.inr (.inr c5))])
           have HM:=hid c5
           clear hT c4 hse hS hSs hSl c5
           go_enter Tryz.func158,Tryz.ntmps158
           go_wp2_with fail
           refine HK.out.mono ?_
           rintro e w1 ⟨rfl,q1⟩
           go_wp2_with fail
           refine(HK2.out _).mono ?_
           rintro e w2 ⟨A,c,rfl,o2,q2⟩
           have O2:=hid o2
           have Q2:=hid (q1.trans q2)
           have hcap:=o2.le
           have hcap2:=o2.cap
           clear o2
           go_wp2_with fail
           refine(mayBe_any A l.length c l _ O2.out.lst (by unfold maxLen at *;omega)).mono ?_
           rw[HM.out]
           rintro e w3 ⟨rfl,q3⟩
           go_wp2_with fail
           go_ret2
           rw[HT.out]
           exact RetT.bad (Q2.out.trans q3)
       · have HT:=hid (show T=([],3) by rw[hT,if_pos (.inr (.inl c4))])
         obtain⟨n1,n2,n3⟩:=str_nonempty hSl c4
         clear hT c4 hS hSs hSl
         go_enter Tryz.func158,Tryz.ntmps158
         go_wp2_with fail
         refine HK.out.mono ?_
         rintro e w1 ⟨rfl,q1⟩
         go_wp2_with fail
         refine(HK2.out _).mono ?_
         rintro e w2 ⟨A,c,rfl,o2,q2⟩
         have Q2:=hid (q1.trans q2)
         clear o2
         go_wp2_with fail
         go_ret2
         rw[HT.out]
         exact RetT.bad Q2.out
     · have HT:=hid (show T=([],3) by rw[hT,if_pos (.inl c3)])
       have hne:((e2:Int) != 0)=true:=by simp;omega
       clear hT c3 hS hSs hSl
       go_enter Tryz.func158,Tryz.ntmps158
       go_wp2_with fail
       refine HK.out.mono ?_
       rintro e w1 ⟨rfl,q1⟩
       go_wp2_with fail
       refine(HK2.out _).mono ?_
       rintro e w2 ⟨A,c,rfl,o2,q2⟩
       have Q2:=hid (q1.trans q2)
       clear o2
       go_wp2_with fail
       go_ret2
       rw[HT.out]
       exact RetT.bad Q2.out
   · rw[if_pos (.inr c2)] at hT
     obtain⟨n1,n2,n3⟩:=str_nonempty hRl c2
     have HT:=hid hT
     clear hT c2 hR hRs hRl hB hBs hBl HB
     go_enter Tryz.func158,Tryz.ntmps158
     go_wp2_with fail
     refine HK.out.mono ?_
     rintro e w1 ⟨rfl,q1⟩
     go_wp2_with fail
     go_ret2
     rw[HT.out]
     exact RetT.bad q1
 · rw[if_pos (.inl c1)] at hT
   have hne:((e1:Int) != 0)=true:=by simp;omega
   have HT:=hid hT
   clear hT c1 hR hRs hRl hB hBs hBl HB
   go_enter Tryz.func158,Tryz.ntmps158
   go_wp2_with fail
   refine HK.out.mono ?_
   rintro e w1 ⟨rfl,q1⟩
   go_wp2_with fail
   go_ret2
   rw[HT.out]
   exact RetT.bad q1
end
section
open Go.RowKit Prm
theorem big_no {l:List Pr}{k:Nat}(hk:k<l.length)(h:Rn.big l[k]=false)(ha:∀ j,∀ h:j<l.length,j<k→Rn.big l[j]=false):∀ j,∀ h:j<l.length,j<k+1→Rn.big l[j]=false:=fun j hj hjk=>by
 by_cases e:j<k
 · exact ha j hj e
 · have e:j=k:=by omega
   subst e;exact h
theorem may_of {l:List Pr}(ha:∀ j,∀ h:j<l.length,Rn.big l[j]=false):Rn.may l=right l:=by
 have:l.any Rn.big=false:=by
  rw[List.any_eq_false]
  intro x hx
  obtain⟨i,hi,rfl⟩:=List.getElem_of_mem hx
  simp[ha i hi]
 unfold Rn.may
 rw[this];simp
theorem may_not {l:List Pr}{k:Nat}(hk:k<l.length)(h:Rn.big l[k]=true):Rn.may l=false:=by
 have:l.any Rn.big=true:=List.any_eq_true.2 ⟨_,List.getElem_mem hk,h⟩
 unfold Rn.may
 rw[this];simp
theorem refMay_any (A:Option Addr)(n c:Nat)(l:List Pr)(w:World)(hd:Lst pairK w A n l)(hmx:n≤maxLen)(hks:KeysIn l) :
  Calls Tryz.prog 103 #[.slice A n c] w fun e w'=>e=.returned (.bool (Rn.may l))∧Q w w':=by
 have HD:=hid hd
 have HL:=hid hd.len
 have HKs:=hid hks
 have HN:=hid hmx
 unfold maxLen at hmx
 clear hd hks
 go_enter Tryz.func103,Tryz.ntmps103
 go_wp2
 go_loopw [3] (fun i wr=>∃ k:Nat,k≤n∧i=.int .i64 k∧Q w wr∧∀ j,∀ h:j<l.length,j<k→Rn.big l[j]=false) (fun i _=>n - (intOf i).toNat)
 case atStart=>exact⟨0,Nat.zero_le _,rfl,Q.refl _,fun j _ h=>by omega⟩
 case round =>
  obtain⟨k,hk,rfl,q,hall⟩:=hrel
  have HA:=hid hall
  have HQ:=hid q
  clear hall q
  by_cases hlt:k<n
  · have hkl:k<l.length:=by have:=HL.out;omega
    obtain⟨ad,rfl,hab,x0,x1⟩:=load_pair (HD.out.q HQ.out) hlt hkl
    have hkn:(k:Int)<(n:Int):=by omega
    have hno:=fun h=>big_no hkl h HA.out
    have hye:=fun h=>may_not hkl h
    generalize l[k]=p at x0 x1 hno hye
    obtain⟨a,b⟩:=p
    by_cases h1:(65536:Int)<(a.size:Int)
    · have HR:=hid (hye (by unfold Rn.big;simp;omega))
      clear hno hye
      go_wp2
      go_ret
      exact⟨ret_bool HR.out.symm,HQ.out⟩
    · by_cases h2:(65536:Int)<(b.size:Int)
      · have HR:=hid (hye (by unfold Rn.big;simp;omega))
        clear hno hye
        go_wp2
        go_ret
        exact⟨ret_bool HR.out.symm,HQ.out⟩
      · have HR:=hid (hno (by unfold Rn.big;simp;omega))
        clear hno hye
        go_wp2
        go_roundw
        case rel=>exact⟨k+1,by omega,by go_num,HQ.out,HR.out⟩
        case measure=>simp[intOf];omega
  · have HE:=hid (may_of fun j hj=>HA.out j hj (by have:=HL.out;omega))
    go_wp2_with fail
    refine(refRight_any A n c l _ (HD.out.q HQ.out) HN.out HKs.out).mono ?_
    rintro e w2 ⟨rfl,q2⟩
    go_wp2_with fail
    go_ret
    exact⟨ret_bool HE.out.symm,HQ.out.trans q2⟩
def TrS (w:World)(sz:Nat)(T:List Pr×List UInt8×Nat)(v k:Nat)(s8 s10:Value)(wr:World):Prop:=
 ∃ (r:ByteArray) (acc:List Pr) (A:Option Addr) (c:Nat),s8=.string r∧s10=.slice A acc.length c∧OwnK pairK wr w.heap.size A acc.length c acc∧Q w wr∧4*acc.length+r.size≤sz ∧
   T=Rn.tkp (v - k) r.data.toList acc
theorem TrS.step {w wr w2:World}{sz:Nat}{T:List Pr×List UInt8×Nat}{v k:Nat}{s8 s10:Value}(h:TrS w sz T v k s8 s10 wr)(q:Q wr w2):TrS w sz T v k s8 s10 w2:=by
 obtain⟨r,acc,A,c,h1,h3,h4,h5,h6⟩:=h
 exact⟨r,acc,A,c,h1,h3,h4.q q,h5.trans q,h6⟩
theorem tkp_keys:∀ (n:Nat) (r:List UInt8) (acc:List Pr),(∀ p∈acc,p.key.size≤9223372036854775807)→(r.length≤9223372036854775807)→∀ p∈(Rn.tkp n r acc).1,p.key.size≤9223372036854775807
 | 0,r,acc,h,_=>h
 | n + 1,r,acc,h,hr=>by
   rw[Rn.tkp]
   split
   · exact h
   · split
     · exact h
     · have h1:=ttext_len r 65536
       have h2:=ttext_len (Dm.ttext r 65536).2.1 65536
       refine tkp_keys n _ _ ?_ (by omega)
       intro p hp
       rcases List.mem_append.1 hp with hp | hp
       · exact h p hp
       · simp only[List.mem_singleton] at hp
         subst hp
         show (Dm.ttext r 65536).1.toArray.size≤_
         rw[List.size_toArray];omega
theorem refTake_any (s:ByteArray)(w:World)(hs:s.size≤8796093022208) :
  Calls Tryz.prog 74 #[.string s] w (RetT w (Rn.take s.data.toList 1073741824)):=by
 have K1:=refOpen_any s 1073741824 w (by unfold maxLen;omega) (by omega) (by omega)
 have hln:=topen_len s.data.toList 1073741824
 have hT:Rn.take s.data.toList 1073741824=Rn.tk1 (topen s.data.toList 1073741824):=rfl
 rw[Rn.size_data] at hln
 generalize topen s.data.toList 1073741824=x at K1 hT hln
 generalize Rn.take s.data.toList 1073741824=T at hT ⊢
 obtain⟨b,r,e1⟩:=x
 obtain⟨BB,hB,hBs,hBl⟩:=bytes_of b
 obtain⟨RB,hR,hRs,hRl⟩:=bytes_of r
 unfold ttR at K1
 simp only at K1 hln
 rw[←hB,←hR] at K1
 rw[←hBs] at hln
 have HK:=hid K1
 have HB:=hid hln.1
 clear K1 hln
 unfold Rn.tk1 at hT
 simp only at hT
 by_cases c1:e1=0
 · subst c1
   by_cases c2:r=[]
   · rw [if_neg (by simpa using c2)] at hT
     have hre:=str_empty hRl c2
     rw[hre] at HK
     have K2:=fun W=>refTakeNum_any BB W (by have:=HB.out;unfold maxLen;omega)
     rw[hBl] at K2
     have hlen:=Dm.tnum_len b
     have hle:=Dm.tnum_le b
     have htps:Rn.tkps b=if (Dm.tnum b).2.2≠0 then ([],[],(Dm.tnum b).2.2) else Rn.tkp (Dm.tnum b).1 (Dm.tnum b).2.1 []:=rfl
     generalize Dm.tnum b=y at K2 hlen hle htps
     obtain⟨v,r0,e2⟩:=y
     unfold tnR at K2
     simp only at K2 hlen hle htps
     obtain⟨R0,h0,h0s,h0l⟩:=bytes_of r0
     rw[←h0] at K2
     have HK2:=hid K2
     by_cases c3:e2=0
     · subst c3
       rw[if_neg (by simp)] at htps
       have HSz:=hid (show R0.size≤s.size by rw[h0s];have:=HB.out;rw[←hBs] at hlen;omega)
       have htk:T=Rn.tk2 (Rn.tkp v r0 []):=by rw[hT,htps]
       have S0:=hid (show TrS w s.size (Rn.tkp v r0 []) v 0 (.string R0) (.slice none 0 0) w from
        ⟨R0,[],none,0,rfl,rfl,OwnK.nil_ _ _ _,Q.refl _,by have:=HSz.out;simp;omega,by rw[Nat.sub_zero,h0l]⟩)
       have HKy:=hid (tkp_keys v r0 [] (by simp) (by have:=HSz.out;rw[h0s] at this;omega))
       generalize Rn.tkp v r0 []=T2 at S0 htk HKy
       have HTk:=hid htk
       have hv1:(v:Int)≤18446744073709551615:=by unfold Dm.maxU at hle;omega
       clear K2 hT htps hre hR hRs hRl hB hBs hBl c2 HB h0 h0s h0l hlen hle htk HSz
       go_enter Tryz.func74,Tryz.ntmps74
       go_wp2_with fail
       refine HK.out.mono ?_
       rintro e w1 ⟨rfl,q1⟩
       go_wp2_with fail
       refine(HK2.out _).mono ?_
       rintro e w2 ⟨rfl,q2⟩
       have S1:=hid (S0.out.step (q1.trans q2))
       clear S0 q1 q2
       go_wp2_with fail
       go_loopw [8,10,11] (fun s8 s10 s11 wr=>∃ k:Nat,k≤v∧s11=.int .u64 k∧TrS w s.size T2 v k s8 s10 wr) (fun _ _ s11 _=>v - (intOf s11).toNat)
       case atStart=>exact⟨0,Nat.zero_le _,rfl,S1.out⟩
       case round =>
        obtain⟨k,hk,rfl,r,acc,A,c,rfl,rfl,o1,q1,hsz,hT⟩:=hrel
        have HO:=hid o1
        have HQ:=hid q1
        have HT:=hid hT
        clear o1 q1 hT S1 HK HK2
        by_cases hlt:k<v
        · have hkv:(k:Int)<(v:Int):=by omega
          obtain⟨m,hm⟩:∃ m,v - k=m+1:=⟨v - k - 1,by omega⟩
          have hT:=HT.out
          rw[hm] at hT
          have hm2:m=v - (k+1):=by omega
          have K1:=fun W=>refTakeText_any r 65536 W (by unfold maxLen;omega) (by omega) (by omega)
          have l1:=ttext_len r.data.toList 65536
          have t1:=Rn.ttext_takes r.data.toList 65536
          rw[Rn.size_data] at l1 t1
          have a1:=fun h=>tkp_key (n:=m) (r:=r.data.toList) (acc:=acc) h
          have a2:=fun h h2=>tkp_val (n:=m) (r:=r.data.toList) (acc:=acc) h h2
          have a3:=fun h h2=>tkp_both (n:=m) (r:=r.data.toList) (acc:=acc) h h2
          generalize Dm.ttext r.data.toList 65536=x1 at K1 l1 t1 a1 a2 a3
          obtain⟨k1,r1,e1⟩:=x1
          simp only at l1 t1 a1 a2 a3
          obtain⟨KB,hKB,hKBs,hKBl⟩:=bytes_of k1
          obtain⟨RB,hRB,hRBs,hRBl⟩:=bytes_of r1
          unfold ttR at K1
          simp only at K1
          rw[←hKB,←hRB] at K1
          have HKK:=hid K1
          clear K1
          by_cases c1:e1=0
          · subst c1
            have K2:=fun W=>refTakeText_any RB 65536 W (by unfold maxLen;omega) (by omega) (by omega)
            have l2:=ttext_len r1 65536
            have t2:=Rn.ttext_takes r1 65536
            have t1':=t1 rfl
            have a2':=a2 rfl
            have a3':=a3 rfl
            rw[hRBl] at K2
            generalize Dm.ttext r1 65536=x2 at K2 l2 t2 a2' a3'
            obtain⟨k2,r2,e2⟩:=x2
            simp only at l2 t2 a2' a3'
            obtain⟨VB,hVB,hVBs,hVBl⟩:=bytes_of k2
            obtain⟨SB,hSB,hSBs,hSBl⟩:=bytes_of r2
            unfold ttR at K2
            simp only at K2
            rw[←hVB,←hSB] at K2
            rw[←hKB,←hVB] at a3'
            have HK2:=hid K2
            clear K2 a1 a2 a3 t1 l1 hKB hKBs hKBl hRB hVB hVBs hVBl
            by_cases c2:e2=0
            · subst c2
              have HA:=hid (hT.trans (a3' rfl))
              have t2':=t2 rfl
              have HM:=hid hm2
              have HSl:=hid hSBl
              have HSS:=hid (show 4*(acc.length+1)+SB.size≤s.size by rw[hSBs];omega)
              have HAp:=hid (show (acc.length+1)*32≤140737488355328 by omega)
              clear hT t2 a2' a3' hSB hSBs hSBl hRBs hRBl t1' l2 hm hm2 t2' hsz
              go_wp2_with fail
              refine(HKK.out _).mono ?_
              rintro e w3 ⟨rfl,q3⟩
              go_wp2_with fail
              refine(HK2.out _).mono ?_
              rintro e w4 ⟨rfl,q4⟩
              have Q4:=hid (q3.trans q4)
              clear q3 q4
              go_wp2_with (at_builtin
                           refine wpl_appK pairK rfl (.tmp 61) (.tmp 65) 28 rfl rfl w.heap.size A acc.length c acc rfl ((HO.out.q Q4.out).alloc _) (some ⟨w4.heap.size,0,none⟩) 1 1 [⟨KB,VB⟩] rfl (by have:=lit_pair w4 ⟨KB,VB⟩;simpa using this) (fun e=>by cases e) HAp.out (by have:=HQ.out.size;have:=Q4.out.size;simp;omega) ?_
                           intro A5 c5 w5 o5 b5
                           have S5:=hid (show TrS w s.size T2 v (k+1) (.string SB) (.slice A5 (acc.length+1) c5) w5 from ⟨SB,acc++[⟨KB,VB⟩],A5,c5,rfl,by rw[List.length_append];rfl,by rw[List.length_append];exact o5,((HQ.out.trans Q4.out).alloc _).below.trans b5,by rw[List.length_append];exact HSS.out,by rw[HSl.out,←HM.out];exact HA.out⟩)
                           clear o5 b5)
              go_roundw
              case rel=>exact⟨k+1,by omega,by go_num,S5.out⟩
              case measure=>simp[intOf];omega
            · have HT3:=hid (show T=([],3) by rw[HTk.out,hT,a2' c2];unfold Rn.tk2;rw[if_pos (.inl c2)])
              have hne:((e2:Int) != 0)=true:=by simp;omega
              clear hT t2 a2' a3' hSB hSBs hSBl hRBs hRBl t1' l2 hm hm2 hsz c2
              go_wp2_with fail
              refine(HKK.out _).mono ?_
              rintro e w3 ⟨rfl,q3⟩
              go_wp2_with fail
              refine(HK2.out _).mono ?_
              rintro e w4 ⟨rfl,q4⟩
              go_wp2_with fail
              go_ret2
              rw[HT3.out]
              exact RetT.bad (HQ.out.trans (q3.trans q4))
          · have HT3:=hid (show T=([],3) by rw[HTk.out,hT,a1 c1];unfold Rn.tk2;rw[if_pos (.inl c1)])
            have hne:((e1:Int) != 0)=true:=by simp;omega
            clear hT a1 a2 a3 hKB hKBs hKBl hRB hRBs hRBl t1 l1 hm hm2 hsz c1
            go_wp2_with fail
            refine(HKK.out _).mono ?_
            rintro e w3 ⟨rfl,q3⟩
            go_wp2_with fail
            go_ret2
            rw[HT3.out]
            exact RetT.bad (HQ.out.trans q3)
        · have hT2:T2=(acc,r.data.toList,0):=by rw[HT.out,show v - k=0 by omega];rfl
          have hTT:=HTk.out
          rw[hT2] at hTT
          unfold Rn.tk2 at hTT
          simp only at hTT
          have HKa:=hid (show KeysIn acc by have h:=HKy.out;rw[hT2] at h;exact fun p hp=>by have:=h p hp;unfold maxLen;omega)
          have hcap:=HO.out.le
          have hcap2:=HO.out.cap
          rcases may_cases (l:=acc) with c5 | c5
          · by_cases c6:r.data.toList=[]
            · have HT3:=hid (show T=(acc,0) by rw[hTT,if_neg (by simp[c6,c5])])
              have hre:=str_empty (s:=r) rfl c6
              subst hre
              have HM:=hid c5
              clear hT2 hTT c5 c6 HT
              go_wp2_with fail
              refine(refMay_any A acc.length c acc _ HO.out.lst (by unfold maxLen at *;omega) HKa.out).mono ?_
              rw[HM.out]
              rintro e w3 ⟨rfl,q3⟩
              go_wp2_with fail
              go_ret2
              rw[HT3.out]
              exact⟨A,c,rfl,HO.out.q q3,HQ.out.trans q3⟩
            · have HT3:=hid (show T=([],3) by rw[hTT,if_pos (.inr (.inl c6))])
              have hsz0:0<r.size:=by
               have:0<r.data.toList.length:=List.length_pos_iff.2 c6
               rw[Rn.size_data] at this;omega
              have HM:=hid c5
              clear hT2 hTT c5 c6 HT
              go_wp2_with fail
              refine(refMay_any A acc.length c acc _ HO.out.lst (by unfold maxLen at *;omega) HKa.out).mono ?_
              rw[HM.out]
              rintro e w3 ⟨rfl,q3⟩
              go_wp2_with fail
              go_ret2
              rw[HT3.out]
              exact RetT.bad (HQ.out.trans q3)
          · have HT3:=hid (show T=([],3) by rw[hTT,if_pos (.inr (.inr c5))])
            have HM:=hid c5
            clear hT2 hTT c5 HT
            by_cases c6:r.data.toList=[]
            case' pos =>
             have hre:=str_empty (s:=r) rfl c6
             subst hre
             clear c6
            case' neg =>
             have hsz0:0<r.size:=by
              have:0<r.data.toList.length:=List.length_pos_iff.2 c6
              rw[Rn.size_data] at this;omega
             clear c6
            all_goals
              go_wp2_with fail
              refine(refMay_any A acc.length c acc _ HO.out.lst (by unfold maxLen at *;omega) HKa.out).mono ?_
              rw[HM.out]
              rintro e w3 ⟨rfl,q3⟩
              go_wp2_with fail
              go_ret2
              rw[HT3.out]
              exact RetT.bad (HQ.out.trans q3)
     · rw[if_pos c3] at htps
       have HT:=hid (show T=([],3) by rw[hT,htps];unfold Rn.tk2;rw[if_pos (.inl c3)])
       have hne:((e2:Int) != 0)=true:=by simp;omega
       clear K2 hT htps hre hR hRs hRl hB hBs hBl c2 HB h0 h0s h0l hlen hle c3
       go_enter Tryz.func74,Tryz.ntmps74
       go_wp2_with fail
       refine HK.out.mono ?_
       rintro e w1 ⟨rfl,q1⟩
       go_wp2_with fail
       refine(HK2.out _).mono ?_
       rintro e w2 ⟨rfl,q2⟩
       go_wp2_with fail
       go_ret2
       rw[HT.out]
       exact RetT.bad (q1.trans q2)
   · rw[if_pos (.inr c2)] at hT
     have hsz0:0<RB.size:=by
      have:0<r.length:=List.length_pos_iff.2 c2
      omega
     have HT:=hid hT
     clear hT c2 hR hRs hRl hB hBs hBl HB
     go_enter Tryz.func74,Tryz.ntmps74
     go_wp2_with fail
     refine HK.out.mono ?_
     rintro e w1 ⟨rfl,q1⟩
     go_wp2_with fail
     go_ret2
     rw[HT.out]
     exact RetT.bad q1
 · rw[if_pos (.inl c1)] at hT
   have hne:((e1:Int) != 0)=true:=by simp;omega
   have HT:=hid hT
   clear hT c1 hR hRs hRl hB hBs hBl HB
   go_enter Tryz.func74,Tryz.ntmps74
   go_wp2_with fail
   refine HK.out.mono ?_
   rintro e w1 ⟨rfl,q1⟩
   go_wp2_with fail
   go_ret2
   rw[HT.out]
   exact RetT.bad q1
end
section
open Go.RowKit Dkm
namespace Rn
def loadM (nm:ByteArray)(l:List Fil):List Prm.Pr×Nat:=if (redd nm l).2≠0 then ([],7) else take (redd nm l).1.data.toList 1073741824
end Rn
theorem redd_err (nm:ByteArray)(l:List Fil):(redd nm l).2=0∨(redd nm l).2=7:=by
 unfold redd;split<;>simp
theorem redd_sizeR {nm:ByteArray}{l:List Fil}{B:Nat}(h:∀ f∈l,f.sf.size+f.wt.size≤B):(redd nm l).1.size≤B:=by
 rcases plc_cases nm l with ⟨_,hall⟩ | ⟨k,hk,_,hkn,hf⟩
 · rw[redd_none hall];exact Nat.zero_le _
 · rw[redd_at hk hkn hf,ByteArray.size_append];exact h _ (List.getElem_mem hk)
theorem RetT.none_ {w w':World}(q:Q w w'):RetT w ([],7) (.returned (.tuple #[.slice none 0 0,.int .i64 7])) w':=⟨none,0,rfl,OwnK.nil_ _ _ _,q⟩
theorem RetT.after {w w1 w':World}{x:List Prm.Pr×Nat}{e:Ending}(q:Q w w1)(h:RetT w1 x e w'):RetT w x e w':=by
 obtain⟨A,c,h1,h2,h3⟩:=h
 exact⟨A,c,h1,h2.lower q.size,q.trans h3⟩
theorem load_any (nm:ByteArray)(A:Option Addr)(n c:Nat)(d:Dk)(w:World)(hd:Dsk w A n c d.fs)(hs:∀ f∈d.fs,f.sf.size+f.wt.size≤1073741824) :
  Calls Tryz.prog 117 #[dkv A n c d.room d.fuse d.off,.string nm] w (RetT w (Rn.loadM nm d.fs)):=by
 have HR:=hid (fun W (h:Files W A n d.fs)=>read_any nm A n c d.room d.fuse d.off d.fs W h hd.max (fun f hf=>Nat.le_trans (hs f hf) (by unfold maxLen;omega)))
 have hz:=redd_sizeR (nm:=nm) hs
 have her:=redd_err nm d.fs
 have hM:Rn.loadM nm d.fs=if (redd nm d.fs).2≠0 then ([],7) else Rn.take (redd nm d.fs).1.data.toList 1073741824:=rfl
 generalize Rn.loadM nm d.fs=T at hM ⊢
 generalize redd nm d.fs=x at HR hz her hM
 obtain⟨s,er⟩:=x
 simp only at hz her hM HR
 have HD:=hid hd
 clear hs hd
 rcases her with rfl | rfl
 · have HT:=hid (show T=Rn.take s.data.toList s.size by rw[hM,if_neg (by simp)];exact(Rn.take_most _ _ _ (by rw[Rn.size_data];omega) (by rw[Rn.size_data];omega)))
   have HZ:=hid hz
   clear hM hz
   go_enter Tryz.func117,Tryz.ntmps117
   go_wp2_with fail
   refine(HR.out _ (HD.out.files.q ((Q.refl _).alloc _))).mono ?_
   rintro e w1 ⟨rfl,q1⟩
   go_wp2_with fail
   refine(rtake_any s _ (by have:=HZ.out;omega)).mono ?_
   rw[←HT.out]
   rintro e w2 ⟨A2,c2,rfl,o2,q2⟩
   go_wp2_with fail
   go_ret2
   exact⟨A2,c2,rfl,o2.lower (((Q.refl _).alloc _).trans q1).size,(((Q.refl _).alloc _).trans q1).trans q2⟩
 · have HT:=hid (show T=([],7) by rw[hM,if_pos (by simp)])
   clear hM hz
   go_enter Tryz.func117,Tryz.ntmps117
   go_wp2_with fail
   refine(HR.out _ (HD.out.files.q ((Q.refl _).alloc _))).mono ?_
   rintro e w1 ⟨rfl,q1⟩
   go_wp2_with fail
   go_ret2
   rw[HT.out]
   exact RetT.none_ (((Q.refl _).alloc _).trans q1)
theorem refLoad_any (nm:ByteArray)(A:Option Addr)(n c:Nat)(d:Dk)(w:World)(hd:Dsk w A n c d.fs)(hs:∀ f∈d.fs,f.sf.size+f.wt.size≤1073741824) :
  Calls Tryz.prog 32 #[dkv A n c d.room d.fuse d.off,.string nm] w (RetT w (Rn.loadM nm d.fs)):=by
 have HR:=hid (fun W (h:Files W A n d.fs)=>ref_read nm A n c d.room d.fuse d.off d.fs W h hd.max (fun f hf=>Nat.le_trans (hs f hf) (by unfold maxLen;omega)))
 have hz:=redd_sizeR (nm:=nm) hs
 have her:=redd_err nm d.fs
 have hM:Rn.loadM nm d.fs=if (redd nm d.fs).2≠0 then ([],7) else Rn.take (redd nm d.fs).1.data.toList 1073741824:=rfl
 generalize Rn.loadM nm d.fs=T at hM ⊢
 generalize redd nm d.fs=x at HR hz her hM
 obtain⟨s,er⟩:=x
 simp only at hz her hM HR
 have HD:=hid hd
 clear hs hd
 rcases her with rfl | rfl
 · have HT:=hid (show T=Rn.take s.data.toList 1073741824 by rw[hM,if_neg (by simp)])
   have HZ:=hid hz
   clear hM hz
   go_enter Tryz.func32,Tryz.ntmps32
   go_wp2_with fail
   refine(HR.out _ (HD.out.files.q ((Q.refl _).alloc _))).mono ?_
   rintro e w1 ⟨rfl,q1⟩
   go_wp2_with fail
   refine(refTake_any s _ (by have:=HZ.out;omega)).mono ?_
   rw[←HT.out]
   rintro e w2 ⟨A2,c2,rfl,o2,q2⟩
   go_wp2_with fail
   go_ret2
   exact⟨A2,c2,rfl,o2.lower (((Q.refl _).alloc _).trans q1).size,(((Q.refl _).alloc _).trans q1).trans q2⟩
 · have HT:=hid (show T=([],7) by rw[hM,if_pos (by simp)])
   clear hM hz
   go_enter Tryz.func32,Tryz.ntmps32
   go_wp2_with fail
   refine(HR.out _ (HD.out.files.q ((Q.refl _).alloc _))).mono ?_
   rintro e w1 ⟨rfl,q1⟩
   go_wp2_with fail
   go_ret2
   rw[HT.out]
   exact RetT.none_ (((Q.refl _).alloc _).trans q1)
end
section
open Dkm Prm
namespace Km
structure Ks where
 d:Dk
 frm:Int
 seg:Int
 run:Int
 s:Bm.Sta
 down:Bool
def ks0:Ks:=⟨⟨[],0,0,false⟩,0,0,0,⟨[],[]⟩,false⟩
def runOk (n:Int):Prop:=1≤n∧n≤1000000
instance (n:Int):Decidable (runOk n):=by unfold runOk;infer_instance
def rnam (n:Int):List UInt8:=if runOk n then 114 :: Dm.dg n.toNat else []
def rnamB (n:Int):ByteArray:=⟨(rnam n).toArray⟩
def mB:ByteArray:=⟨#[109]⟩
def manL (f r:Int):List UInt8:=sld (Dm.num f.toNat++Dm.num r.toNat)
def manB (f r:Int):ByteArray:=⟨(manL f r).toArray⟩
def numA (s:List UInt8):Nat:=(Dm.tnum (topen s s.length).1).1
def numB (s:List UInt8):Nat:=(Dm.tnum (Dm.tnum (topen s s.length).1).2.1).1
def tman (s:List UInt8):Int×Int×Int:=
 if 1≤numA s∧numA s≤1000000∧numB s≤1000000∧s=manL (numA s:Int) (numB s:Int) then ((numA s:Int),(numB s:Int),0) else (0,0,3)
def begM (l:List Fil):Int×Int×Int:=if (redd mB l).2≠0 then (1,0,0) else tman (redd mB l).1.data.toList
def loadS (l:List Fil)(n:Int):Bm.Sta×Int:=
 if n=0 then (⟨[],[]⟩,0)
 else if (Rn.loadM (rnamB n) l).2≠0 then (⟨[],[]⟩,3)
 else if (Bm.back (Rn.loadM (rnamB n) l).1).2≠0 then (⟨[],[]⟩,3)
 else ((Bm.back (Rn.loadM (rnamB n) l).1).1,0)
def repM:Bm.Sta→List (List UInt8)→Option Bm.Sta
 | s,[]=>some s
 | s,r :: rs=>if (Bm.take r).2≠0 then none else repM (Bm.doo s (Bm.take r).1).1 rs
def endM (frm run:Int)(r:Dk×List (List UInt8)×Int×Int):Option Bm.Sta→Ks×Int
 | none=>(ks0,3)
 | some s=>(⟨r.1,frm,r.2.2.1,run,s,false⟩,0)
def opnC (frm run:Int)(s:Bm.Sta)(r:Dk×List (List UInt8)×Int×Int):Ks×Int:=if r.2.2.2≠0 then (ks0,r.2.2.2) else endM frm run r (repM s r.2.1)
def opnB (d:Dk)(frm run:Int)(s:Bm.Sta×Int):Ks×Int:=if s.2≠0 then (ks0,3) else opnC frm run s.1 (Wm.recM d frm)
def opnA (d:Dk)(x:Int×Int×Int):Ks×Int:=if x.2.2≠0 then (ks0,3) else opnB d x.1 x.2.1 (loadS d.fs x.2.1)
def openM (d:Dk):Ks×Int:=opnA d (begM d.fs)
def recB (b:Bm.Bt):ByteArray:=⟨(Bm.bytesM b).1.toArray⟩
def Ks.bad (x:Ks)(d:Dk)(e:Int):Ks×Int:=({ x with d:=d,down:=decide (e=6) },e)
def comB (x:Ks)(s':Bm.Sta)(q:Dk×Int):Ks×Int:=if q.2≠0 then x.bad q.1 q.2 else ({ x with d:=q.1,s:=s' },0)
def comA (x:Ks)(s':Bm.Sta)(p:Dk×Int×Int):Ks×Int:=
 if p.2.2≠0 then ({ x with seg:=p.2.1 }:Ks).bad p.1 p.2.2 else comB { x with d:=p.1,seg:=p.2.1 } s' (Wm.syncM p.1 p.2.1)
def comM (x:Ks)(b:Bm.Bt):Ks×Int:=
 if x.down=true then (x,6)
 else if (Bm.doo x.s b).2≠0 then (x,((Bm.doo x.s b).2:Int))
 else comA x (Bm.doo x.s b).1 (Wm.putM x.d x.seg (recB b))
def crsM (x:Ks)(ks:List Int):Ks×Int:=openM (crs x.d ks)
theorem numA_le (s:List UInt8):numA s≤Dm.maxU:=Dm.tnum_le _
theorem numB_le (s:List UInt8):numB s≤Dm.maxU:=Dm.tnum_le _
theorem manL_open (f r:Int)(hf:f≤1000001)(hr:r≤1000001)(most:Int)(hm:100≤most):topen (manL f r) most=(Dm.num f.toNat++Dm.num r.toNat,[],0):=by
 have h1:=Dm.num_length f.toNat (by omega)
 have h2:=Dm.num_length r.toNat (by omega)
 have h3:(Dm.num f.toNat++Dm.num r.toNat).length≤42:=by rw[List.length_append];omega
 have:=topen_sld (Dm.num f.toNat++Dm.num r.toNat) [] most (by unfold Dm.maxU;omega) (by omega)
 rw[List.append_nil] at this
 exact this
theorem manL_nums (f r:Int)(h1:1≤f)(h2:f≤1000001)(h3:0≤r)(h4:r≤1000001):numA (manL f r)=f.toNat∧numB (manL f r)=r.toNat:=by
 have hlen:(Dm.num f.toNat++Dm.num r.toNat).length≤(manL f r).length:=by
  unfold manL sld;simp;omega
 have e:topen (manL f r) (manL f r).length=(Dm.num f.toNat++Dm.num r.toNat,[],0):=by
  have h1:=Dm.num_length f.toNat (by omega)
  have h2:=Dm.num_length r.toNat (by omega)
  have h3:(Dm.num f.toNat++Dm.num r.toNat).length≤42:=by rw[List.length_append];omega
  have:=topen_sld (Dm.num f.toNat++Dm.num r.toNat) [] (manL f r).length (by unfold Dm.maxU;omega) (by omega)
  rw[List.append_nil] at this
  exact this
 have e1:Dm.tnum (Dm.num f.toNat++Dm.num r.toNat)=(f.toNat,Dm.num r.toNat,0):=Dm.tnum_num _ _ (by unfold Dm.maxU;omega)
 have e2:Dm.tnum (Dm.num r.toNat)=(r.toNat,[],0):=by
  have:=Dm.tnum_num r.toNat [] (by unfold Dm.maxU;omega)
  rwa [List.append_nil] at this
 unfold numA numB
 rw[e]
 simp only[e1,e2,and_self]
theorem tman_rng (s:List UInt8):(tman s).2.2=0∧1≤(tman s).1∧(tman s).1≤1000000∧0≤(tman s).2.1∧(tman s).2.1≤1000000∨tman s=(0,0,3):=by
 unfold tman
 split
 · rename_i h
   exact .inl ⟨rfl,by simp only;omega,by simp only;omega,by simp only;omega,by simp only;omega⟩
 · exact .inr rfl
theorem begM_rng (l:List Fil):(begM l).2.2=0∧1≤(begM l).1∧(begM l).1≤1000000∧0≤(begM l).2.1∧(begM l).2.1≤1000000∨begM l=(0,0,3):=by
 unfold begM
 split
 · exact .inl ⟨rfl,by simp,by simp,by simp,by simp⟩
 · exact tman_rng _
theorem rnamB_ok {n:Int}(h:runOk n):rnamB n=⟨(114 :: Dm.dg n.toNat).toArray⟩:=by unfold rnamB rnam;rw[if_pos h]
theorem rnamB_no {n:Int}(h:¬ runOk n):rnamB n=⟨#[]⟩:=by unfold rnamB rnam;rw[if_neg h]
theorem rnamB_size (n:Int):(rnamB n).size≤8:=by
 by_cases h:runOk n
 · rw[rnamB_ok h]
   have:=namB_ok (a:=n) h
   rw[namB_size,nam_ok h] at this
   show (114 :: Dm.dg n.toNat).toArray.size≤8
   simpa using this.2
 · rw[rnamB_no h];show (0:Nat)≤8;omega
end Km
end
section
open Go.RowKit
def Tab (w:World):Prop:=Lib.TabIs Tryz.prog w "internal/strconv.uint64pow10" .u64 Lib.pow10Tab
theorem Tab.q {w w':World}(h:Tab w)(hq:Q w w'):Tab w':=Lib.tabBelow_of_tabIs h w' hq.below
end
section
open Go.RowKit Dkm
theorem dec_dg (v:Nat):Lib.decDigits v=Dm.dg v:=by
 induction v using Nat.strongRecOn with
 | _ v ih =>
   rw[Lib.decDigits,Dm.dg]
   by_cases h:v<10
   · rw[dif_pos h,if_pos h];rfl
   · rw[dif_neg h,if_neg h,ih (v / 10) (by omega)];rfl
theorem itoa_seg {seg:Int}(h:segOk seg):Lib.itoa seg=Dm.dg seg.toNat:=by
 have:=h.1
 unfold Lib.itoa
 rw[if_neg (by omega),dec_dg]
theorem itoa_any (seg:Int)(h:segOk seg)(w:World)(hT:Tab w) :
  Calls Tryz.prog 42 #[.int .i64 seg] w fun e w'=>e=.returned (.string ⟨(Dm.dg seg.toNat).toArray⟩)∧Q w w':=by
 have h1:=h.1
 have h2:=h.2
 refine(Tryz.strconv_Itoa seg (by omega) (by omega) w hT).mono fun e w' he=>?_
 obtain⟨he,k,os,rfl⟩:=he
 rw[itoa_seg h] at he
 exact⟨he,Lib.below_grow w.heap.size w (Nat.le_refl _) k os⟩
theorem numbered_yes (seg:Int)(h:segOk seg)(w:World):Calls Tryz.prog 120 #[.int .i64 seg] w fun e w'=>e=.returned (.bool true)∧Q w w':=by
 have h1:=h.1
 have h2:=h.2
 clear h
 go_enter Tryz.func120,Tryz.ntmps120
 go_wp2
 all_goals go_ret
 all_goals exact⟨rfl,by first | exact Q.refl _ | exact(Q.refl _).drew⟩
theorem numbered_no (seg:Int)(h:¬ segOk seg)(w:World):Calls Tryz.prog 120 #[.int .i64 seg] w fun e w'=>e=.returned (.bool false)∧Q w w':=by
 by_cases h1:1≤seg
 case' pos=>have h2:¬ seg≤1000000:=fun h2=>h ⟨h1,h2⟩
 all_goals
   clear h
   go_enter Tryz.func120,Tryz.ntmps120
   go_wp2
   all_goals go_ret
   all_goals exact⟨rfl,by first | exact Q.refl _ | exact(Q.refl _).drew⟩
theorem name_any (seg:Int)(w:World)(hT:Tab w):Calls Tryz.prog 121 #[.int .i64 seg] w fun e w'=>e=.returned (.string (namB seg))∧Q w w':=by
 by_cases h:segOk seg
 · have hR:=namB_ok h
   have e:namB seg=(⟨#[119]⟩:ByteArray)++⟨(Dm.dg seg.toNat).toArray⟩:=by
    unfold namB;rw[nam_ok h];rw[app_lists [119]];rfl
   have hI:=itoa_any seg h
   have hsz:(⟨(Dm.dg seg.toNat).toArray⟩:ByteArray).size≤8:=by
    rw[e,ByteArray.size_append] at hR;omega
   have HE:=hid e
   have HT:=hid hT
   clear e hR hT
   generalize (⟨(Dm.dg seg.toNat).toArray⟩:ByteArray)=R at hI HE hsz
   go_enter Tryz.func121,Tryz.ntmps121
   go_wp2_with fail
   refine(numbered_yes seg h _).mono ?_
   rintro e w1 ⟨rfl,q1⟩
   go_wp2_with fail
   refine(hI _ (HT.out.q q1)).mono ?_
   rintro e w2 ⟨rfl,q2⟩
   go_wp2
   go_ret
   exact⟨by rw[HE.out];rfl,q1.trans q2⟩
 · rw[namB_no h]
   go_enter Tryz.func121,Tryz.ntmps121
   go_wp2_with fail
   refine(numbered_no seg h _).mono ?_
   rintro e w1 ⟨rfl,q1⟩
   go_wp2
   go_ret
   exact⟨rfl,q1⟩
theorem has_any (nm:ByteArray)(A:Option Addr)(n c:Nat)(room fuse:Int)(off:Bool)(l:List Fil)(w:World)(hf:Files w A n l)(hn:n≤maxLen) :
  Calls Tryz.prog 148 #[dkv A n c room fuse off,.string nm] w fun e w'=>e=.returned (.bool (hit nm l).2)∧Q w w':=by
 have HF:=hid hf
 have HN:=hid hn
 have KK:=hid (fun w hf=>find_any nm A n c room fuse off l w hf hn)
 clear hf hn
 generalize hit nm l=r at KK ⊢
 obtain⟨f,b⟩:=r
 go_enter Tryz.func148,Tryz.ntmps148
 go_wp2_with fail
 refine(KK.out _ (HF.out.q ((Q.refl _).alloc _))).mono ?_
 rintro e w1 ⟨rfl,q1⟩
 have hq:=hid (((Q.refl w).alloc _).trans q1)
 clear q1
 go_wp2
 go_ret
 exact⟨rfl,hq.out.alloc _⟩
theorem wown_any (A:Option Addr)(n c:Nat)(room fuse:Int)(off:Bool)(l:List Fil)(w:World)(hd:Dsk w A n c l) :
  Calls Tryz.prog 119 #[dkv A n c room fuse off] w fun e w'=>RetOwnD w n room fuse off l e w':=by
 have HD:=hid hd
 clear hd
 go_enter Tryz.func119,Tryz.ntmps119
 go_wp2_with fail
 refine(clone A n c l _ (HD.out.q (((Q.refl _).alloc _).alloc _))).mono ?_
 rintro e w1 ⟨A1,c1,rfl,ho,q1⟩
 have HO:=hid ho
 clear ho
 obtain⟨e0,e1,e2,e3⟩:=box4 q1 (b:=w.heap.size) (x:=.slice A n c) (y:=.int .i64 room) (z:=.int .i64 fuse) (u:=.bool off) (by simp) (by simp) (by simp) (by simp)
 obtain⟨r0,r1,r2,r3⟩:=box4 q1 (b:=w.heap.size+1) (x:=.slice none 0 0) (y:=.int .i64 0) (z:=.int .i64 0) (u:=.bool false) (by simp) (by simp) (by simp) (by simp)
 obtain⟨hc,hz⟩:=bcell q1.below
 clear hc
 go_wp2
 refine bodyPost_ret (v:=dkv A1 n c1 room fuse off) (by simp[results,Tryz.results119,go_sem,r0,r1,r2,r3]) rfl ⟨A1,c1,rfl,?_,?_⟩
 · exact(((((HO.out.setCell (p:=⟨_,_,none⟩) (by simp<;>omega) _).setCell (p:=⟨_,_,none⟩) (by simp<;>omega) _).setCell (p:=⟨_,_,none⟩) (by simp<;>omega) _).setCell (p:=⟨_,_,none⟩) (by simp<;>omega) _).setCell (p:=⟨_,_,none⟩) (by simp<;>omega) _).lower (by simp<;>omega)
 · exact((((Q.refl _).alloc _).alloc _).trans q1).setCell (by simp) _ |>.set4 (by simp) _ _ _ _
end
section
open Go.RowKit Dkm Prm Km
theorem runName_any (n:Int)(w:World)(hT:Tab w):Calls Tryz.prog 12 #[.int .i64 n] w fun e w'=>e=.returned (.string (rnamB n))∧Q w w':=by
 by_cases h:runOk n
 · have hR:=rnamB_size n
   have e:rnamB n=(⟨#[114]⟩:ByteArray)++⟨(Dm.dg n.toNat).toArray⟩:=by
    rw[rnamB_ok h];rw[app_lists [114]];rfl
   have hI:=itoa_any n h
   have hsz:(⟨(Dm.dg n.toNat).toArray⟩:ByteArray).size≤8:=by
    rw[e,ByteArray.size_append] at hR;omega
   have HE:=hid e
   have HT:=hid hT
   obtain⟨h1,h2⟩:=h
   have h3:¬ n<1:=by omega
   have h4:¬ 1000000<n:=by omega
   clear e hR hT
   generalize (⟨(Dm.dg n.toNat).toArray⟩:ByteArray)=R at hI HE hsz
   go_enter Tryz.func12,Tryz.ntmps12
   go_wp2_with fail
   refine(hI _ HT.out).mono ?_
   rintro e w2 ⟨rfl,q2⟩
   go_wp2
   go_ret
   exact⟨by rw[HE.out];rfl,q2⟩
 · rw[rnamB_no h]
   have hc:n<1∨¬ n<1∧1000000<n:=by unfold runOk at h;omega
   clear h
   rcases hc with h1 | ⟨h1,h2⟩
   all_goals
     go_enter Tryz.func12,Tryz.ntmps12
     go_wp2
     go_ret
     exact⟨rfl,Q.refl _⟩
theorem manifest_any (f r:Int)(w:World)(hf:f≤9223372036854775807)(hr:r≤9223372036854775807):Calls Tryz.prog 14 #[.int .i64 f,.int .i64 r] w fun e w'=>e=.returned (.string (manB f r))∧Q w w':=by
 have KF:=hid (fun W=>num_any (max f 0) W (by omega) (by omega))
 have KR:=hid (fun W=>num_any (max r 0) W (by omega) (by omega))
 have l1:=Dm.num_length (max f 0).toNat (by omega)
 have l2:=Dm.num_length (max r 0).toNat (by omega)
 have hm:manB f r=⟨(sld ((⟨(Dm.num (max f 0).toNat).toArray⟩:ByteArray)++⟨(Dm.num (max r 0).toNat).toArray⟩).data.toList).toArray⟩:=by
  unfold manB manL
  rw[show (max f 0).toNat=f.toNat by omega,show (max r 0).toNat=r.toNat by omega,app_lists]
 have hz1:(⟨(Dm.num (max f 0).toNat).toArray⟩:ByteArray).size≤100:=by show (Dm.num (max f 0).toNat).toArray.size≤100;simp;omega
 have hz2:(⟨(Dm.num (max r 0).toNat).toArray⟩:ByteArray).size≤100:=by show (Dm.num (max r 0).toNat).toArray.size≤100;simp;omega
 have HM:=hid hm
 have m0:0≤max f 0:=by omega
 have m1:max f 0≤9223372036854775807:=by omega
 have m2:0≤max r 0:=by omega
 have m3:max r 0≤9223372036854775807:=by omega
 clear hm l1 l2
 generalize (⟨(Dm.num (max f 0).toNat).toArray⟩:ByteArray)=x at KF HM hz1
 generalize (⟨(Dm.num (max r 0).toNat).toArray⟩:ByteArray)=y at KR HM hz2
 go_enter Tryz.func14,Tryz.ntmps14
 go_wp2_with fail
 refine(KF.out _).mono ?_
 rintro e w1 ⟨rfl,q1⟩
 have Q1:=hid q1
 clear q1
 go_wp2_with fail
 refine(KR.out _).mono ?_
 rintro e w2 ⟨rfl,q2⟩
 have Q2:=hid (Q1.out.trans q2)
 clear q2
 go_wp2_with fail
 refine(seal_any _ _ (by rw[ByteArray.size_append];omega)).mono ?_
 rintro e w3 ⟨rfl,q3⟩
 go_wp2
 go_ret
 exact⟨ret_str (by rw[HM.out,ByteArray.data_append,Array.toList_append]),Q2.out.trans q3⟩
end
section
open Go.RowKit Dkm
namespace Dkm
theorem find_mid (o:ByteArray)(a b:List Fil)(f g:Fil)(hf:f.nm≠o)(hg:g.nm≠o):(a++f :: b).find? (fun x=>decide (x.nm=o))=(a++g :: b).find? (fun x=>decide (x.nm=o)):=by
 simp[List.find?_append,hf,hg]
theorem hit_set {o:ByteArray}{l:List Fil}{k:Nat}{g:Fil}(hk:k<l.length)(h1:l[k].nm≠o)(h2:g.nm≠o):hit o (l.set k g)=hit o l:=by
 have e1:l.set k g=l.take k++g :: l.drop (k+1):=List.set_eq_take_append_cons_drop.trans (by rw[if_pos hk])
 have e2:l=l.take k++l[k] :: l.drop (k+1):=by rw[←List.drop_eq_getElem_cons hk,List.take_append_drop]
 have:(l.set k g).find? (fun x=>decide (x.nm=o))=l.find? (fun x=>decide (x.nm=o)):=by
  rw[e1];conv=>rhs;rw[e2]
  exact find_mid o _ _ _ _ h2 h1
 unfold hit;rw[this]
theorem hit_snoc {o:ByteArray}{l:List Fil}{g:Fil}(h:g.nm≠o):hit o (l++[g])=hit o l:=by
 have:(l++[g]).find? (fun x=>decide (x.nm=o))=l.find? (fun x=>decide (x.nm=o)):=by simp[List.find?_append,h]
 unfold hit;rw[this]
theorem appd_apart {o nm s:ByteArray}(d:Dk)(h:o≠nm):hit o (appd d nm s).1.fs=hit o d.fs:=by
 unfold appd
 split;rfl
 split;rfl
 split;rfl
 split;rfl
 show hit o (put _ _ _)=_
 rcases plc_cases nm d.fs with ⟨_,hall⟩ | ⟨k,hk,_,hkn,hfirst⟩
 · rw[opn_none hall];unfold put;rw[if_pos rfl];exact hit_snoc (fun e=>h e.symm)
 · rw[opn_at hk hkn hfirst];unfold put;simp only
   rw[if_neg (by omega)]
   exact hit_set hk (fun e=>h (e.symm.trans hkn)) (fun e=>h (e.symm.trans hkn))
theorem syn_apart {o nm:ByteArray}(d:Dk)(h:o≠nm):hit o (syn d nm).1.fs=hit o d.fs:=by
 obtain⟨l,room,fuse,off⟩:=d
 cases off
 · rcases plc_cases nm l with ⟨hp,hall⟩ | ⟨k,hk,hp,hkn,hfirst⟩
   · rw[syn_none hall]
   · rw[syn_at hk hkn hfirst]
     exact hit_set hk (fun e=>h (e.symm.trans hkn)) (fun e=>h (e.symm.trans hkn))
 · rfl
end Dkm
end
section
open Go.RowKit Dkm
namespace Dkm
def Uniq (l:List Fil):Prop:=∀ i j,∀ hi:i<l.length,∀ hj:j<l.length,l[i].nm=l[j].nm→i=j
theorem find_none {l:List Fil}{nm:ByteArray}(hu:∀ j,∀ hj:j<l.length,l[j].nm≠nm):redd nm l=(⟨#[]⟩,7):=
 redd_none (fun f hf=>by obtain⟨i,hi,rfl⟩:=List.getElem_of_mem hf;exact hu i hi)
end Dkm
end
section
open Dkm
namespace Du
theorem uniq_pw (l:List Fil):Uniq l↔l.Pairwise fun a b=>a.nm≠b.nm:=by
 rw[List.pairwise_iff_getElem]
 constructor
 · intro h i j hi hj hij e
   have:=h i j hi hj e;omega
 · intro h i j hi hj e
   rcases Nat.lt_trichotomy i j with hlt | he | hlt
   · exact absurd e (h i j hi hj hlt)
   · exact he
   · exact absurd e.symm (h j i hj hi hlt)
theorem uniq_snoc {l:List Fil}(hu:Uniq l){f:Fil}(hf:∀ g∈l,g.nm≠f.nm):Uniq (l++[f]):=by
 rw[uniq_pw,List.pairwise_append]
 exact⟨(uniq_pw _).1 hu,by simp,fun a ha b hb=>by simp at hb;subst hb;exact hf a ha⟩
theorem uniq_names {l m:List Fil}(h:Uniq l)(e:m.map Fil.nm=l.map Fil.nm):Uniq m:=by
 have hl:m.length=l.length:=by have:=congrArg List.length e;simpa using this
 intro i j hi hj hn
 have g:∀ k (hk:k<m.length),m[k].nm=(l[k]'(by omega)).nm:=fun k hk=>by
  have:=congrArg (fun x:List ByteArray=>x[k]?) e
  simp only[List.getElem?_map,List.getElem?_eq_getElem hk,List.getElem?_eq_getElem (show k<l.length by omega),Option.map_some,Option.some.injEq] at this
  exact this
 exact h i j (by omega) (by omega) (by rw[←g i hi,←g j hj];exact hn)
theorem uniq_set {l:List Fil}(h:Uniq l){k:Nat}{f:Fil}(hk:k<l.length)(hf:f.nm=l[k].nm):Uniq (l.set k f):=by
 refine uniq_names h ?_
 rw[List.map_set,hf]
 have e:(l.map Fil.nm)[k]'(by simpa using hk)=l[k].nm:=by simp
 rw[←e,List.set_getElem_self]
theorem hit_some {nm:ByteArray}{l:List Fil}(h:(hit nm l).2=true):∃ k,∃ hk:k<l.length,l[k].nm=nm∧(∀ j,∀ h:j<l.length,j<k→l[j].nm≠nm)∧hit nm l=(l[k],true)∧opn nm l=(l[k],k):=by
 rcases plc_cases nm l with ⟨_,hall⟩ | ⟨k,hk,_,hkn,hf⟩
 · rw[hit_none hall] at h;cases h
 · exact⟨k,hk,hkn,hf,hit_at hk hkn hf,opn_at hk hkn hf⟩
theorem hit_no {nm:ByteArray}{l:List Fil}(h:(hit nm l).2=false):∀ f∈l,f.nm≠nm:=by
 rcases plc_cases nm l with ⟨_,hall⟩ | ⟨k,hk,_,hkn,hf⟩
 · exact hall
 · rw[hit_at hk hkn hf] at h;cases h
theorem hit_setk {nm:ByteArray}{l:List Fil}{k:Nat}{f:Fil}(hk:k<l.length)(hn:f.nm=nm)(hf:∀ j,∀ h:j<l.length,j<k→l[j].nm≠nm):hit nm (l.set k f)=(f,true):=by
 have hk':k<(l.set k f).length:=by simpa using hk
 have:=hit_at (nm:=nm) (l:=l.set k f) hk' (by rw[List.getElem_set_self];exact hn) (fun j h hj=>by rw[List.getElem_set_ne (by omega)];exact hf j (by simpa using h) hj)
 rw[this,List.getElem_set_self]
theorem hit_end {nm:ByteArray}{l:List Fil}{f:Fil}(hn:f.nm=nm)(hf:∀ g∈l,g.nm≠nm):hit nm (l++[f])=(f,true):=by
 have hk:l.length<(l++[f]).length:=by simp
 have:=hit_at (nm:=nm) (l:=l++[f]) hk (by simpa using hn) (fun j h hj=>by rw[List.getElem_append_left hj];exact hf _ (List.getElem_mem hj))
 rw[this];simp
theorem appd_cases (d:Dk)(nm s:ByteArray)(hu:Uniq d.fs):((appd d nm s).1=d∧((appd d nm s).2=6∧d.off=true∨(appd d nm s).2=1∧nmOk nm=false∨(appd d nm s).2=5∨(appd d nm s).2=4∧65536<(hit nm d.fs).1.sf.size+(hit nm d.fs).1.wt.size+s.size)) ∨
  ((appd d nm s).2=(if short d.fuse s then 6 else 0)∧Uniq (appd d nm s).1.fs∧hit nm (appd d nm s).1.fs=(⟨nm,(hit nm d.fs).1.sf,(hit nm d.fs).1.wt++cut d.fuse s⟩,true)):=by
 have hopn:(opn nm d.fs).1.sf=(hit nm d.fs).1.sf∧(opn nm d.fs).1.wt=(hit nm d.fs).1.wt∧(opn nm d.fs).1.nm=nm:=by
  rcases plc_cases nm d.fs with ⟨_,hall⟩ | ⟨k,hk,_,hkn,hf⟩
  · rw[opn_none hall,hit_none hall];exact⟨rfl,rfl,rfl⟩
  · rw[opn_at hk hkn hf,hit_at hk hkn hf];exact⟨rfl,rfl,hkn⟩
 unfold appd
 split
 · rename_i h;exact .inl ⟨rfl,.inl ⟨rfl,h⟩⟩
 · split
   · rename_i h;exact .inl ⟨rfl,.inr (.inl ⟨rfl,h⟩)⟩
   · split
     · exact .inl ⟨rfl,.inr (.inr (.inl rfl))⟩
     · split
       · rename_i h;rw[hopn.1,hopn.2.1] at h;exact .inl ⟨rfl,.inr (.inr (.inr ⟨rfl,h⟩))⟩
       · refine .inr ⟨rfl,?_⟩
         rw[hopn.1,hopn.2.1,hopn.2.2]
         simp only
         rcases plc_cases nm d.fs with ⟨_,hall⟩ | ⟨k,hk,_,hkn,hf⟩
         · rw[opn_none hall]
           unfold put
           rw[if_pos rfl]
           exact⟨uniq_snoc hu hall,hit_end rfl hall⟩
         · rw[opn_at hk hkn hf]
           unfold put
           rw[if_neg (by simp only;omega)]
           exact⟨uniq_set hu hk hkn.symm,hit_setk hk rfl hf⟩
theorem syn_cases (d:Dk)(nm:ByteArray)(hu:Uniq d.fs):((syn d nm).1=d∧((syn d nm).2=6∧d.off=true∨(syn d nm).2=7∧(hit nm d.fs).2=false)) ∨
  ((syn d nm).2=0∧d.off=false∧(hit nm d.fs).2=true∧Uniq (syn d nm).1.fs∧hit nm (syn d nm).1.fs=(⟨nm,(hit nm d.fs).1.sf++(hit nm d.fs).1.wt,⟨#[]⟩⟩,true)):=by
 unfold syn
 split
 · rename_i h;exact .inl ⟨rfl,.inl ⟨rfl,h⟩⟩
 · rename_i h0
   split
   · rename_i h
     refine .inr ⟨rfl,by simpa using h0,h,?_⟩
     obtain⟨k,hk,hn,hf,e1,e2⟩:=hit_some h
     rw[e1,e2]
     exact⟨uniq_set hu hk rfl,by rw[hn];exact hit_setk hk rfl hf⟩
   · rename_i h;exact .inl ⟨rfl,.inr ⟨rfl,by simpa using h⟩⟩
theorem hit_crs (d:Dk)(ks:List Int)(nm:ByteArray):((hit nm d.fs).2=false∧(hit nm (crs d ks).fs).2=false)∨((hit nm d.fs).2=true∧∃ k,hit nm (crs d ks).fs=(⟨nm,(hit nm d.fs).1.sf++(hit nm d.fs).1.wt.extract 0 k,⟨#[]⟩⟩,true)):=by
 have e:(crs d ks).fs=d.fs.mapIdx (crf ks):=by
  show crl ks d.fs d.fs.length=_
  unfold crl;rw[List.take_length,List.drop_length,List.append_nil]
 rw[e]
 rcases plc_cases nm d.fs with ⟨_,hall⟩ | ⟨k,hk,_,hkn,hf⟩
 · refine .inl ⟨by rw[hit_none hall],?_⟩
   rw[hit_none]
   intro f hfm
   obtain⟨i,hi,rfl⟩:=List.getElem_of_mem hfm
   rw[List.getElem_mapIdx]
   exact hall (d.fs[i]'(by simpa using hi)) (List.getElem_mem _)
 · have hk':k<(d.fs.mapIdx (crf ks)).length:=by simpa using hk
   refine .inr ⟨by rw[hit_at hk hkn hf],kp ks k d.fs[k],?_⟩
   rw[hit_at hk hkn hf,hit_at hk' (by rw[List.getElem_mapIdx];exact hkn) (fun j hj hjk=>by rw[List.getElem_mapIdx];exact hf j (by simpa using hj) hjk),List.getElem_mapIdx]
   unfold crf
   rw[hkn]
theorem crs_uniq (d:Dk)(ks:List Int)(hu:Uniq d.fs):Uniq (crs d ks).fs:=by
 have e:(crs d ks).fs=d.fs.mapIdx (crf ks):=by
  show crl ks d.fs d.fs.length=_
  unfold crl;rw[List.take_length,List.drop_length,List.append_nil]
 rw[e]
 intro i j hi hj he
 rw[List.getElem_mapIdx,List.getElem_mapIdx] at he
 exact hu i j (by simpa using hi) (by simpa using hj) he
end Du
end
section
open Dkm Wm Du
namespace Wl
abbrev Rec:=List UInt8
def Le (r:List Rec):Prop:=∀ x∈r,x.length≤2048
def Full (fs:List Fil)(k:Int)(r:List Rec):Prop:=
 (hit (namB k) fs).2=true∧(hit (namB k) fs).1.sf.data.toList=flat r∧(hit (namB k) fs).1.wt=⟨#[]⟩∧(flat r).length≤8192
structure St (fs:List Fil) (rs:List (List Rec)) (r:List Rec) (t:List UInt8) (m:Nat):Prop where
 uniq:Uniq fs
 top:rs.length+1≤1000000
 full:∀ i (h:i<rs.length),Full fs ((i:Int)+1) rs[i]
 none:∀ k:Int,(rs.length:Int)+1<k→segOk k→(hit (namB k) fs).2=false
 les:∀ x∈rs,Le x
 le:Le r
 part:Part t
 mle:m≤r.length
 size:(flat r++t).length≤8192
 last:((hit (namB ((rs.length:Int)+1)) fs).2=false∧r=[]∧t=[])∨((hit (namB ((rs.length:Int)+1)) fs).2=true)
 text:(hit (namB ((rs.length:Int)+1)) fs).1.sf.data.toList++(hit (namB ((rs.length:Int)+1)) fs).1.wt.data.toList=flat r++t
 safe:flat (r.take m) <+: (hit (namB ((rs.length:Int)+1)) fs).1.sf.data.toList
theorem St.ok {fs:List Fil}{rs:List (List Rec)}{r:List Rec}{t:List UInt8}{m:Nat}(h:St fs rs r t m):segOk ((rs.length:Int)+1):=by have:=h.top;unfold segOk;omega
theorem hit_def {nm:ByteArray}{l:List Fil}(h:(hit nm l).2=false):(hit nm l).1=⟨⟨#[]⟩,⟨#[]⟩,⟨#[]⟩⟩:=by rw[hit_none (hit_no h)]
theorem St.turn {fs fs':List Fil}{rs:List (List Rec)}{r r':List Rec}{t t':List UInt8}{m m':Nat}(h:St fs rs r t m)(hu:Uniq fs')
  (ha:∀ k,segOk k→k≠(rs.length:Int)+1→hit (namB k) fs'=hit (namB k) fs) (hle:Le r') (hp:Part t') (hm:m'≤r'.length) (hs:(flat r'++t').length≤8192)
  (hit1:(hit (namB ((rs.length:Int)+1)) fs').2=true) (htx:(hit (namB ((rs.length:Int)+1)) fs').1.sf.data.toList++(hit (namB ((rs.length:Int)+1)) fs').1.wt.data.toList=flat r'++t')
  (hsf:flat (r'.take m') <+: (hit (namB ((rs.length:Int)+1)) fs').1.sf.data.toList):St fs' rs r' t' m' where
 uniq:=hu
 top:=h.top
 full i hi:=by
  have h1:=h.full i hi
  have e:=ha ((i:Int)+1) (by have:=h.top;unfold segOk;omega) (by omega)
  unfold Full at h1 ⊢
  rw[e];exact h1
 none k hk hs:=by rw[ha k hs (by omega)];exact h.none k hk hs
 les:=h.les
 le:=hle
 part:=hp
 mle:=hm
 size:=hs
 last:=.inr hit1
 text:=htx
 safe:=hsf
theorem St.next {fs:List Fil}{rs:List (List Rec)}{r:List Rec}{m:Nat}(h:St fs rs r [] m)(htop:rs.length+2≤1000000)(h1:(hit (namB ((rs.length:Int)+1)) fs).2=true)(hw:(hit (namB ((rs.length:Int)+1)) fs).1.wt=⟨#[]⟩):St fs (rs++[r]) [] [] 0:=by
 have hl:((rs++[r]).length:Int)+1=(rs.length:Int)+2:=by simp;omega
 have hn:(hit (namB ((rs.length:Int)+2)) fs).2=false:=h.none _ (by omega) (by unfold segOk;omega)
 have hd:=hit_def hn
 refine⟨h.uniq,by simp;omega,fun i hi=>?_,fun k hk hs=>h.none k (by rw[hl] at hk;omega) hs,fun x hx=>?_,fun x hx=>by simp at hx,Part.nil,by simp,by simp[flat_nil],?_,?_,?_⟩
 · by_cases hi2:i<rs.length
   · rw[List.getElem_append_left hi2];exact h.full i hi2
   · have e:i=rs.length:=by simp at hi;omega
     subst e
     have htx:=h.text
     rw[hw] at htx
     have e1:(rs++[r])[rs.length]=r:=by simp
     rw[e1]
     refine⟨h1,by simpa using htx,hw,by have:=h.size;simpa using this⟩
 · rcases List.mem_append.1 hx with hx | hx
   · exact h.les x hx
   · simp at hx;subst hx;exact h.le
 · rw[hl];exact .inl ⟨hn,rfl,rfl⟩
 · rw[hl,hd];rfl
 · rw[hl,hd];simp[flat_nil]
theorem St.back {fs:List Fil}{rs:List (List Rec)}{r:List Rec}{m:Nat}(h:St fs (rs++[r]) [] [] m)(hn:(hit (namB (((rs++[r]).length:Int)+1)) fs).2=false):St fs rs r [] r.length:=by
 have hl:((rs++[r]).length:Int)+1=(rs.length:Int)+2:=by simp;omega
 rw[hl] at hn
 have hf:=h.full rs.length (by simp)
 have e1:(rs++[r])[rs.length]'(by simp)=r:=by simp
 rw[e1] at hf
 obtain⟨f1,f2,f3,f4⟩:=hf
 have htop:=h.top
 rw[List.length_append,List.length_singleton] at htop
 refine⟨h.uniq,by omega,fun i hi=>?_,fun k hk hs=>?_,fun x hx=>h.les x (by simp[hx]),h.les r (by simp),Part.nil,Nat.le_refl _,by simpa using f4,.inr f1,by rw[f2,f3],by rw[f2,List.take_length];exact List.prefix_refl _⟩
 · have:=h.full i (by simp;omega)
   rw[List.getElem_append_left hi] at this;exact this
 · by_cases e:k=(rs.length:Int)+2
   · rw[e];exact hn
   · exact h.none k (by rw[hl];omega) hs
theorem whole_in {us r:List Rec}{q:List UInt8}{m:Nat}(hu:Le us)(hr:Le r)(hq:Part q)(hm:m≤r.length)(h:flat (r.take m) <+: flat us++q):m≤us.length:=by
 obtain⟨b,hb⟩:=h
 have h1:=scn_part us hu hq
 rw[←hb,scn_app (r.take m) (fun x hx=>hr x (List.mem_of_mem_take hx)) b] at h1
 have:=congrArg (fun x=>x.1.length) h1
 simp only[List.length_append,List.length_take] at this
 omega
theorem sld_small (s:List UInt8)(hs:s.length≤2048):(sld s).length≤2100:=by
 have:=sld_length s (by omega)
 omega
theorem putA_inv {d:Dk}{rs:List (List Rec)}{r:List Rec}{m:Nat}(h:St d.fs rs r [] m)(rec:ByteArray)(hrec:rec.size≤2048)(hsz:(flat r).length<256) :
  ((appd d (namB ((rs.length:Int)+1)) (sealB rec)).2=0→St (appd d (namB ((rs.length:Int)+1)) (sealB rec)).1.fs rs (r++[rec.data.toList]) [] m) ∧
  ((appd d (namB ((rs.length:Int)+1)) (sealB rec)).2≠0→∃ t,St (appd d (namB ((rs.length:Int)+1)) (sealB rec)).1.fs rs r t m∧((appd d (namB ((rs.length:Int)+1)) (sealB rec)).2≠6→t=[])):=by
 have hap:∀ k,segOk k→k≠(rs.length:Int)+1→hit (namB k) (appd d (namB ((rs.length:Int)+1)) (sealB rec)).1.fs=hit (namB k) d.fs:=fun k hk hne=>appd_apart d fun e=>hne (namB_inj hk h.ok e)
 have hl:rec.data.toList.length=rec.size:=by show rec.data.toList.length=rec.data.size;simp
 have hsl:=sld_small rec.data.toList (by omega)
 rcases appd_cases d (namB ((rs.length:Int)+1)) (sealB rec) h.uniq with ⟨e1,e2⟩ | ⟨e1,e2,e3⟩
 · rw[e1]
   refine⟨fun h0=>?_,fun _=>⟨[],h,fun _=>rfl⟩⟩
   rcases e2 with ⟨e,_⟩ | ⟨e,_⟩ | e | ⟨e,_⟩<;>rw[e] at h0<;>cases h0
 · generalize appd d (namB ((rs.length:Int)+1)) (sealB rec)=x at e1 e2 e3 hap
   have htx:=h.text
   rw[List.append_nil] at htx
   cases hsh:short d.fuse (sealB rec) with
   | false =>
     rw[hsh] at e1
     have hc:cut d.fuse (sealB rec)=sealB rec:=by unfold cut;rw[hsh];rfl
     rw[hc] at e3
     have hfl:flat (r++[rec.data.toList])=flat r++sld rec.data.toList:=by rw[flat_app,flat_cons,flat_nil,List.append_nil]
     refine⟨fun _=>h.turn e2 hap (fun y hy=>?_) Part.nil (by have:=h.mle;simp;omega) (by rw[hfl];simp;omega) (by rw[e3]) ?_ ?_,fun h0=>absurd e1 h0⟩
     · rcases List.mem_append.1 hy with hy | hy
       · exact h.le y hy
       · simp at hy;subst hy;omega
     · rw[e3]
       show (hit _ d.fs).1.sf.data.toList++((hit _ d.fs).1.wt++sealB rec).data.toList=_
       rw[ByteArray.data_append,Array.toList_append,sealB_list,←List.append_assoc,htx,hfl,List.append_nil]
     · rw[e3,List.take_append_of_le_length h.mle];exact h.safe
   | true =>
     rw[hsh] at e1
     have hc:cut d.fuse (sealB rec)=(sealB rec).extract 0 d.fuse.toNat:=by unfold cut;rw[hsh];rfl
     rw[hc] at e3
     have hcl:((sealB rec).extract 0 d.fuse.toNat).data.toList=(sld rec.data.toList).take d.fuse.toNat:=by rw[ByteArray.data_extract];simp[sealB]
     have hfu:d.fuse.toNat<(sld rec.data.toList).length:=by
      simp only[short,decide_eq_true_eq] at hsh
      rw[sealB_size] at hsh;omega
     refine⟨fun h0=>(by rw[h0] at e1;cases e1),fun _=>⟨(sld rec.data.toList).take d.fuse.toNat,h.turn e2 hap h.le ⟨rec.data.toList,by unfold Dm.maxU;omega,_,hfu,rfl⟩ h.mle (by rw[List.length_append,List.length_take];omega) (by rw[e3]) ?_ (by rw[e3];exact h.safe),fun h6=>absurd e1 h6⟩⟩
     rw[e3]
     show (hit _ d.fs).1.sf.data.toList++((hit _ d.fs).1.wt++(sealB rec).extract 0 d.fuse.toNat).data.toList=_
     rw[ByteArray.data_append,Array.toList_append,hcl,←List.append_assoc,htx]
theorem syn_inv {d:Dk}{rs:List (List Rec)}{r:List Rec}{t:List UInt8}{m:Nat}(h:St d.fs rs r t m) :
  ((syn d (namB ((rs.length:Int)+1))).2=0→St (syn d (namB ((rs.length:Int)+1))).1.fs rs r t r.length∧(hit (namB ((rs.length:Int)+1)) (syn d (namB ((rs.length:Int)+1))).1.fs).2=true∧(hit (namB ((rs.length:Int)+1)) (syn d (namB ((rs.length:Int)+1))).1.fs).1.wt=⟨#[]⟩) ∧
  ((syn d (namB ((rs.length:Int)+1))).2≠0→(syn d (namB ((rs.length:Int)+1))).1=d):=by
 have hap:∀ k,segOk k→k≠(rs.length:Int)+1→hit (namB k) (syn d (namB ((rs.length:Int)+1))).1.fs=hit (namB k) d.fs:=fun k hk hne=>syn_apart d fun e=>hne (namB_inj hk h.ok e)
 rcases syn_cases d (namB ((rs.length:Int)+1)) h.uniq with ⟨e1,e2⟩ | ⟨e1,e2,e3,e4,e5⟩
 · rw[e1]
   refine⟨fun h0=>?_,fun _=>rfl⟩
   rcases e2 with ⟨e,_⟩ | ⟨e,_⟩<;>rw[e] at h0<;>cases h0
 · refine⟨fun _=>?_,fun h0=>absurd e1 h0⟩
   generalize syn d (namB ((rs.length:Int)+1))=x at e1 e4 e5 hap
   have htx:=h.text
   have hsf:(hit (namB ((rs.length:Int)+1)) x.1.fs).1.sf.data.toList=flat r++t:=by
    rw[e5]
    show ((hit _ d.fs).1.sf++(hit _ d.fs).1.wt).data.toList=_
    rw[ByteArray.data_append,Array.toList_append];exact htx
   refine⟨h.turn e4 hap h.le h.part (Nat.le_refl _) h.size (by rw[e5]) ?_ ?_,by rw[e5],by rw[e5]⟩
   · rw[hsf,e5];simp
   · rw[hsf,List.take_length];exact List.prefix_append _ _
theorem crs_inv {d:Dk}{rs:List (List Rec)}{r:List Rec}{t:List UInt8}{m:Nat}(h:St d.fs rs r t m)(ks:List Int) :
  ∃ us q,us <+: r∧m≤us.length∧St (crs d ks).fs rs us q m∧(hit (namB ((rs.length:Int)+1)) (crs d ks).fs).1.wt=⟨#[]⟩:=by
 have hfull:∀ i (hi:i<rs.length),Full (crs d ks).fs ((i:Int)+1) rs[i]:=by
  intro i hi
  obtain⟨f1,f2,f3,f4⟩:=h.full i hi
  rcases hit_crs d ks (namB ((i:Int)+1)) with ⟨e,_⟩ | ⟨_,k,e⟩
  · rw[f1] at e;cases e
  · unfold Full
    rw[e,f3]
    refine⟨rfl,?_,rfl,f4⟩
    show ((hit _ d.fs).1.sf++(⟨#[]⟩:ByteArray).extract 0 k).data.toList=_
    rw[ByteArray.data_append,Array.toList_append,f2];simp
 have hnone:∀ k:Int,(rs.length:Int)+1<k→segOk k→(hit (namB k) (crs d ks).fs).2=false:=by
  intro k hk hs
  rcases hit_crs d ks (namB k) with ⟨_,e⟩ | ⟨e,_⟩
  · exact e
  · rw[h.none k hk hs] at e;cases e
 rcases hit_crs d ks (namB ((rs.length:Int)+1)) with ⟨e1,e2⟩ | ⟨e1,k,e2⟩
 · rcases h.last with ⟨_,rfl,rfl⟩ | e
   · have hd:=hit_def e2
     have hm:m=0:=Nat.le_zero.1 h.mle
     subst hm
     refine⟨[],[],List.prefix_refl _,Nat.le_refl _,⟨crs_uniq d ks h.uniq,h.top,hfull,hnone,h.les,h.le,Part.nil,Nat.le_refl _,h.size,.inl ⟨e2,rfl,rfl⟩,by rw[hd];rfl,by rw[hd];simp[flat_nil]⟩,by rw[hd]⟩
   · rw[e1] at e;cases e
 · have htx:=h.text
   have hsf:(hit (namB ((rs.length:Int)+1)) (crs d ks).fs).1.sf.data.toList=(hit (namB ((rs.length:Int)+1)) d.fs).1.sf.data.toList++(hit (namB ((rs.length:Int)+1)) d.fs).1.wt.data.toList.take k:=by
    rw[e2]
    show ((hit _ d.fs).1.sf++(hit _ d.fs).1.wt.extract 0 k).data.toList=_
    rw[ByteArray.data_append,Array.toList_append,ByteArray.data_extract];simp
   have hpre:(hit (namB ((rs.length:Int)+1)) (crs d ks).fs).1.sf.data.toList <+: flat r++t:=by
    rw[hsf,←htx]
    exact(List.prefix_append_right_inj _).2 (List.take_prefix _ _)
   have hsz:=hpre.length_le
   obtain⟨us,q,u1,u2,u3⟩:=pre_part r t _ h.le h.part hpre
   have hle:Le us:=fun x hx=>h.le x (u1.subset hx)
   have hsafe:flat (r.take m) <+: flat us++q:=by
    rw[←u3,hsf]
    exact h.safe.trans (List.prefix_append _ _)
   have hml:=whole_in hle h.le u2 h.mle hsafe
   obtain⟨v,hv⟩:=u1
   have htk:r.take m=us.take m:=by rw[←hv,List.take_append_of_le_length hml]
   refine⟨us,q,⟨v,hv⟩,hml,⟨crs_uniq d ks h.uniq,h.top,hfull,hnone,h.les,hle,u2,hml,by rw[←u3];exact Nat.le_trans hsz h.size,.inr (by rw[e2]),?_,by rw[←htk,u3];exact hsafe⟩,by rw[e2]⟩
   rw[u3,e2];simp
end Wl
end
section
open Dkm Wm Du
namespace Wl
theorem appd_pow (d:Dk)(nm s:ByteArray)(h1:d.off=false)(h2:d.fuse<0):(appd d nm s).1.off=false∧(appd d nm s).1.fuse<0:=by
 have hs:short d.fuse s=false:=by unfold short;simp;omega
 unfold appd
 split;exact⟨h1,h2⟩
 split;exact⟨h1,h2⟩
 split;exact⟨h1,h2⟩
 split;exact⟨h1,h2⟩
 refine⟨hs,?_⟩
 show (if 0≤d.fuse then _ else d.fuse)<0
 rw[if_neg (by omega)];exact h2
theorem syn_pow (d:Dk)(nm:ByteArray)(h1:d.off=false)(h2:d.fuse<0):(syn d nm).1.off=false∧(syn d nm).1.fuse<0:=by
 unfold syn
 split;exact⟨h1,h2⟩
 split<;>exact⟨h1,h2⟩
theorem crs_pow (d:Dk)(ks:List Int):(crs d ks).off=false∧(crs d ks).fuse<0:=⟨rfl,by show (-1:Int)<0;omega⟩
theorem recF_full (d:Dk)(from_:Int):∀ (rs:List (List Rec)) (n:Nat) (s:Int) (acc:List Rec) (last:Int),(∀ i (h:i<rs.length),Full d.fs (s+(i:Int)) rs[i])→(∀ x∈rs,Le x)→1≤s→s+(rs.length:Int)≤1000001 →
  recF (rs.length+n) d from_ s acc last=recF n d from_ (s+(rs.length:Int)) (acc++rs.flatten) (if rs=[] then last else s+(rs.length:Int) - 1)
 | [],n,s,acc,last,_,_,_,_=>by simp
 | r :: rs,n,s,acc,last,hf,hl,h1,h2=>by
   simp only[List.length_cons] at h2
   have hs:segOk s:=by unfold segOk;omega
   obtain⟨f1,f2,f3,f4⟩:=hf 0 (by simp)
   simp only[Int.ofNat_zero,Int.add_zero,List.getElem_cons_zero] at f1 f2 f3 f4
   have hrd:redd (namB s) d.fs=((hit (namB s) d.fs).1.sf++⟨#[]⟩,0):=by unfold redd;rw[f1,if_pos rfl,f3]
   have hsc:scn (redd (namB s) d.fs).1.data.toList=(r,[]):=by
    rw[hrd]
    show scn ((hit (namB s) d.fs).1.sf++(⟨#[]⟩:ByteArray)).data.toList=_
    rw[ByteArray.data_append,Array.toList_append,f2]
    simpa using scn_flat r (hl r (by simp))
   have ih:=recF_full d from_ rs n (s+1) (acc++r) s (fun i hi=>by
    have:=hf (i+1) (by simpa using hi)
    rw[List.getElem_cons_succ] at this
    rw[show s+1+(i:Int)=s+((i+1:Nat):Int) by omega];exact this) (fun x hx=>hl x (by simp[hx])) (by omega) (by omega)
   rw[show (r :: rs).length+n=(rs.length+n)+1 by simp;omega]
   conv=>lhs;unfold Wm.recF
   rw[if_neg (by simpa using hs),if_neg (by rw[hrd];simp),hsc]
   simp only[if_true]
   rw[ih]
   have e1:s+1+(rs.length:Int)=s+((r :: rs).length:Int):=by simp;omega
   rw[e1]
   have e2:acc++r++rs.flatten=acc++(r :: rs).flatten:=by simp
   rw[e2]
   congr 1
   rw[if_neg (List.cons_ne_nil r rs)]
   by_cases hr:rs=[]
   · rw[if_pos hr];subst hr;simp
   · rw[if_neg hr]
theorem rec_st (x:Dk){rs:List (List Rec)}{us:List Rec}{q:List UInt8}{m:Nat}(h:St x.fs rs us q m) :
  recM x 1=recF (1000000 - rs.length) x 1 ((rs.length:Int)+1) rs.flatten (if rs=[] then 1 else (rs.length:Int)):=by
 have htop:=h.top
 unfold Wm.recM
 rw[if_neg (by unfold segOk;omega)]
 have e:fuelOf 1=rs.length+(1000000 - rs.length):=by unfold fuelOf;omega
 rw[e,recF_full x 1 rs (1000000 - rs.length) 1 [] 1 (fun i hi=>by rw[show (1:Int)+(i:Int)=(i:Int)+1 by omega];exact h.full i hi) h.les (by omega) (by omega)]
 rw[show (1:Int)+(rs.length:Int)=(rs.length:Int)+1 by omega,List.nil_append]
 congr 1
 by_cases hr:rs=[]
 · rw[if_pos hr,if_pos hr]
 · rw[if_neg hr,if_neg hr];omega
theorem rec_clean {x:Dk}{rs:List (List Rec)}{us:List Rec}{m:Nat}(h:St x.fs rs us [] m)(hw:(hit (namB ((rs.length:Int)+1)) x.fs).1.wt=⟨#[]⟩) :
  recM x 1=(x,rs.flatten++us,if (hit (namB ((rs.length:Int)+1)) x.fs).2 then (rs.length:Int)+1 else if rs=[] then 1 else (rs.length:Int),0):=by
 rw[rec_st x h]
 have htop:=h.top
 obtain⟨n,hn⟩:∃ n,1000000 - rs.length=n+1:=⟨1000000 - rs.length - 1,by omega⟩
 rw[hn]
 conv=>lhs;unfold Wm.recF
 rw[if_neg (by simpa using h.ok)]
 rcases h.last with ⟨e,rfl,_⟩ | e
 · have hrd:(redd (namB ((rs.length:Int)+1)) x.fs).2=7:=by unfold redd;rw[e];rfl
   rw[if_pos (by rw[hrd];decide),e]
   simp
 · have hrd:redd (namB ((rs.length:Int)+1)) x.fs=((hit (namB ((rs.length:Int)+1)) x.fs).1.sf++(hit (namB ((rs.length:Int)+1)) x.fs).1.wt,0):=by unfold redd;rw[e,if_pos rfl]
   have hsc:scn (redd (namB ((rs.length:Int)+1)) x.fs).1.data.toList=(us,[]):=by
    rw[hrd]
    show scn ((hit _ x.fs).1.sf++(hit _ x.fs).1.wt).data.toList=_
    rw[ByteArray.data_append,Array.toList_append,h.text,List.append_nil]
    exact scn_flat us h.le
   rw[if_neg (by rw[hrd];simp),hsc,e]
   simp only[if_true]
   cases n with
   | zero=>rfl
   | succ n =>
     unfold Wm.recF
     by_cases hs:segOk ((rs.length:Int)+1+1)
     · rw[if_neg (by simpa using hs)]
       have hno:=h.none _ (by omega) hs
       have hrd2:(redd (namB ((rs.length:Int)+1+1)) x.fs).2=7:=by unfold redd;rw[hno];rfl
       rw[if_pos (by rw[hrd2];decide)]
     · rw[if_pos hs]
end Wl
end
section
open Dkm Wm Du
namespace Wl
structure Lw where
 d:Dk
 seg:Int
 put:List Rec
 safe:Nat
 dead:Bool
def Lw.puts (w:Lw)(rec:ByteArray):Lw:=
 if w.dead then w
 else ⟨(putM w.d w.seg rec).1,(putM w.d w.seg rec).2.1,if (putM w.d w.seg rec).2.2=0 then w.put++[rec.data.toList] else w.put,if (putM w.d w.seg rec).2.1≠w.seg then w.put.length else w.safe,decide ((putM w.d w.seg rec).2.2=6)⟩
def Lw.syncs (w:Lw):Lw:={ w with d:=(syncM w.d w.seg).1,safe:=if (syncM w.d w.seg).2=0∧w.dead=false then w.put.length else w.safe }
def In (w:Lw):Prop:=∃ rs r t m,St w.d.fs rs r t m∧w.seg=(rs.length:Int)+1∧w.put=rs.flatten++r∧w.safe≤rs.flatten.length+m∧(w.dead=false→t=[])
theorem St.redd {fs:List Fil}{rs:List (List Rec)}{r:List Rec}{t:List UInt8}{m:Nat}(h:St fs rs r t m):(redd (namB ((rs.length:Int)+1)) fs).1.data.toList=flat r++t:=by
 have htx:=h.text
 unfold Dkm.redd
 split
 · show ((hit _ fs).1.sf++(hit _ fs).1.wt).data.toList=_
   rw[ByteArray.data_append,Array.toList_append];exact htx
 · rename_i hh
   rw[hit_def (by simpa using hh)] at htx
   rw[←htx];rfl
theorem new_in (room:Int):In ⟨⟨[],room,-1,false⟩,1,[],0,false⟩:=by
 have hn:∀ nm:ByteArray,hit nm []=(⟨⟨#[]⟩,⟨#[]⟩,⟨#[]⟩⟩,false):=fun nm=>rfl
 refine⟨[],[],[],0,⟨fun i j hi _ _=>by simp at hi,by simp,fun i hi=>by simp at hi,fun k _ _=>by rw[hn],fun x hx=>by simp at hx,fun x hx=>by simp at hx,Part.nil,by simp,by simp[flat_nil],.inl ⟨by rw[hn],rfl,rfl⟩,by rw[hn];simp[flat_nil],by rw[hn];simp[flat_nil]⟩,rfl,rfl,by simp,fun _=>rfl⟩
theorem put_in {w:Lw}(h:In w)(rec:ByteArray):In (w.puts rec):=by
 obtain⟨d,seg,put,safe,dead⟩:=w
 obtain⟨rs,r,t,m,h1,h2,h3,h4,h5⟩:=h
 simp only at h1 h2 h3 h4 h5
 unfold Lw.puts
 cases dead with
 | true=>exact⟨rs,r,t,m,h1,h2,h3,h4,h5⟩
 | false =>
   have ht:=h5 rfl
   subst ht
   simp only[Bool.false_eq_true,if_false]
   have hok:segOk seg:=by rw[h2];exact h1.ok
   unfold putM
   rw[if_neg (by simpa using hok)]
   by_cases hbig:2048<rec.size
   · rw[if_pos hbig]
     exact⟨rs,r,[],m,h1,h2,by simpa using h3,by simpa using h4,fun _=>rfl⟩
   · rw [if_neg hbig]
     have hrd:(redd (namB seg) d.fs).1.size=(flat r).length:=by
      rw[h2]
      have:=congrArg List.length h1.redd
      rw[List.append_nil] at this
      rw[←this]
      show (redd _ d.fs).1.data.size=_
      simp
     unfold putB
     by_cases hsm:(redd (namB seg) d.fs).1.size<256
     · rw[if_pos hsm]
       unfold putA
       obtain⟨p1,p2⟩:=putA_inv h1 rec (by omega) (by omega)
       rw[←h2] at p1 p2
       by_cases h0:(appd d (namB seg) (sealB rec)).2=0
       · refine⟨rs,r++[rec.data.toList],[],m,p1 h0,h2,?_,by simpa using h4,fun _=>rfl⟩
         simp only[h0,if_true,h3,List.append_assoc]
       · obtain⟨t,q1,q2⟩:=p2 h0
         refine⟨rs,r,t,m,q1,h2,by simp only[h0,if_false];exact h3,by simpa using h4,fun hd=>q2 (by simpa using hd)⟩
     · rw [if_neg hsm]
       obtain⟨s1,s2⟩:=syn_inv h1
       rw[←h2] at s1 s2
       by_cases h0:(syn d (namB seg)).2=0
       · rw [if_neg (by simpa using h0)]
         obtain⟨u1,u2,u3⟩:=s1 h0
         by_cases hmx:seg=1000000
         · rw[if_pos hmx]
           have:=h1.mle
           refine⟨rs,r,[],r.length,u1,h2,by simpa using h3,?_,fun _=>rfl⟩
           simp only[ne_eq,not_true_eq_false,if_false];omega
         · rw[if_neg hmx]
           unfold putA
           have htop:=h1.top
           have hn:=u1.next (by omega) (by rw[←h2];exact u2) (by rw[←h2];exact u3)
           have hl:seg+1=((rs++[r]).length:Int)+1:=by rw[h2];simp
           obtain⟨p1,p2⟩:=putA_inv hn rec (by omega) (by simp[flat_nil])
           rw[←hl] at p1 p2
           have hput:put=(rs++[r]).flatten:=by rw[h3];simp
           have hne:seg+1≠seg:=by omega
           by_cases h7:(appd (syn d (namB seg)).1 (namB (seg+1)) (sealB rec)).2=0
           · refine⟨rs++[r],[]++[rec.data.toList],[],0,p1 h7,hl,?_,?_,fun _=>rfl⟩
             · simp only[h7,if_true,hput,List.nil_append]
             · simp only[hne,ne_eq,not_false_eq_true,if_true,hput];omega
           · obtain⟨t,q1,q2⟩:=p2 h7
             refine⟨rs++[r],[],t,0,q1,hl,?_,?_,fun hd=>q2 (by simpa using hd)⟩
             · simp only[h7,if_false,hput,List.append_nil]
             · simp only[hne,ne_eq,not_false_eq_true,if_true,hput];omega
       · rw[if_pos (by simpa using h0),s2 h0]
         refine⟨rs,r,[],m,h1,h2,by simp only[h0,if_false];exact h3,by simpa using h4,fun _=>rfl⟩
theorem sync_in {w:Lw}(h:In w):In w.syncs:=by
 obtain⟨d,seg,put,safe,dead⟩:=w
 obtain⟨rs,r,t,m,h1,h2,h3,h4,h5⟩:=h
 simp only at h1 h2 h3 h4 h5
 have hput:put.length=rs.flatten.length+r.length:=by rw[h3,List.length_append]
 have hmle:=h1.mle
 unfold Lw.syncs syncM
 simp only
 by_cases hh:(hit (namB seg) d.fs).2=true
 · rw[if_pos hh]
   obtain⟨s1,s2⟩:=syn_inv h1
   rw[←h2] at s1 s2
   by_cases h0:(syn d (namB seg)).2=0
   · obtain⟨u1,_,_⟩:=s1 h0
     refine⟨rs,r,t,r.length,u1,h2,h3,?_,h5⟩
     simp only[h0,true_and]
     split<;>omega
   · rw[s2 h0]
     exact⟨rs,r,t,m,h1,h2,h3,by simp only[h0,false_and,if_false];exact h4,h5⟩
 · rw[if_neg hh]
   have hr:r=[]:=by
    rcases h1.last with ⟨_,e,_⟩ | e
    · exact e
    · rw[←h2] at e;exact absurd e hh
   subst hr
   have hm:m=0:=Nat.le_zero.1 hmle
   subst hm
   refine⟨rs,[],t,0,h1,h2,h3,?_,h5⟩
   simp only[true_and]
   split
   · have e0:([]:List Rec).length=0:=rfl
     omega
   · exact h4
theorem clean_in {x:Dk}{rs:List (List Rec)}{us:List Rec}{m safe:Nat}(h:St x.fs rs us [] m)(hs:safe≤rs.flatten.length+us.length)(hw:(hit (namB ((rs.length:Int)+1)) x.fs).1.wt=⟨#[]⟩) :
  In ⟨x,if (hit (namB ((rs.length:Int)+1)) x.fs).2 then (rs.length:Int)+1 else if rs=[] then 1 else (rs.length:Int),rs.flatten++us,safe,false⟩:=by
 cases hh:(hit (namB ((rs.length:Int)+1)) x.fs).2 with
 | true =>
   have hS:St x.fs rs us [] us.length:=by
    refine h.turn h.uniq (fun k _ _=>rfl) h.le h.part (Nat.le_refl _) h.size hh h.text ?_
    have htx:=h.text
    rw[hw] at htx
    rw[List.take_length]
    have e:(hit (namB ((rs.length:Int)+1)) x.fs).1.sf.data.toList=flat us:=by simpa using htx
    rw[e];exact List.prefix_refl _
   exact⟨rs,us,[],us.length,hS,rfl,rfl,hs,fun _=>rfl⟩
 | false =>
   have hus:us=[]:=by
    rcases h.last with ⟨_,e,_⟩ | e
    · exact e
    · rw[hh] at e;cases e
   subst hus
   simp only[Bool.false_eq_true,if_false]
   by_cases hr:rs=[]
   · subst hr
     rw[if_pos rfl]
     exact⟨[],[],[],m,h,by simp,rfl,by simp at hs ⊢;omega,fun _=>rfl⟩
   · rw[if_neg hr]
     obtain⟨a,b,rfl⟩:∃ a b,rs=a++[b]:=⟨rs.dropLast,rs.getLast hr,(List.dropLast_concat_getLast hr).symm⟩
     exact⟨a,b,[],b.length,h.back hh,by simp,by simp,by simp at hs ⊢;omega,fun _=>rfl⟩
end Wl
end
section
open Dkm Prm Wm Du Wl
namespace Km
theorem comM_ok {x:Ks}{b:Bm.Bt}(h:(comM x b).2=0):(Bm.doo x.s b).2=0∧(comM x b).1.s=(Bm.doo x.s b).1:=by
 unfold comM at h ⊢
 split at h
 · cases h
 · rename_i h1
   rw[if_neg h1]
   split at h
   · rename_i h2
     exact absurd (by simpa using h) h2
   · rename_i h2
     rw[if_neg h2]
     refine⟨by simpa using h2,?_⟩
     unfold comA at h ⊢
     split at h
     · rename_i h3;exact absurd h h3
     · rename_i h3
       rw[if_neg h3]
       unfold comB at h ⊢
       split at h
       · rename_i h4;exact absurd h h4
       · rename_i h4;rw[if_neg h4]
theorem repM_nil (s:Bm.Sta):repM s []=some s:=by rw[repM]
theorem repM_cons (s:Bm.Sta)(r:List UInt8)(rs:List (List UInt8)):repM s (r :: rs)=if (Bm.take r).2≠0 then none else repM (Bm.doo s (Bm.take r).1).1 rs:=by rw[repM]
def repK (r:List UInt8)(t:Bm.Sta):Option Bm.Sta:=if (Bm.take r).2≠0 then none else some (Bm.doo t (Bm.take r).1).1
theorem repM_snoc (r:List UInt8)(l:List (List UInt8)):∀ s:Bm.Sta,repM s (l++[r])=(repM s l).bind (repK r):=by
 induction l with
 | nil =>
   intro s
   rw[List.nil_append,repM_cons,repM_nil,repM_nil,Option.bind_some]
   unfold repK
   generalize Bm.take r=y
   rfl
 | cons a l ih =>
   intro s
   rw[List.cons_append,repM_cons,repM_cons]
   generalize Bm.take a=y
   by_cases h:y.2≠0
   · rw[if_pos h,if_pos h];rfl
   · rw[if_neg h,if_neg h,ih]
theorem rec_take {b:Bm.Bt}(h:Bm.may b=true):Bm.take (recB b).data.toList=(b,0):=by
 have e:(recB b).data.toList=Bm.bytes b:=by unfold recB Bm.bytesM;rw[if_pos h]
 rw[e];exact Bm.take_bytes h
def On (d:Dk):Prop:=d.off=false∧d.fuse<0
theorem appd_six {d:Dk}(h:On d)(nm s:ByteArray)(hu:Uniq d.fs):(appd d nm s).2≠6:=by
 rcases appd_cases d nm s hu with ⟨_,e⟩ | ⟨e,_,_⟩
 · rcases e with ⟨_,e⟩ | ⟨e,_⟩ | e | ⟨e,_⟩
   · rw[h.1] at e;cases e
   · rw[e];decide
   · rw[e];decide
   · rw[e];decide
 · rw[e]
   have:short d.fuse s=false:=by
    have:=h.2
    unfold short
    simp only[decide_eq_false_iff_not];omega
   rw[this];simp
theorem syn_on {d:Dk}(h:On d)(nm:ByteArray)(hu:Uniq d.fs)(hh:(hit nm d.fs).2=true):(syn d nm).2=0:=by
 rcases syn_cases d nm hu with ⟨_,e⟩ | ⟨e,_⟩
 · rcases e with ⟨_,e⟩ | ⟨_,e⟩
   · rw[h.1] at e;cases e
   · rw[hh] at e;cases e
 · exact e
theorem putM_on {d:Dk}(h:On d)(seg:Int)(rec:ByteArray)(hu:Uniq d.fs):On (putM d seg rec).1∧(putM d seg rec).2.2≠6:=by
 unfold putM
 split
 · exact⟨h,by simp⟩
 · split
   · exact⟨h,by simp⟩
   · unfold putB putA
     split
     · exact⟨appd_pow d _ _ h.1 h.2,appd_six h _ _ hu⟩
     · have hs:=syn_pow d (namB seg) h.1 h.2
       have hsu:Uniq (syn d (namB seg)).1.fs:=by
        rcases syn_cases d (namB seg) hu with ⟨e,_⟩ | ⟨_,_,_,e,_⟩
        · rw[e];exact hu
        · exact e
       split
       · refine⟨hs,?_⟩
         rcases syn_cases d (namB seg) hu with ⟨_,e⟩ | ⟨e,_⟩
         · rcases e with ⟨_,e⟩ | ⟨e,_⟩
           · rw[h.1] at e;cases e
           · rw[e];decide
         · rw[e];decide
       · split
         · exact⟨hs,by simp⟩
         · exact⟨appd_pow _ _ _ hs.1 hs.2,appd_six hs _ _ hsu⟩
theorem nam_ne_m {seg:Int}(h:segOk seg):namB seg≠mB:=by
 intro e
 have e2:=congrArg (fun x:ByteArray=>x.data.toList) e
 have e3:nam seg=[109]:=e2
 rw[nam_ok h] at e3
 injection e3 with e4
 exact absurd e4 (by decide)
theorem putM_m (d:Dk)(seg:Int)(rec:ByteArray):hit mB (putM d seg rec).1.fs=hit mB d.fs:=by
 unfold putM
 split
 · rfl
 · rename_i hs
   have hs:segOk seg:=by simpa using hs
   split
   · rfl
   · unfold putB putA
     split
     · exact appd_apart _ (nam_ne_m hs).symm
     · split
       · exact syn_apart _ (nam_ne_m hs).symm
       · split
         · exact syn_apart _ (nam_ne_m hs).symm
         · rename_i h1
           have hs2:segOk (seg+1):=by unfold segOk at hs ⊢;omega
           exact(appd_apart _ (nam_ne_m hs2).symm).trans (syn_apart _ (nam_ne_m hs).symm)
theorem syncM_m (d:Dk){seg:Int}(hs:segOk seg):hit mB (syncM d seg).1.fs=hit mB d.fs:=by
 unfold syncM
 split
 · exact syn_apart _ (nam_ne_m hs).symm
 · rfl
structure Kn (N:Nat) (x:Ks):Prop where
 log:∃ w:Lw,In w∧w.d=x.d∧w.seg=x.seg∧w.dead=false∧w.safe=w.put.length∧repM ⟨[],[]⟩ w.put=some x.s∧w.put.length≤N
 on:On x.d
 no:(hit mB x.d.fs).2=false
 frm:x.frm=1
 run:x.run=0
 up:x.down=false
theorem In.uniq {w:Lw}(h:In w):Uniq w.d.fs:=by obtain⟨rs,r,t,m,h1,_⟩:=h;exact h1.uniq
theorem In.segOk {w:Lw}(h:In w):segOk w.seg:=by obtain⟨rs,r,t,m,h1,h2,_⟩:=h;rw[h2];exact h1.ok
theorem Kn.com {N:Nat}{x:Ks}(h:Kn N x)(b:Bm.Bt):Kn (N+1) (comM x b).1∧(comM x b).1.run=x.run:=by
 obtain⟨⟨w,hI,hd,hseg,hdead,hsafe,hrep,hput⟩,hon,hno,hfrm,hrun,hup⟩:=h
 unfold comM
 rw[if_neg (by rw[hup];decide)]
 split
 · exact⟨⟨⟨w,hI,hd,hseg,hdead,hsafe,hrep,by omega⟩,hon,hno,hfrm,hrun,hup⟩,rfl⟩
 · rename_i hdo
   have hdo:(Bm.doo x.s b).2=0:=by simpa using hdo
   obtain⟨hmay,_⟩:=Bm.doo_ok hdo
   have hu:Uniq x.d.fs:=by rw[←hd];exact In.uniq hI
   obtain⟨p1,p6⟩:=putM_on hon x.seg (recB b) hu
   have pm:=putM_m x.d x.seg (recB b)
   have hP:=put_in hI (recB b)
   have hPd:(w.puts (recB b)).d=(putM x.d x.seg (recB b)).1∧(w.puts (recB b)).seg=(putM x.d x.seg (recB b)).2.1∧(w.puts (recB b)).put=(if (putM x.d x.seg (recB b)).2.2=0 then w.put++[(recB b).data.toList] else w.put)∧(w.puts (recB b)).safe=w.put.length∧(w.puts (recB b)).dead=false:=by
    unfold Lw.puts
    rw[if_neg (by rw[hdead];decide),hd,hseg]
    refine⟨rfl,rfl,rfl,?_,decide_eq_false p6⟩
    simp only
    split
    · rfl
    · exact hsafe
   generalize w.puts (recB b)=w1 at hP hPd
   obtain⟨q1,q2,q3,q4,q5⟩:=hPd
   unfold comA
   split
   · rename_i he
     rw[if_neg he] at q3
     refine⟨⟨⟨w1,hP,q1,q2,q5,by rw[q4,q3],by rw[q3];exact hrep,by rw[q3];omega⟩,p1,by show (hit mB (putM x.d x.seg (recB b)).1.fs).2=false;rw[pm];exact hno,hfrm,hrun,?_⟩,rfl⟩
     exact decide_eq_false p6
   · rename_i he
     have he:(putM x.d x.seg (recB b)).2.2=0:=by simpa using he
     rw[if_pos he] at q3
     generalize putM x.d x.seg (recB b)=p at p1 pm q1 q2 he
     have hS:=sync_in hP
     have hpu:Uniq p.1.fs:=by rw[←q1];exact In.uniq hP
     have hok:segOk p.2.1:=by rw[←q2];exact In.segOk hP
     have hsm:=syncM_m p.1 hok
     have hs0:(syncM p.1 p.2.1).2=0∧On (syncM p.1 p.2.1).1:=by
      unfold syncM
      split
      · rename_i hh;exact⟨syn_on p1 _ hpu hh,syn_pow _ _ p1.1 p1.2⟩
      · exact⟨rfl,p1⟩
     have hSd:w1.syncs.d=(syncM p.1 p.2.1).1∧w1.syncs.seg=p.2.1∧w1.syncs.put=w1.put∧w1.syncs.safe=w1.put.length∧w1.syncs.dead=false:=by
      unfold Lw.syncs
      rw[q1,q2]
      refine⟨rfl,rfl,rfl,?_,q5⟩
      simp only
      rw[if_pos ⟨hs0.1,q5⟩]
     generalize w1.syncs=w2 at hS hSd
     obtain⟨r1,r2,r3,r4,r5⟩:=hSd
     unfold comB
     rw[if_neg (by rw[hs0.1];simp)]
     refine⟨⟨⟨w2,hS,r1,r2,r5,by rw[r4,r3],?_,by rw[r3,q3,List.length_append];simp only[List.length_singleton];omega⟩,hs0.2,by show (hit mB (syncM p.1 p.2.1).1.fs).2=false;rw[hsm,pm];exact hno,hfrm,hrun,hup⟩,rfl⟩
     rw[r3,q3,repM_snoc,hrep,Option.bind_some,repK,rec_take hmay,if_neg (by simp)]
theorem crash_safe {w:Lw}(h:In w)(hsafe:w.safe=w.put.length)(hdead:w.dead=false)(ks:List Int) :
  ∃ seg,recM (crs w.d ks) 1=(crs w.d ks,w.put,seg,0)∧In ⟨crs w.d ks,seg,w.put,w.safe,false⟩:=by
 obtain⟨rs,r,t,m,h1,h2,h3,h4,h5⟩:=h
 have ht:=h5 hdead
 subst ht
 have hpl:w.put.length=rs.flatten.length+r.length:=by rw[h3,List.length_append]
 have hmr:m=r.length:=by have:=h1.mle;omega
 obtain⟨us,q,u1,u2,u3,u4⟩:=crs_inv h1 ks
 have hus:us=r:=u1.eq_of_length (by have:=u1.length_le;omega)
 subst hus
 have hq:q=[]:=by
  have htx:=u3.text
  have htx0:=h1.text
  rw[u4] at htx
  rcases hit_crs w.d ks (namB ((rs.length:Int)+1)) with ⟨_,e⟩ | ⟨_,k,e⟩
  · rw[hit_def e] at htx
    have e2:flat us++q=[]:=by rw[←htx];rfl
    exact(List.append_eq_nil_iff.1 e2).2
  · rw[e] at htx
    have l1:=congrArg List.length htx
    have l0:=congrArg List.length htx0
    have l2:((hit (namB ((rs.length:Int)+1)) w.d.fs).1.sf++(hit (namB ((rs.length:Int)+1)) w.d.fs).1.wt.extract 0 k).data.toList.length≤(hit (namB ((rs.length:Int)+1)) w.d.fs).1.sf.data.toList.length+(hit (namB ((rs.length:Int)+1)) w.d.fs).1.wt.data.toList.length:=by
     rw[ByteArray.data_append,Array.toList_append,List.length_append,ByteArray.data_extract]
     simp
     omega
    simp only[List.length_append,List.append_nil] at l1 l0
    have:q.length=0:=by
     omega
    exact List.eq_nil_of_length_eq_zero this
 subst hq
 have e:=rec_clean u3 u4
 have i2:=clean_in (safe:=w.safe) u3 (by omega) u4
 rw[h3]
 exact⟨_,e,i2⟩
theorem Kn.crash {N:Nat}{x:Ks}(h:Kn N x)(ks:List Int):(crsM x ks).2=0∧Kn N (crsM x ks).1∧(crsM x ks).1.s=x.s∧(recM (crs x.d ks) 1).2.1.length≤N∧(redd mB (crs x.d ks).fs).2≠0:=by
 obtain⟨⟨w,hI,hd,hseg,hdead,hsafe,hrep,hput⟩,hon,hno,hfrm,hrun,hup⟩:=h
 obtain⟨seg,e,hI2⟩:=crash_safe hI hsafe hdead ks
 rw[hd] at e hI2
 have hm:(hit mB (crs x.d ks).fs).2=false:=by
  rcases hit_crs x.d ks mB with ⟨_,e⟩ | ⟨e,_⟩
  · exact e
  · rw[hno] at e;cases e
 have hb:begM (crs x.d ks).fs=(1,0,0):=by
  unfold begM redd
  rw[hm];rfl
 have ho:crsM x ks=(⟨crs x.d ks,1,seg,0,x.s,false⟩,0):=by
  unfold crsM openM opnA
  rw[hb]
  simp only[ne_eq,not_true_eq_false,if_false]
  unfold opnB loadS
  simp only[if_true,ne_eq,not_true_eq_false,if_false]
  unfold opnC
  rw[e]
  simp only[ne_eq,not_true_eq_false,if_false]
  rw[hrep];rfl
 rw[ho]
 exact⟨rfl,⟨⟨_,hI2,rfl,rfl,rfl,hsafe,hrep,hput⟩,crs_pow _ _,hm,rfl,rfl,rfl⟩,rfl,by rw[e];exact hput,by unfold redd;rw[hm];simp⟩
theorem open_new (room:Int):openM ⟨[],room,-1,false⟩=(⟨⟨[],room,-1,false⟩,1,1,0,⟨[],[]⟩,false⟩,0):=by
 have e:=rec_clean (x:=⟨[],room,-1,false⟩) (rs:=[]) (us:=[]) (m:=0) (by obtain⟨rs,r,t,m,h1,h2,h3,h4,h5⟩:=new_in room;exact(by
  have e1:rs=[]:=by
   have:(1:Int)=(rs.length:Int)+1:=h2
   exact List.eq_nil_of_length_eq_zero (by omega)
  subst e1
  have e2:r=[]:=by simpa using h3.symm
  subst e2
  have e3:=h5 rfl
  subst e3
  have e4:m=0:=Nat.le_zero.1 h1.mle
  subst e4
  exact h1)) rfl
 have hb:begM (⟨[],room,-1,false⟩:Dk).fs=(1,0,0):=rfl
 unfold openM opnA
 rw[hb]
 simp only[ne_eq,not_true_eq_false,if_false]
 unfold opnB loadS
 simp only[if_true,ne_eq,not_true_eq_false,if_false]
 unfold opnC
 rw[e]
 rfl
theorem open_kn (room:Int):Kn 0 (openM ⟨[],room,-1,false⟩).1:=by
 rw[open_new]
 exact⟨⟨_,new_in room,rfl,rfl,rfl,rfl,rfl,Nat.le_refl _⟩,⟨rfl,by show (-1:Int)<0;omega⟩,rfl,rfl,rfl,rfl⟩
theorem Bnd.crsK {B:Nat}{d:Dk}(h:Bnd B d)(ks:List Int):Bnd B (Dkm.crs d ks):=
 ⟨crs_sum d ks h.sum,by rw[crs_len];exact h.few,croom_in ks d.fs d.room h.room _,⟨by show (-9223372036854775808:Int)≤-1;decide,by show (-1:Int)≤9223372036854775807;decide⟩⟩
theorem Bnd.com {B:Nat}{x:Ks}(h:Bnd B x.d)(hB:65536≤B)(b:Bm.Bt):Bnd B (comM x b).1.d:=by
 unfold comM
 split
 · exact h
 · split
   · exact h
   · have h1:=h.putM hB x.seg (recB b)
     unfold comA
     split
     · exact h1
     · have h2:=h1.syncM (putM x.d x.seg (recB b)).2.1
       unfold comB
       split
       · exact h2
       · exact h2
end Km
end
end Go.Proofs.YtccoknaaofmbcaaGreatDoor
