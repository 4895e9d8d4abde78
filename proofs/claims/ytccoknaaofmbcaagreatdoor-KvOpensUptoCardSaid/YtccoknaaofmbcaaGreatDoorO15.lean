/- BatchMayRef, BatchTakeRef, BatchDoRef, KvRefName: merged. -/
import Derived.Test.YtccoknaaofmbcaaGreatDoorO9
import Derived.BigQuiet
import Derived.Test.YtccoknaaofmbcaaGreatDoorO10
import Derived.Test.YtccoknaaofmbcaaGreatDoorO7
import Derived.Test.YtccoknaaofmbcaaGreatDoorO8
import Derived.Test.YtccoknaaofmbcaaGreatDoorO1
import Derived.Test.YtccoknaaofmbcaaGreatDoorO5
set_option linter.unusedVariables false
set_option linter.unusedSimpArgs false
set_option maxRecDepth 100000
set_option maxHeartbeats 16000000
open Go.Lib (hid)
namespace Go.Proofs.YtccoknaaofmbcaaGreatDoor
section
open Go.RowKit Prm
namespace Bm
theorem keys_at {l:List Wr}{i:Nat}(h:i<(keys l).length):(keys l)[i].key=(l[i]'(by simpa [keys] using h)).key:=by simp[keys]
theorem keys_len (l:List Wr):(keys l).length=l.length:=by simp[keys]
theorem rise_all {l:List Wr}(h:∀ i,∀ h:i+1<l.length,lt (l[i]'(by omega)).key l[i+1].key=true):rise l=true:=
  right_all fun i hi=>by rw[keys_at,keys_at];exact h i (by rw[keys_len] at hi;exact hi)
theorem rise_no {l:List Wr}{i:Nat}(h:i+1<l.length)(hh:lt (l[i]'(by omega)).key l[i+1].key=false):rise l=false:=
  right_not (l:=keys l) (i:=i) (by rw[keys_len];exact h) (by rw[keys_at,keys_at];exact hh)
theorem may_rest {k:Int}{tok:ByteArray}{l:List Wr}(h:¬(tok.size<1∨16<tok.size))(hk:k=1∨k=2)(hl:l.length≤24)(h2:k=2→l.length=0):may ⟨k,tok,l⟩=(rise l && !l.any wrong):=by
 rcases hk with rfl | rfl
 · rw[may_1 h rfl];simp only;rw[decide_eq_true hl];simp
 · have:=List.eq_nil_of_length_eq_zero (h2 rfl)
   subst this
   rw[may_2 h rfl];rfl
theorem may_out {k:Int}{tok:ByteArray}{l:List Wr}(h:24<l.length):may ⟨k,tok,l⟩=false:=by
 cases e:may ⟨k,tok,l⟩ with
 | false=>rfl
 | true=>have:=may_len e;simp only at this;omega
theorem may_two {tok:ByteArray}{l:List Wr}(h:0<l.length):may ⟨2,tok,l⟩=false:=by
 by_cases ht:tok.size<1∨16<tok.size
 · exact may_t1 ht
 · rw[may_2 ht rfl];simp only;simp;intro e;rw[e] at h;simp at h
end Bm
theorem refMayB_any (k:Int)(tok:ByteArray)(A:Option Addr)(n c:Nat)(l:List Wr)(w:World)(hf:Lst writeK w A n l)(hn:n≤maxLen) :
  Calls Tryz.prog 79 #[batV k tok A n c] w fun e w'=>e=.returned (.bool (Bm.may ⟨k,tok,l⟩))∧Q w w':=by
 have hl:=hf.len
 unfold maxLen at hn
 by_cases h1:k<1
 · have HR:=hid (Bm.may_3 (b:=⟨k,tok,l⟩) (by simp only;omega) (by simp only;omega))
   clear hf hl
   go_enter Tryz.func79,Tryz.ntmps79
   go_wp2
   go_ret
   exact⟨ret_bool HR.out.symm,(Q.refl _).alloc _⟩
 by_cases h2:(2:Int)<k
 · have HR:=hid (Bm.may_3 (b:=⟨k,tok,l⟩) (by simp only;omega) (by simp only;omega))
   clear hf hl
   go_enter Tryz.func79,Tryz.ntmps79
   go_wp2
   go_ret
   exact⟨ret_bool HR.out.symm,(Q.refl _).alloc _⟩
 by_cases h3:(tok.size:Int)<1
 · have HR:=hid (Bm.may_t1 (b:=⟨k,tok,l⟩) (.inl (by simp only;omega)))
   clear hf hl
   go_enter Tryz.func79,Tryz.ntmps79
   go_wp2
   go_ret
   exact⟨ret_bool HR.out.symm,(Q.refl _).alloc _⟩
 by_cases h4:(16:Int)<(tok.size:Int)
 · have HR:=hid (Bm.may_t1 (b:=⟨k,tok,l⟩) (.inr (by simp only;omega)))
   clear hf hl
   go_enter Tryz.func79,Tryz.ntmps79
   go_wp2
   go_ret
   exact⟨ret_bool HR.out.symm,(Q.refl _).alloc _⟩
 by_cases h5:(24:Int)<(n:Int)
 · have HR:=hid (Bm.may_out (k:=k) (tok:=tok) (l:=l) (by omega))
   clear hf hl
   go_enter Tryz.func79,Tryz.ntmps79
   go_wp2
   go_ret
   exact⟨ret_bool HR.out.symm,(Q.refl _).alloc _⟩
 have hz:(k == 2)=true∧¬((0:Int)<(n:Int))∨(k == 2)=false∨(k=2∧(0:Int)<(n:Int)):=by
  by_cases e:k=2
  · by_cases e2:(0:Int)<(n:Int)
    · exact .inr (.inr ⟨e,e2⟩)
    · exact .inl ⟨by simpa using e,e2⟩
  · exact .inr (.inl (by simpa using e))
 have hk2:k=2→(k == 2)=true:=fun e=>by simpa using e
 rcases hz with hz | hz | hz
 rotate_left 2
 · obtain⟨rfl,h6⟩:=hz
   have HR:=hid (Bm.may_two (tok:=tok) (l:=l) (by omega))
   clear hf hl hk2
   go_enter Tryz.func79,Tryz.ntmps79
   go_wp2
   go_ret
   exact⟨ret_bool HR.out.symm,(Q.refl _).alloc _⟩
 · obtain⟨hz,hz0⟩:=hz
   have e:n=0:=by omega
   subst e
   have HM:=hid (show Bm.may ⟨k,tok,l⟩=true by
    have e:=List.eq_nil_of_length_eq_zero hl
    subst e
    rw[Bm.may_rest (by omega) (by omega) (by simp) (fun _=>rfl)];rfl)
   clear hf hl hk2 h5 hz0
   go_enter Tryz.func79,Tryz.ntmps79
   go_wp2
   have X0:=hid (Bx.new w [.int .i64 k,.string tok,.slice A 0 c] 48)
   go_loopw [3] (fun i wr=>i=.int .i64 0∧Q (w.alloc (.cells #[.int .i64 k,.string tok,.slice A 0 c] 48)) wr) (fun _ _=>0)
   case atStart=>exact⟨rfl,Q.refl _⟩
   case round =>
    obtain⟨rfl,q⟩:=hrel
    obtain⟨x0,x1,x2⟩:=(X0.out.q q).get3.1
    have HQ0:=hid (((Q.refl w).alloc _).trans q)
    clear q
    go_wp2
    go_ret
    exact⟨ret_bool HM.out.symm,HQ0.out⟩
 · have hM:Bm.may ⟨k,tok,l⟩=(Bm.rise l && !l.any Bm.wrong):=Bm.may_rest (by omega) (by omega) (by omega) (fun e=>by rw[hk2 e] at hz;cases hz)
   have HM:=hid hM
   have HF:=hid hf
   have HL:=hid hl
   clear hM hf hl hk2
   go_enter Tryz.func79,Tryz.ntmps79
   go_wp2
   have X0:=hid (Bx.new w [.int .i64 k,.string tok,.slice A n c] 48)
   go_loopw [3] (fun i wr=>∃ j:Nat,j≤n∧i=.int .i64 j∧Q (w.alloc (.cells #[.int .i64 k,.string tok,.slice A n c] 48)) wr∧(∀ i,∀ h:i<l.length,i<j→Bm.wrong l[i]=false)∧∀ i,∀ h:i+1<l.length,i+1<j→lt (l[i]'(by omega)).key l[i+1].key=true) (fun i _=>n - (intOf i).toNat)
   case atStart=>exact⟨0,Nat.zero_le _,rfl,Q.refl _,fun _ _ h=>by omega,fun _ _ h=>by omega⟩
   case round =>
    obtain⟨j,hj,rfl,q,hw,hr⟩:=hrel
    have HW:=hid hw
    have HS:=hid hr
    have HQ:=hid q
    have HQ0:=hid (((Q.refl w).alloc _).trans q)
    have x0:=(X0.out.q q).get3.1
    obtain⟨x0,x1,x2⟩:=x0
    have hsz:w.heap.size<wr.heap.size:=by have:=q.size;simp at this;omega
    clear hw hr q
    by_cases hlt:j<n
    · have hjl:j<l.length:=by have:=HL.out;omega
      have hjn:(j:Int)<(n:Int):=by omega
      obtain⟨ad,hA,hab,y0,y1,y2⟩:=load_write (HF.out.q HQ0.out) hlt hjl
      have HX:=hid (show ∃ x,x=l[j] from ⟨_,rfl⟩)
      have HNo:=hid (fun (h:Bm.wrong l[j]=true)=>show Bm.may ⟨k,tok,l⟩=false from by rw[HM.out,List.any_eq_true.2 ⟨_,List.getElem_mem hjl,h⟩];simp)
      have HW2:=hid (fun (h:Bm.wrong l[j]=false) (i:Nat) (hi:i<l.length) (hij:i<j+1)=>show Bm.wrong l[i]=false from by
       by_cases e:i<j
       · exact HW.out i hi e
       · have e:i=j:=by omega
         subst e
         exact h)
      have HS2:=hid (fun (h:∀ h0:0<j,lt (l[j - 1]'(by omega)).key l[j].key=true) (i:Nat) (hi:i+1<l.length) (hij:i+1<j+1)=>show lt (l[i]'(by omega)).key l[i+1].key=true from by
       by_cases e:i+1<j
       · exact HS.out i hi e
       · have e:j=i+1:=by omega
         subst e
         exact h (by omega))
      have HNo2:=hid (fun (h0:0<j) (h:lt (l[j - 1]'(by omega)).key l[j].key=false)=>show Bm.may ⟨k,tok,l⟩=false from by
       obtain⟨m,rfl⟩:∃ m,j=m+1:=⟨j - 1,by omega⟩
       rw[HM.out,Bm.rise_no hjl h];simp)
      have KL:=hid (fun (h0:0<j) W (ha:(l[j - 1]'(by omega)).key.size≤32) (hb:l[j].key.size≤32)=>less_any (l[j - 1]'(by omega)).key l[j].key W (by unfold maxLen;omega) (by unfold maxLen;omega))
      have HPr:=hid (fun (h0:0<j)=>show (l[j - 1]'(by omega)).key.size≤32 from (Bm.wrong_not (HW.out (j - 1) (by omega) (by omega))).2.1)
      have YP:=hid (fun (h0:0<j)=>load_write (k:=j - 1) (HF.out.q HQ0.out) (by omega) (by omega))
      subst hA
      clear HX
      by_cases h0:0<j
      · obtain ⟨ad',e,hab',z0,z1,z2⟩:=YP.out h0
        injection e with e
        subst e
        have HNo2:=hid (HNo2.out h0)
        have KL:=hid (KL.out h0)
        have HPr:=hid (HPr.out h0)
        have HS2:=hid (fun (h:lt (l[j - 1]'(by omega)).key l[j].key=true)=>HS2.out (fun _=>h))
        generalize hp:(l[j - 1]'(by omega)).key=p at z0 HNo2 KL HPr HS2
        generalize hx:l[j]=x at y0 y1 y2 HNo HW2 HNo2 KL HS2
        clear hp hx z1 z2 YP
        have h0':(0:Int)<(j:Int):=by omega
        obtain⟨m,hm⟩:∃ m,j - 1=m:=⟨_,rfl⟩
        rw[hm] at z0
        have e0:IntKind.i64.wrap ((j:Int) - 1)=(m:Int):=by rw[IntKind.wrap_i64];omega
        have e3:(m:Int)<(n:Int):=by omega
        have hab2:(ad.add (m*3)).block<wr.heap.size:=by rw[addr_block];exact hab
        have z9:=fun (o:Obj)=>box_ ((Q.refl wr).alloc o) z0
        clear hm
        obtain⟨a,b,d⟩:=x
        dsimp only at *
        by_cases c1:(a.size:Int)<1
        · have HE:=hid (HNo.out (Bm.wrong_t (.inl (by simp only;omega))))
          go_wp2
          go_ret
          exact⟨ret_bool HE.out.symm,HQ0.out.alloc _⟩
        by_cases c2:(32:Int)<(a.size:Int)
        · have HE:=hid (HNo.out (Bm.wrong_t (.inr (.inl (by simp only;omega)))))
          go_wp2
          go_ret
          exact⟨ret_bool HE.out.symm,HQ0.out.alloc _⟩
        by_cases c3:(64:Int)<(b.size:Int)
        · have HE:=hid (HNo.out (Bm.wrong_t (.inr (.inr (by simp only;split<;>omega)))))
          go_wp2
          go_ret
          exact⟨ret_bool HE.out.symm,HQ0.out.alloc _⟩
        cases d
        · skip
          have HOk:=hid (HW2.out (Bm.wrong_f (by simp only[Bool.false_eq_true,if_false];omega)))
          have HA:=hid (KL.out)
          have KL2:=hid (fun W=>KL.out W HPr.out (by omega))
          by_cases hh:lt p a=true
          · have HS3:=hid (HS2.out hh)
            rw[hh] at KL2
            clear hh
            go_wp2
            go_quiet ((go_at_call 129;exact Calls.quiet_of (KL2.out _)))
            all_goals
              go_wp2
              go_roundw
              case rel=>exact⟨j+1,by omega,by go_num,(HQ.out.alloc _).drewN _,HOk.out,HS3.out⟩
              case measure=>simp[intOf];omega
          · have hh':lt p a=false:=by simpa using hh
            have HE:=hid (HNo2.out hh')
            rw[hh'] at KL2
            clear hh hh'
            go_wp2
            go_quiet ((go_at_call 129;exact Calls.quiet_of (KL2.out _)))
            all_goals
              go_wp2
              go_ret
              exact⟨ret_bool HE.out.symm,(HQ0.out.alloc _).drewN _⟩
        · by_cases c4:b=⟨#[]⟩
          · subst c4
            have HOk:=hid (HW2.out (Bm.wrong_f (by simp only[if_true];have:(⟨#[]⟩:ByteArray).size=0:=rfl;omega)))
            have HA:=hid (KL.out)
            have KL2:=hid (fun W=>KL.out W HPr.out (by omega))
            by_cases hh:lt p a=true
            · have HS3:=hid (HS2.out hh)
              rw[hh] at KL2
              clear hh
              go_wp2
              go_quiet ((go_at_call 129;exact Calls.quiet_of (KL2.out _)))
              all_goals
                go_wp2
                go_roundw
                case rel=>exact⟨j+1,by omega,by go_num,(HQ.out.alloc _).drewN _,HOk.out,HS3.out⟩
                case measure=>simp[intOf];omega
            · have hh':lt p a=false:=by simpa using hh
              have HE:=hid (HNo2.out hh')
              rw[hh'] at KL2
              clear hh hh'
              go_wp2
              go_quiet ((go_at_call 129;exact Calls.quiet_of (KL2.out _)))
              all_goals
                go_wp2
                go_ret
                exact⟨ret_bool HE.out.symm,(HQ0.out.alloc _).drewN _⟩
          · obtain⟨c5,c6,c7⟩:=empty_no c4
            have HE:=hid (HNo.out (Bm.wrong_t (.inr (.inr (by simp only[if_true];have:b.size≠0:=fun e=>c4 (show b=ByteArray.empty by simpa using e);omega)))))
            clear c4
            go_wp2
            go_ret
            exact⟨ret_bool HE.out.symm,HQ0.out.alloc _⟩
      · have e0:¬((0:Int)<(j:Int)):=by omega
        have HS2:=hid (HS2.out (fun h=>absurd h (by omega)))
        generalize hx:l[j]=x at y0 y1 y2 HNo HW2
        clear hx YP HPr KL HNo2
        obtain⟨a,b,d⟩:=x
        dsimp only at *
        by_cases c1:(a.size:Int)<1
        · have HE:=hid (HNo.out (Bm.wrong_t (.inl (by simp only;omega))))
          go_wp2
          go_ret
          exact⟨ret_bool HE.out.symm,HQ0.out.alloc _⟩
        by_cases c2:(32:Int)<(a.size:Int)
        · have HE:=hid (HNo.out (Bm.wrong_t (.inr (.inl (by simp only;omega)))))
          go_wp2
          go_ret
          exact⟨ret_bool HE.out.symm,HQ0.out.alloc _⟩
        by_cases c3:(64:Int)<(b.size:Int)
        · have HE:=hid (HNo.out (Bm.wrong_t (.inr (.inr (by simp only;split<;>omega)))))
          go_wp2
          go_ret
          exact⟨ret_bool HE.out.symm,HQ0.out.alloc _⟩
        cases d
        · skip
          have HOk:=hid (HW2.out (Bm.wrong_f (by simp only[Bool.false_eq_true,if_false];omega)))
          go_wp2
          go_roundw
          case rel=>exact⟨j+1,by omega,by go_num,HQ.out.alloc _,HOk.out,HS2.out⟩
          case measure=>simp[intOf];omega
        · by_cases c4:b=⟨#[]⟩
          · subst c4
            have HOk:=hid (HW2.out (Bm.wrong_f (by simp only[if_true];have:(⟨#[]⟩:ByteArray).size=0:=rfl;omega)))
            go_wp2
            go_roundw
            case rel=>exact⟨j+1,by omega,by go_num,HQ.out.alloc _,HOk.out,HS2.out⟩
            case measure=>simp[intOf];omega
          · obtain⟨c5,c6,c7⟩:=empty_no c4
            have HE:=hid (HNo.out (Bm.wrong_t (.inr (.inr (by simp only[if_true];have:b.size≠0:=fun e=>c4 (show b=ByteArray.empty by simpa using e);omega)))))
            clear c4
            go_wp2
            go_ret
            exact⟨ret_bool HE.out.symm,HQ0.out.alloc _⟩
    · have hjn:¬((j:Int)<(n:Int)):=by omega
      have HE:=hid (show Bm.may ⟨k,tok,l⟩=true by
       rw[HM.out,Bm.rise_all (fun i hi=>HS.out i hi (by have:=HL.out;omega))]
       have:l.any Bm.wrong=false:=by
        rw[List.any_eq_false];intro a ha
        obtain⟨i,hi,rfl⟩:=List.getElem_of_mem ha
        rw[HW.out i hi (by have:=HL.out;omega)];simp
       rw[this];rfl)
      go_wp2
      go_ret
      exact⟨ret_bool HE.out.symm,HQ0.out⟩
end
section
open Go.RowKit Prm
namespace Bm
def zero:Bt×Nat:=(⟨0,⟨#[]⟩,[]⟩,3)
theorem tkN_bad {m:Nat}{x:Hs}(h:(Dm.tnum x.1).2.2≠0∨m<(Dm.tnum x.1).1):(tkN m x).2.2=false:=by unfold tkN;rw[if_pos h]
theorem tkN_ok {m:Nat}{l:List UInt8}{v:Nat}{r:List UInt8}(h:Dm.tnum l=(v,r,0))(hv:v≤m):tkN m (l,true)=(v,r,true):=by
 unfold tkN;simp only[h];rw[if_neg (by simp;omega)]
theorem tkT_bad {m:Int}{x:Hs}(h:(Dm.ttext x.1 m).2.2≠0):(tkT m x).2.2=false:=by unfold tkT;simp[h]
theorem tkT_ok {m:Int}{l t r:List UInt8}(h:Dm.ttext l m=(t,r,0)):tkT m (l,true)=(t,r,true):=by unfold tkT;simp[h]
theorem take_no {s:List UInt8}(h:(tkH (s,true)).2.2.2.2=false):take s=zero:=by
 unfold take
 apply fin_bad
 simp only[tkB]
 exact tkWs_no _ _ h
theorem take_b1 {s:List UInt8}(h:(tkN 2 (s,true)).2.2=false):take s=zero:=take_no (by simp only[tkH];exact tkN_no' (tkT_no' h))
theorem take_b2 {s r:List UInt8}{v:Nat}(h1:tkN 2 (s,true)=(v,r,true))(h:(tkT 16 (r,true)).2.2=false):take s=zero:=
 take_no (by simp only[tkH];rw[h1];exact tkN_no' h)
theorem take_b3 {s r t r2:List UInt8}{v:Nat}(h1:tkN 2 (s,true)=(v,r,true))(h2:tkT 16 (r,true)=(t,r2,true))(h:(tkN 24 (r2,true)).2.2=false):take s=zero:=
 take_no (by simp only[tkH];rw[h1];dsimp only;rw[h2];exact h)
theorem take_mid {s r t r2 r3:List UInt8}{v m:Nat}(h1:tkN 2 (s,true)=(v,r,true))(h2:tkT 16 (r,true)=(t,r2,true))(h3:tkN 24 (r2,true)=(m,r3,true)) :
  take s=fin (⟨(v:Int),⟨t.toArray⟩,(tkWs m [] (r3,true)).1⟩,(tkWs m [] (r3,true)).2):=by
 have e:tkH (s,true)=(v,t,m,(r3,true)):=by
  simp only[tkH]
  rw[h1];dsimp only
  rw[h2];dsimp only
  rw[h3]
 simp only[take,tkB]
 rw[e]
theorem tkW_b1 {r:List UInt8}(h:(tkN 1 (r,true)).2.2=false):(tkW (r,true)).2.2=false:=by simp only[tkW];exact tkT_no' (tkT_no' h)
theorem tkW_b2 {r r1:List UInt8}{v:Nat}(h1:tkN 1 (r,true)=(v,r1,true))(h:(tkT 32 (r1,true)).2.2=false):(tkW (r,true)).2.2=false:=by
 simp only[tkW];rw[h1];exact tkT_no' h
theorem tkW_b3 {r r1 t r2:List UInt8}{v:Nat}(h1:tkN 1 (r,true)=(v,r1,true))(h2:tkT 32 (r1,true)=(t,r2,true))(h:(tkT 64 (r2,true)).2.2=false):(tkW (r,true)).2.2=false:=by
 simp only[tkW];rw[h1];dsimp only;rw[h2];exact h
theorem tkW_ok {r r1 t r2 u r3:List UInt8}{v:Nat}(h1:tkN 1 (r,true)=(v,r1,true))(h2:tkT 32 (r1,true)=(t,r2,true))(h3:tkT 64 (r2,true)=(u,r3,true)) :
  tkW (r,true)=(⟨⟨t.toArray⟩,⟨u.toArray⟩,decide (v=1)⟩,(r3,true)):=by
 simp only[tkW]
 rw[h1];dsimp only
 rw[h2];dsimp only
 rw[h3]
theorem tkWs_bad {v j:Nat}(h:j<v)(acc:List Wr)(x:Hs)(hx:(tkW x).2.2=false):(tkWs (v - j) acc x).2.2=false:=by
 rw[tkWs_fold h];exact tkWs_no _ _ hx
end Bm
theorem bytes_of' (l:List UInt8):∃ B:ByteArray,B=⟨l.toArray⟩∧B.size=l.length∧B.data.toList=l:=⟨_,rfl,by show l.toArray.size=_;simp,by simp⟩
structure Tr (w w2:World) (kind:Int) (tok:ByteArray) (A:Option Addr) (n c:Nat) (ws:List Wr) (wi:World):Prop where
 res:Bx wi w.heap.size [.int .i64 0,.string ⟨#[]⟩,.slice none 0 0]
 bb:Bx wi w2.heap.size [.int .i64 kind,.string tok,.slice A n c]
 own:OwnK writeK wi (w2.heap.size+1) A n c ws
 q:Q w wi
 l1:w.heap.size<w2.heap.size
 l2:w2.heap.size+1≤wi.heap.size
section
variable {w w2 wi wj:World} {kind:Int} {tok:ByteArray} {A:Option Addr} {n c:Nat} {ws:List Wr}
theorem Tr.step (h:Tr w w2 kind tok A n c ws wi)(q:Q wi wj):Tr w w2 kind tok A n c ws wj:=
 ⟨h.res.q q,h.bb.q q,h.own.q q,h.q.trans q,h.l1,Nat.le_trans h.l2 q.size⟩
theorem Tr.setWs (h:Tr w w2 kind tok A n c ws wi)(hb:Below (w2.heap.size+1) wi wj){A':Option Addr}{n' c':Nat}{ws':List Wr}(ho:OwnK writeK wj (w2.heap.size+1) A' n' c' ws'):Tr w w2 kind tok A' n' c' ws' (wj.setCell ⟨w2.heap.size,2,none⟩ (.slice A' n' c')):=by
 have h3:=h.l1;have h5:=h.l2
 exact⟨(h.res.below hb (by omega)).far (by simp only;omega) _,(h.bb.below hb (by omega)).set (k:=2) (by simp) _,ho.setCell (by simp only;omega) _,
   Q.setCell (a:=w) (h.q.below.trans (hb.mono (by omega))) (by simp only;omega) _,h3,by have:=hb.size;simp only[World.size_setCell];omega⟩
theorem bad_end (T:Bm.Bt×Nat)(hT:T=Bm.zero)(q:Q w wi)(x y z:Value):RetTB w T (.returned (.tuple #[batV 0 ⟨#[]⟩ none 0 0,.int .i64 3])) (((wi.setCell ⟨w.heap.size,0,none⟩ x).setCell ⟨w.heap.size,1,none⟩ y).setCell ⟨w.heap.size,2,none⟩ z):=by
 subst hT
 exact⟨none,0,rfl,OwnK.nil_ _ _ _,q.set3 (Nat.le_refl _) _ _ _⟩
end
theorem refTakeB_any (s:ByteArray)(w:World)(hs:s.size≤maxLen) :
  Calls Tryz.prog 35 #[.string s] w (RetTB w (Bm.take s.data.toList)):=by
 have K1:=fun W=>refTakeNum_any s W hs
 have l1:=Dm.tnum_len s.data.toList
 have b1:=Dm.tnum_le s.data.toList
 have o1:=fun h=>Bm.tkN_bad (m:=2) (x:=(s.data.toList,true)) h
 have g1:=fun v r (h:Dm.tnum s.data.toList=(v,r,0)) hv=>Bm.tkN_ok (m:=2) h hv
 unfold tnR at K1
 generalize Dm.tnum s.data.toList=x1 at K1 l1 b1 o1 g1
 obtain⟨v1,r1,e1⟩:=x1
 simp only at K1 l1 b1 o1 g1
 obtain⟨R1,hR1,hS1,hD1⟩:=bytes_of' r1
 rw[←hR1] at K1
 rw[Rn.size_data] at l1
 by_cases c1:e1≠0
 · have hne:((e1:Int) != 0)=true:=by simp;omega
   have HB:=hid (Bm.take_b1 (o1 (.inl c1)))
   clear c1
   have H1:=hid K1
   clear K1 o1 g1 l1
   clear hR1 hS1 hD1
   try clear hT1
   go_enter Tryz.func35,Tryz.ntmps35
   go_wp2_with fail
   refine(H1.out _).mono ?_
   rintro e w1 ⟨rfl,q1⟩
   have Q1:=hid (((Q.refl w).alloc _).trans q1)
   have B1:=hid ((Bx.new w [.int .i64 0,.string ⟨#[]⟩,.slice none 0 0] 48).q q1)
   clear q1
   obtain⟨⟨p0,p1,p2⟩,p3,p4,p5⟩:=B1.out.get3
   go_wp2
   obtain⟨⟨r0,r1,r2⟩,_⟩:=(B1.out.set3 (.int .i64 0) (.string ⟨#[]⟩) (.slice none 0 0)).get3
   refine bodyPost_ret (v:=.tuple #[batV 0 ⟨#[]⟩ none 0 0,.int .i64 3]) (by simp[results,Tryz.results35,go_sem,r0,r1,r2]) rfl ?_
   exact bad_end _ HB.out Q1.out _ _ _
 have c1':e1=0:=by omega
 subst c1'
 clear c1
 have z0:((0:Int) != 0)=false:=by decide
 by_cases d1:(2:Int)<(v1:Int)
 · have HB:=hid (Bm.take_b1 (o1 (.inr (by omega))))
   have H1:=hid K1
   clear K1 o1 g1 l1
   clear hR1 hS1 hD1
   try clear hT1
   go_enter Tryz.func35,Tryz.ntmps35
   go_wp2_with fail
   refine(H1.out _).mono ?_
   rintro e w1 ⟨rfl,q1⟩
   have Q1:=hid (((Q.refl w).alloc _).trans q1)
   have B1:=hid ((Bx.new w [.int .i64 0,.string ⟨#[]⟩,.slice none 0 0] 48).q q1)
   clear q1
   obtain⟨⟨p0,p1,p2⟩,p3,p4,p5⟩:=B1.out.get3
   go_wp2
   obtain⟨⟨r0,r1,r2⟩,_⟩:=(B1.out.set3 (.int .i64 0) (.string ⟨#[]⟩) (.slice none 0 0)).get3
   refine bodyPost_ret (v:=.tuple #[batV 0 ⟨#[]⟩ none 0 0,.int .i64 3]) (by simp[results,Tryz.results35,go_sem,r0,r1,r2]) rfl ?_
   exact bad_end _ HB.out Q1.out _ _ _
 have d1':decide ((2:Int)<(v1:Int))=false:=decide_eq_false d1
 have n1:=hid (g1 _ _ rfl (by omega))
 have h1s:R1.size≤maxLen:=by omega
 have K2:=fun W=>refTakeText_any R1 16 W h1s (by omega) (by omega)
 rw[hD1] at K2
 have l2:=ttext_len r1 16
 have o2:=fun h=>Bm.tkT_bad (m:=16) (x:=(r1,true)) h
 have g2:=fun t r (h:Dm.ttext r1 16=(t,r,0))=>Bm.tkT_ok (m:=16) h
 unfold ttR at K2
 generalize Dm.ttext r1 16=x2 at K2 l2 o2 g2
 obtain⟨t2,r2,e2⟩:=x2
 simp only at K2 l2 o2 g2
 obtain⟨T2,hT2,-,-⟩:=bytes_of' t2
 obtain⟨R2,hR2,hS2,hD2⟩:=bytes_of' r2
 rw[←hT2,←hR2] at K2
 by_cases c2:e2≠0
 · have hne:((e2:Int) != 0)=true:=by simp;omega
   have HB:=hid (Bm.take_b2 n1.out (o2 c2))
   clear c2
   have H1:=hid K1
   have H2:=hid K2
   clear K1 o1 g1 l1 K2 o2 g2 l2
   clear hR1 hS1 hD1
   clear hR2 hS2 hD2
   try clear hT1
   try clear hT2
   go_enter Tryz.func35,Tryz.ntmps35
   go_wp2_with fail
   refine(H1.out _).mono ?_
   rintro e w1 ⟨rfl,q1⟩
   have Q1:=hid (((Q.refl w).alloc _).trans q1)
   have B1:=hid ((Bx.new w [.int .i64 0,.string ⟨#[]⟩,.slice none 0 0] 48).q q1)
   clear q1
   go_wp2_with fail
   refine(H2.out _).mono ?_
   rintro e w2 ⟨rfl,q2⟩
   have Q2:=hid (Q1.out.trans q2)
   have B2:=hid (B1.out.q q2)
   clear q2
   obtain⟨⟨p0,p1,p2⟩,p3,p4,p5⟩:=B2.out.get3
   go_wp2
   obtain⟨⟨r0,r1,r2⟩,_⟩:=(B2.out.set3 (.int .i64 0) (.string ⟨#[]⟩) (.slice none 0 0)).get3
   refine bodyPost_ret (v:=.tuple #[batV 0 ⟨#[]⟩ none 0 0,.int .i64 3]) (by simp[results,Tryz.results35,go_sem,r0,r1,r2]) rfl ?_
   exact bad_end _ HB.out Q2.out _ _ _
 have c2':e2=0:=by omega
 subst c2'
 clear c2
 have n2:=hid (g2 _ _ rfl)
 have h2s:R2.size≤maxLen:=by omega
 have K3:=fun W=>refTakeNum_any R2 W h2s
 rw[hD2] at K3
 have l3:=Dm.tnum_len r2
 have b3:=Dm.tnum_le r2
 have o3:=fun h=>Bm.tkN_bad (m:=24) (x:=(r2,true)) h
 have g3:=fun v r (h:Dm.tnum r2=(v,r,0)) hv=>Bm.tkN_ok (m:=24) h hv
 unfold tnR at K3
 generalize Dm.tnum r2=x3 at K3 l3 b3 o3 g3
 obtain⟨v3,r3,e3⟩:=x3
 simp only at K3 l3 b3 o3 g3
 obtain⟨R3,hR3,hS3,hD3⟩:=bytes_of' r3
 rw[←hR3] at K3
 by_cases c3:e3≠0
 · have hne:((e3:Int) != 0)=true:=by simp;omega
   have HB:=hid (Bm.take_b3 n1.out n2.out (o3 (.inl c3)))
   clear c3
   have H1:=hid K1
   have H2:=hid K2
   have H3:=hid K3
   clear K1 o1 g1 l1 K2 o2 g2 l2 K3 o3 g3 l3
   clear hR1 hS1 hD1
   clear hR2 hS2 hD2
   clear hR3 hS3 hD3
   try clear hT1
   try clear hT2
   try clear hT3
   go_enter Tryz.func35,Tryz.ntmps35
   go_wp2_with fail
   refine(H1.out _).mono ?_
   rintro e w1 ⟨rfl,q1⟩
   have Q1:=hid (((Q.refl w).alloc _).trans q1)
   have B1:=hid ((Bx.new w [.int .i64 0,.string ⟨#[]⟩,.slice none 0 0] 48).q q1)
   clear q1
   go_wp2_with fail
   refine(H2.out _).mono ?_
   rintro e w2 ⟨rfl,q2⟩
   have Q2:=hid (Q1.out.trans q2)
   have B2:=hid (B1.out.q q2)
   clear q2
   go_wp2_with fail
   refine(H3.out _).mono ?_
   rintro e w3 ⟨rfl,q3⟩
   have Q3:=hid (Q2.out.trans q3)
   have B3:=hid (B2.out.q q3)
   clear q3
   obtain⟨⟨p0,p1,p2⟩,p3,p4,p5⟩:=B3.out.get3
   go_wp2
   obtain⟨⟨r0,r1,r2⟩,_⟩:=(B3.out.set3 (.int .i64 0) (.string ⟨#[]⟩) (.slice none 0 0)).get3
   refine bodyPost_ret (v:=.tuple #[batV 0 ⟨#[]⟩ none 0 0,.int .i64 3]) (by simp[results,Tryz.results35,go_sem,r0,r1,r2]) rfl ?_
   exact bad_end _ HB.out Q3.out _ _ _
 have c3':e3=0:=by omega
 subst c3'
 clear c3
 by_cases d3:(24:Int)<(v3:Int)
 · have HB:=hid (Bm.take_b3 n1.out n2.out (o3 (.inr (by omega))))
   have H1:=hid K1
   have H2:=hid K2
   have H3:=hid K3
   clear K1 o1 g1 l1 K2 o2 g2 l2 K3 o3 g3 l3
   clear hR1 hS1 hD1
   clear hR2 hS2 hD2
   clear hR3 hS3 hD3
   try clear hT1
   try clear hT2
   try clear hT3
   go_enter Tryz.func35,Tryz.ntmps35
   go_wp2_with fail
   refine(H1.out _).mono ?_
   rintro e w1 ⟨rfl,q1⟩
   have Q1:=hid (((Q.refl w).alloc _).trans q1)
   have B1:=hid ((Bx.new w [.int .i64 0,.string ⟨#[]⟩,.slice none 0 0] 48).q q1)
   clear q1
   go_wp2_with fail
   refine(H2.out _).mono ?_
   rintro e w2 ⟨rfl,q2⟩
   have Q2:=hid (Q1.out.trans q2)
   have B2:=hid (B1.out.q q2)
   clear q2
   go_wp2_with fail
   refine(H3.out _).mono ?_
   rintro e w3 ⟨rfl,q3⟩
   have Q3:=hid (Q2.out.trans q3)
   have B3:=hid (B2.out.q q3)
   clear q3
   obtain⟨⟨p0,p1,p2⟩,p3,p4,p5⟩:=B3.out.get3
   go_wp2
   obtain⟨⟨r0,r1,r2⟩,_⟩:=(B3.out.set3 (.int .i64 0) (.string ⟨#[]⟩) (.slice none 0 0)).get3
   refine bodyPost_ret (v:=.tuple #[batV 0 ⟨#[]⟩ none 0 0,.int .i64 3]) (by simp[results,Tryz.results35,go_sem,r0,r1,r2]) rfl ?_
   exact bad_end _ HB.out Q3.out _ _ _
 have d3':decide ((24:Int)<(v3:Int))=false:=decide_eq_false d3
 have n3:=hid (g3 _ _ rfl (by omega))
 have hT:=Bm.take_mid n1.out n2.out n3.out
 rw[←hT2] at hT
 have h3s:R3.size≤maxLen:=by omega
 have HR3:=hid h3s
 have HD3:=hid hD3
 generalize Bm.take s.data.toList=T at hT ⊢
 have HT:=hid hT
 have H1:=hid K1
 have H2:=hid K2
 have H3:=hid K3
 clear K1 K2 K3 o1 o2 o3 g1 g2 g3 l1 l2 l3 n1 n2 n3 hT hR1 hR2 hR3 hS1 hS2 hS3 hD1 hD2 hD3 hT2 h1s h2s h3s b1 b3 hs
 go_enter Tryz.func35,Tryz.ntmps35
 go_wp2_with fail
 refine(H1.out _).mono ?_
 rintro e w1 ⟨rfl,q1⟩
 have Q1:=hid (((Q.refl w).alloc _).trans q1)
 have B1:=hid ((Bx.new w [.int .i64 0,.string ⟨#[]⟩,.slice none 0 0] 48).q q1)
 clear q1
 go_wp2_with fail
 refine(H2.out _).mono ?_
 rintro e w2 ⟨rfl,q2⟩
 have Q2:=hid (Q1.out.trans q2)
 have B2:=hid (B1.out.q q2)
 clear q2
 go_wp2_with fail
 refine(H3.out _).mono ?_
 rintro e w3 ⟨rfl,q3⟩
 have Q3:=hid (Q2.out.trans q3)
 have B3:=hid (B2.out.q q3)
 clear q3
 go_upto_region 11 with (fail)
 have X:Hid (Tr w w3 (v1:Int) T2 none 0 0 [] (w3.alloc (.cells #[.int .i64 (v1:Int),.string T2,.slice none 0 0] 48))):=
  hid ⟨B3.out.alloc _,Bx.new w3 [.int .i64 (v1:Int),.string T2,.slice none 0 0] 48,OwnK.nil_ _ _ _,Q3.out.alloc _,B3.out.lt,by simp⟩
 generalize w3.alloc (.cells #[.int .i64 (v1:Int),.string T2,.slice none 0 0] 48)=w4 at X ⊢
 clear B1 B2 B3 Q1 Q2 Q3 H1 H2 H3
 go_wp2
 go_loopw [11,14] (fun s11 i wr=>∃ (j:Nat) (RB:ByteArray) (acc:List Wr) (A:Option Addr) (c:Nat),j≤v3∧i=.int .u64 j∧s11=.string RB∧acc.length=j∧Tr w w3 (v1:Int) T2 A acc.length c acc wr∧Bm.tkWs v3 [] (r3,true)=Bm.tkWs (v3 - j) acc (RB.data.toList,true)∧RB.size≤maxLen) (fun _ i _=>v3 - (intOf i).toNat)
 case atStart=>exact⟨0,R3,[],none,0,Nat.zero_le _,rfl,rfl,rfl,X.out,by rw[HD3.out];rfl,HR3.out⟩
 case round =>
  obtain⟨j,RB,acc,A,c,hj,rfl,rfl,hal,x1,hT,hxl⟩:=hrel
  have X1:=hid x1
  have HAl:=hid hal
  have HTT:=hid hT
  have hal2:acc.length≤24:=by omega
  clear x1 hT X hal HR3 HD3
  by_cases hlt:j<v3
  · have hjv:(j:Int)<(v3:Int):=by omega
    have HBad:=hid (fun (h:(Bm.tkW (RB.data.toList,true)).2.2=false)=>show T=Bm.zero from HT.out.trans (Bm.fin_bad (by show (Bm.tkWs v3 [] (r3,true)).2.2=false;rw[HTT.out];exact Bm.tkWs_bad hlt acc _ h)))
    have HF:=hid (tkWs_fold hlt acc (RB.data.toList,true))
    have K5:=fun W=>refTakeNum_any RB W hxl
    have l5:=Dm.tnum_len RB.data.toList
    have b5:=Dm.tnum_le RB.data.toList
    have o5:=fun h=>Bm.tkN_bad (m:=1) (x:=(RB.data.toList,true)) h
    have g5:=fun v r (h:Dm.tnum RB.data.toList=(v,r,0)) hv=>Bm.tkN_ok (m:=1) h hv
    unfold tnR at K5
    generalize Dm.tnum RB.data.toList=x5 at K5 l5 b5 o5 g5
    obtain⟨v5,r5,e5⟩:=x5
    simp only at K5 l5 b5 o5 g5
    obtain⟨R5,hR5,hS5,hD5⟩:=bytes_of' r5
    rw[←hR5] at K5
    rw[Rn.size_data] at l5
    by_cases c5:e5≠0
    · have hne:((e5:Int) != 0)=true:=by simp;omega
      have HB:=hid (HBad.out (Bm.tkW_b1 (o5 (.inl c5))))
      clear c5
      have H5:=hid K5
      clear K5 o5 g5 l5
      clear hR5 hS5 hD5
      try clear hT5
      go_wp2_with fail
      refine(H5.out _).mono ?_
      rintro e w5 ⟨rfl,q5⟩
      have X5:=hid (X1.out.step q5)
      clear q5
      obtain⟨⟨p0,p1,p2⟩,p3,p4,p5⟩:=X5.out.res.get3
      go_wp2
      obtain⟨⟨r0,r1,r2⟩,_⟩:=(X5.out.res.set3 (.int .i64 0) (.string ⟨#[]⟩) (.slice none 0 0)).get3
      refine bodyPost_ret (v:=.tuple #[batV 0 ⟨#[]⟩ none 0 0,.int .i64 3]) (by simp[results,Tryz.results35,go_sem,r0,r1,r2]) rfl ?_
      exact bad_end _ HB.out X5.out.q _ _ _
    have c5':e5=0:=by omega
    subst c5'
    clear c5
    by_cases d5:(1:Int)<(v5:Int)
    · have HB:=hid (HBad.out (Bm.tkW_b1 (o5 (.inr (by omega)))))
      have H5:=hid K5
      clear K5 o5 g5 l5
      clear hR5 hS5 hD5
      try clear hT5
      go_wp2_with fail
      refine(H5.out _).mono ?_
      rintro e w5 ⟨rfl,q5⟩
      have X5:=hid (X1.out.step q5)
      clear q5
      obtain⟨⟨p0,p1,p2⟩,p3,p4,p5⟩:=X5.out.res.get3
      go_wp2
      obtain⟨⟨r0,r1,r2⟩,_⟩:=(X5.out.res.set3 (.int .i64 0) (.string ⟨#[]⟩) (.slice none 0 0)).get3
      refine bodyPost_ret (v:=.tuple #[batV 0 ⟨#[]⟩ none 0 0,.int .i64 3]) (by simp[results,Tryz.results35,go_sem,r0,r1,r2]) rfl ?_
      exact bad_end _ HB.out X5.out.q _ _ _
    have d5':decide ((1:Int)<(v5:Int))=false:=decide_eq_false d5
    have n5:=hid (g5 _ _ rfl (by omega))
    have h5s:R5.size≤maxLen:=by omega
    have K6:=fun W=>refTakeText_any R5 32 W h5s (by omega) (by omega)
    rw[hD5] at K6
    have l6:=ttext_len r5 32
    have o6:=fun h=>Bm.tkT_bad (m:=32) (x:=(r5,true)) h
    have g6:=fun t r (h:Dm.ttext r5 32=(t,r,0))=>Bm.tkT_ok (m:=32) h
    unfold ttR at K6
    generalize Dm.ttext r5 32=x6 at K6 l6 o6 g6
    obtain⟨t6,r6,e6⟩:=x6
    simp only at K6 l6 o6 g6
    obtain⟨T6,hT6,-,-⟩:=bytes_of' t6
    obtain⟨R6,hR6,hS6,hD6⟩:=bytes_of' r6
    rw[←hT6,←hR6] at K6
    by_cases c6:e6≠0
    · have hne:((e6:Int) != 0)=true:=by simp;omega
      have HB:=hid (HBad.out (Bm.tkW_b2 n5.out (o6 c6)))
      clear c6
      have H5:=hid K5
      have H6:=hid K6
      clear K5 o5 g5 l5 K6 o6 g6 l6
      clear hR5 hS5 hD5
      clear hR6 hS6 hD6
      try clear hT5
      try clear hT6
      go_wp2_with fail
      refine(H5.out _).mono ?_
      rintro e w5 ⟨rfl,q5⟩
      have X5:=hid (X1.out.step q5)
      clear q5
      go_wp2_with fail
      refine(H6.out _).mono ?_
      rintro e w6 ⟨rfl,q6⟩
      have X6:=hid (X5.out.step q6)
      clear q6
      obtain⟨⟨p0,p1,p2⟩,p3,p4,p5⟩:=X6.out.res.get3
      go_wp2
      obtain⟨⟨r0,r1,r2⟩,_⟩:=(X6.out.res.set3 (.int .i64 0) (.string ⟨#[]⟩) (.slice none 0 0)).get3
      refine bodyPost_ret (v:=.tuple #[batV 0 ⟨#[]⟩ none 0 0,.int .i64 3]) (by simp[results,Tryz.results35,go_sem,r0,r1,r2]) rfl ?_
      exact bad_end _ HB.out X6.out.q _ _ _
    have c6':e6=0:=by omega
    subst c6'
    clear c6
    have n6:=hid (g6 _ _ rfl)
    have h6s:R6.size≤maxLen:=by omega
    have K7:=fun W=>refTakeText_any R6 64 W h6s (by omega) (by omega)
    rw[hD6] at K7
    have l7:=ttext_len r6 64
    have o7:=fun h=>Bm.tkT_bad (m:=64) (x:=(r6,true)) h
    have g7:=fun t r (h:Dm.ttext r6 64=(t,r,0))=>Bm.tkT_ok (m:=64) h
    unfold ttR at K7
    generalize Dm.ttext r6 64=x7 at K7 l7 o7 g7
    obtain⟨t7,r7,e7⟩:=x7
    simp only at K7 l7 o7 g7
    obtain⟨T7,hT7,-,-⟩:=bytes_of' t7
    obtain⟨R7,hR7,hS7,hD7⟩:=bytes_of' r7
    rw[←hT7,←hR7] at K7
    by_cases c7:e7≠0
    · have hne:((e7:Int) != 0)=true:=by simp;omega
      have HB:=hid (HBad.out (Bm.tkW_b3 n5.out n6.out (o7 c7)))
      clear c7
      have H5:=hid K5
      have H6:=hid K6
      have H7:=hid K7
      clear K5 o5 g5 l5 K6 o6 g6 l6 K7 o7 g7 l7
      clear hR5 hS5 hD5
      clear hR6 hS6 hD6
      clear hR7 hS7 hD7
      try clear hT5
      try clear hT6
      try clear hT7
      go_wp2_with fail
      refine(H5.out _).mono ?_
      rintro e w5 ⟨rfl,q5⟩
      have X5:=hid (X1.out.step q5)
      clear q5
      go_wp2_with fail
      refine(H6.out _).mono ?_
      rintro e w6 ⟨rfl,q6⟩
      have X6:=hid (X5.out.step q6)
      clear q6
      go_wp2_with fail
      refine(H7.out _).mono ?_
      rintro e w7 ⟨rfl,q7⟩
      have X7:=hid (X6.out.step q7)
      clear q7
      obtain⟨⟨p0,p1,p2⟩,p3,p4,p5⟩:=X7.out.res.get3
      go_wp2
      obtain⟨⟨r0,r1,r2⟩,_⟩:=(X7.out.res.set3 (.int .i64 0) (.string ⟨#[]⟩) (.slice none 0 0)).get3
      refine bodyPost_ret (v:=.tuple #[batV 0 ⟨#[]⟩ none 0 0,.int .i64 3]) (by simp[results,Tryz.results35,go_sem,r0,r1,r2]) rfl ?_
      exact bad_end _ HB.out X7.out.q _ _ _
    have c7':e7=0:=by omega
    subst c7'
    clear c7
    have n7:=hid (g7 _ _ rfl)
    have h7s:R7.size≤maxLen:=by omega
    have hW:=Bm.tkW_ok n5.out n6.out n7.out
    have hv5:decide (v5=1)=((v5:Int) == 1):=by
     rcases(by omega:v5=0∨v5=1) with rfl | rfl<;>rfl
    rw[←hT6,←hT7,hv5] at hW
    rw[hW] at HF
    have HN:=hid (HTT.out.trans HF.out)
    dsimp only at HN
    rw[←hD7] at HN
    have HS7:=hid h7s
    have H5:=hid K5
    have H6:=hid K6
    have H7:=hid K7
    clear K5 K6 K7 o5 o6 o7 g5 g6 g7 l5 l6 l7 n5 n6 n7 hW hv5 hR5 hR6 hR7 hS5 hS6 hS7 hD5 hD6 hD7 hT6 hT7 h5s h6s h7s b5 HF HBad
    go_wp2_with fail
    refine(H5.out _).mono ?_
    rintro e w5 ⟨rfl,q5⟩
    have X5:=hid (X1.out.step q5)
    clear q5
    go_wp2_with fail
    refine(H6.out _).mono ?_
    rintro e w6 ⟨rfl,q6⟩
    have X6:=hid (X5.out.step q6)
    clear q6
    go_wp2_with fail
    refine(H7.out _).mono ?_
    rintro e w7 ⟨rfl,q7⟩
    have X7:=hid (X6.out.step q7)
    clear q7
    obtain⟨⟨p0,p1,p2⟩,p3,p4,p5⟩:=X7.out.bb.get3
    go_wp2_with (at_builtin
                 refine wpl_appK writeK rfl (.tmp 101) (.tmp 107) 46 rfl rfl (w3.heap.size+1) A acc.length c acc rfl (X7.out.step ((Q.refl _).alloc _)).own (some ⟨w7.heap.size,0,none⟩) 1 1 [⟨T6,T7,(v5:Int) == 1⟩] rfl (lit_write w7 ⟨T6,T7,(v5:Int) == 1⟩).lst (fun e=>by cases e) (by show (acc.length+1)*40≤_;omega) (X7.out.step ((Q.refl _).alloc _)).l2 ?_
                 intro A8 c8 w8 o8 b8
                 have X8:=hid ((X7.out.step ((Q.refl _).alloc (.cells #[.string T6,.string T7,.bool ((v5:Int) == 1)] 73))).setWs b8 o8)
                 obtain⟨⟨a0,a1,a2⟩,a3,a4,a5⟩:=((X7.out.step ((Q.refl _).alloc (.cells #[.string T6,.string T7,.bool ((v5:Int) == 1)] 73))).bb.below b8 (by omega)).get3
                 clear o8 b8)
    go_roundw
    case rel=>exact⟨j+1,R7,acc++[⟨T6,T7,(v5:Int) == 1⟩],A8,c8,by omega,by go_num,rfl,by rw[List.length_append,HAl.out];rfl,by rw[List.length_append];exact X8.out,HN.out,HS7.out⟩
    case measure=>simp[intOf];omega
  · have hjv:j=v3:=by omega
    have HTl:=hid (show Bm.tkWs v3 [] (r3,true)=(acc,(RB.data.toList,true)) by rw[HTT.out,hjv,Nat.sub_self];rfl)
    have HT2:=hid (show T=Bm.fin (⟨(v1:Int),T2,acc⟩,(RB.data.toList,true)) by rw[HT.out,HTl.out])
    have hjn:¬((j:Int)<(v3:Int)):=by omega
    have KM:=hid (fun W q=>refMayB_any (v1:Int) T2 A acc.length c acc W (X1.out.own.lst.q q) (by unfold maxLen;omega))
    have hxz:RB.size=RB.data.toList.length:=(Rn.size_data RB).symm
    clear hjv HTl HTT HT hxl
    obtain⟨⟨d0,d1,d2⟩,f0,f1,f2⟩:=X1.out.bb.get3
    by_cases hz:(0:Int)<(RB.size:Int)
    · have HB:=hid (HT2.out.trans (show Bm.fin (⟨(v1:Int),T2,acc⟩,(RB.data.toList,true))=Bm.zero by
        unfold Bm.fin;rw[if_neg (by rintro⟨_,h2,_⟩;simp only at h2;rw[h2] at hxz;have h3:RB.size=0:=hxz;omega)];rfl))
      have hzd:decide ((0:Int)<(RB.size:Int))=true:=decide_eq_true hz
      have hzn:¬ RB=ByteArray.empty:=by rintro rfl;simp at hz
      clear hxz
      go_wp2_with fail
      refine(KM.out _ (Q.refl _)).mono ?_
      rintro e w10 ⟨rfl,q10⟩
      have Y2:=hid (X1.out.step q10)
      clear q10 d0 d1 d2 f0 f1 f2 X1
      obtain⟨⟨p0,p1,p2⟩,p3,p4,p5⟩:=Y2.out.res.get3
      go_wp2
      obtain⟨⟨r0,r1,r2⟩,_⟩:=(Y2.out.res.set3 (.int .i64 0) (.string ⟨#[]⟩) (.slice none 0 0)).get3
      refine bodyPost_ret (v:=.tuple #[batV 0 ⟨#[]⟩ none 0 0,.int .i64 3]) (by simp[results,Tryz.results35,go_sem,r0,r1,r2]) rfl ?_
      exact bad_end _ HB.out Y2.out.q _ _ _
    · have hx0:RB.data.toList=[]:=List.eq_nil_of_length_eq_zero (by omega)
      have hx1:RB=⟨#[]⟩:=by rw[dt_mk RB hx0]
      subst hx1
      clear hz
      cases hm:Bm.may ⟨(v1:Int),T2,acc⟩ with
      | false =>
        rw[hm] at KM
        have HB:=hid (HT2.out.trans (show Bm.fin (⟨(v1:Int),T2,acc⟩,((⟨#[]⟩:ByteArray).data.toList,true))=Bm.zero by unfold Bm.fin;rw[if_neg (by rw[hm];simp)];rfl))
        clear hm hx0 hxz
        go_wp2_with fail
        refine(KM.out _ (Q.refl _)).mono ?_
        rintro e w10 ⟨rfl,q10⟩
        have Y2:=hid (X1.out.step q10)
        clear q10 d0 d1 d2 f0 f1 f2 X1
        obtain⟨⟨p0,p1,p2⟩,p3,p4,p5⟩:=Y2.out.res.get3
        go_wp2
        obtain⟨⟨r0,r1,r2⟩,_⟩:=(Y2.out.res.set3 (.int .i64 0) (.string ⟨#[]⟩) (.slice none 0 0)).get3
        refine bodyPost_ret (v:=.tuple #[batV 0 ⟨#[]⟩ none 0 0,.int .i64 3]) (by simp[results,Tryz.results35,go_sem,r0,r1,r2]) rfl ?_
        exact bad_end _ HB.out Y2.out.q _ _ _
      | true =>
        rw[hm] at KM
        have HB:=hid (HT2.out.trans (show Bm.fin (⟨(v1:Int),T2,acc⟩,((⟨#[]⟩:ByteArray).data.toList,true))=(⟨(v1:Int),T2,acc⟩,0) by unfold Bm.fin;rw[if_pos ⟨rfl,hx0,hm⟩]))
        clear hm hx0 hxz
        go_wp2_with fail
        refine(KM.out _ (Q.refl _)).mono ?_
        rintro e w10 ⟨rfl,q10⟩
        have Y2:=hid (X1.out.step q10)
        clear q10 d0 d1 d2 f0 f1 f2 X1
        obtain⟨⟨d0,d1,d2⟩,f0,f1,f2⟩:=Y2.out.bb.get3
        obtain⟨⟨p0,p1,p2⟩,p3,p4,p5⟩:=Y2.out.res.get3
        go_wp2
        obtain⟨⟨r0,r1,r2⟩,_⟩:=(Y2.out.res.set3 (.int .i64 (v1:Int)) (.string T2) (.slice A acc.length c)).get3
        refine bodyPost_ret (v:=.tuple #[batV (v1:Int) T2 A acc.length c,.int .i64 0]) (by simp[results,Tryz.results35,go_sem,r0,r1,r2]) rfl ?_
        rw[HB.out]
        exact⟨A,c,rfl,((((Y2.out.own.setCell (p:=⟨w.heap.size,0,none⟩) (by have:=Y2.out.l1;simp only;omega) _).setCell (p:=⟨w.heap.size,1,none⟩) (by have:=Y2.out.l1;simp only;omega) _).setCell (p:=⟨w.heap.size,2,none⟩) (by have:=Y2.out.l1;simp only;omega) _).lower (by have:=Y2.out.l1;omega)),Y2.out.q.set3 (Nat.le_refl _) _ _ _⟩
end
section
open Go.RowKit Prm
def RetSI (w:World)(s:Bm.Sta×Nat)(e:Ending)(w':World):Prop:=
 ∃ A n c B m d,e=.returned (.tuple #[staV A n c B m d,.int .i64 (s.2:Int)])∧In_ pairK w' A n c s.1.data∧In_ pairK w' B m d s.1.toks∧Q w w'
theorem refDecided_any (tok:ByteArray)(A B:Option Addr)(n c m d:Nat)(t:List Pr)(w:World)(hB:Lst pairK w B m t)(hm:m≤maxLen) :
  Calls Tryz.prog 51 #[staV A n c B m d,.string tok] w fun e w'=>e=.returned (.tuple #[.string (find tok t).1,.bool (find tok t).2])∧Q w w':=by
 have K:=hid (fun W q=>refFind_any tok B m d t W (hB.q q) hm)
 clear hB
 go_enter Tryz.func51,Tryz.ntmps51
 go_wp2_with fail
 refine(K.out _ ((Q.refl _).alloc _)).mono ?_
 rintro e w1 ⟨rfl,rfl⟩
 go_wp2
 go_ret2
 exact⟨rfl,(Q.refl w).alloc _⟩
theorem refDo_any (k:Int)(tok:ByteArray)(A B C:Option Addr)(n c m d p q:Nat)(l t:List Pr)(ws:List Wr)(w:World)(hA:In_ pairK w A n c l)(hB:In_ pairK w B m d t)(hC:Lst writeK w C p ws)(hp:p≤maxLen)(hb:(n+24)*32≤140737488355328)(hb2:(m+1)*32≤140737488355328)
  (hks:KeysIn l) (hk2:KeysIn t) (hkw:WKeysIn ws) (hky:tok.size≤maxLen) :
  Calls Tryz.prog 36 #[staV A n c B m d,batV k tok C p q] w (RetSI w (Bm.doo ⟨l,t⟩ ⟨k,tok,ws⟩)):=by
 have KM:=hid (fun W y=>refMayB_any k tok C p q ws W (hC.q y) hp)
 have KD:=hid (fun W y=>refDecided_any tok A B n c m d t W (hB.lst.q y) hB.max)
 have HA:=hid hA
 have HB:=hid hB
 cases hmay:Bm.may ⟨k,tok,ws⟩ with
 | false =>
   have HR:=hid (show Bm.doo ⟨l,t⟩ ⟨k,tok,ws⟩=(⟨l,t⟩,1) by unfold Bm.doo;rw[if_pos hmay])
   rw[hmay] at KM
   clear hA hB hC hmay
   go_enter Tryz.func36,Tryz.ntmps36
   go_upto_region 1 with (fail)
   have X:=hid (Ds.new w A n c B m d k tok C p q)
   generalize (((w.alloc (.cells #[.slice A n c,.slice B m d] 30)).alloc (.cells #[.int .i64 k,.string tok,.slice C p q] 48)).alloc (.cells #[.slice none 0 0,.slice none 0 0] 30))=w2 at X ⊢
   obtain⟨⟨c0,c1⟩,d0,d1,d2⟩:=X.out.get
   go_wp2_with fail
   refine(KM.out _ X.out.q).mono ?_
   rintro e w3 ⟨rfl,q3⟩
   have X3:=hid (X.out.step q3)
   clear q3 X c0 c1 d0 d1 d2
   obtain⟨⟨c0,c1⟩,d0,d1,d2⟩:=X3.out.get
   obtain⟨⟨p0,p1⟩,p2,p3⟩:=X3.out.b3.get2
   go_wp2
   obtain⟨⟨r0,r1⟩,_⟩:=(X3.out.b3.set2 (.slice A n c) (.slice B m d)).get2
   refine bodyPost_ret (v:=.tuple #[staV A n c B m d,.int .i64 1]) (by simp[results,Tryz.results36,go_sem,r0,r1]) rfl ?_
   rw[HR.out]
   exact⟨A,n,c,B,m,d,rfl,HA.out.q (X3.out.q.set2 (by omega) _ _),HB.out.q (X3.out.q.set2 (by omega) _ _),X3.out.q.set2 (by omega) _ _⟩
 | true =>
   rw[hmay] at KM
   cases hf:(find tok t).2 with
   | true =>
     have HR:=hid (show Bm.doo ⟨l,t⟩ ⟨k,tok,ws⟩=(⟨l,t⟩,8) by unfold Bm.doo;rw[if_neg (by rw[hmay];simp),if_pos hf])
     rw[hf] at KD
     generalize (find tok t).1=fv at KD
     clear hA hB hC hmay hf
     go_enter Tryz.func36,Tryz.ntmps36
     go_upto_region 1 with (fail)
     have X:=hid (Ds.new w A n c B m d k tok C p q)
     generalize (((w.alloc (.cells #[.slice A n c,.slice B m d] 30)).alloc (.cells #[.int .i64 k,.string tok,.slice C p q] 48)).alloc (.cells #[.slice none 0 0,.slice none 0 0] 30))=w2 at X ⊢
     obtain⟨⟨c0,c1⟩,d0,d1,d2⟩:=X.out.get
     go_wp2_with fail
     refine(KM.out _ X.out.q).mono ?_
     rintro e w3 ⟨rfl,q3⟩
     have X3:=hid (X.out.step q3)
     clear q3 X c0 c1 d0 d1 d2
     obtain⟨⟨c0,c1⟩,d0,d1,d2⟩:=X3.out.get
     go_wp2_with fail
     refine(KD.out _ X3.out.q).mono ?_
     rintro e w4 ⟨rfl,q4⟩
     have X4:=hid (X3.out.step q4)
     clear q4 X3 c0 c1 d0 d1 d2
     obtain⟨⟨c0,c1⟩,d0,d1,d2⟩:=X4.out.get
     obtain⟨⟨p0,p1⟩,p2,p3⟩:=X4.out.b3.get2
     go_wp2
     obtain⟨⟨r0,r1⟩,_⟩:=(X4.out.b3.set2 (.slice A n c) (.slice B m d)).get2
     refine bodyPost_ret (v:=.tuple #[staV A n c B m d,.int .i64 8]) (by simp[results,Tryz.results36,go_sem,r0,r1]) rfl ?_
     rw[HR.out]
     exact⟨A,n,c,B,m,d,rfl,HA.out.q (X4.out.q.set2 (by omega) _ _),HB.out.q (X4.out.q.set2 (by omega) _ _),X4.out.q.set2 (by omega) _ _⟩
   | false =>
     have hp24:=Bm.may_len hmay
     have hkk:=Bm.may_kind hmay
     simp only at hp24 hkk
     rw[hf] at KD
     generalize (find tok t).1=fv at KD
     have hn:=hA.len
     have hm:=hB.len
     have hpl:=hC.len
     have KA:=hid (fun W y=>refApply_any A C n c p q l ws W (hA.q y) (hC.q y) (by omega) hks hkw)
     have HSm:=hid (show (apply l ws).length*32≤140737488355328∧(put t ⟨tok,Bm.word k⟩).length*32≤140737488355328 from ⟨by have:=apply_len l ws;omega,by have:=put_len t ⟨tok,Bm.word k⟩;omega⟩)
     clear hp24 hn hm hpl
     rcases hkk with rfl | rfl
     · have HR:=hid (show Bm.doo ⟨l,t⟩ ⟨1,tok,ws⟩=(⟨apply l ws,put t ⟨tok,Bm.word 1⟩⟩,0) by unfold Bm.doo;rw[if_neg (by rw[hmay];simp),if_neg (by rw[hf];simp)])
       have KP:=hid (fun W y=>trefPut_any tok (Bm.word 1) B m d t W (hB.lst.q y) hb2 hk2 hky)
       clear hA hB hC hmay hf hks hk2 hkw hky
       go_enter Tryz.func36,Tryz.ntmps36
       go_upto_region 1 with (fail)
       have X:=hid (Ds.new w A n c B m d 1 tok C p q)
       generalize (((w.alloc (.cells #[.slice A n c,.slice B m d] 30)).alloc (.cells #[.int .i64 1,.string tok,.slice C p q] 48)).alloc (.cells #[.slice none 0 0,.slice none 0 0] 30))=w2 at X ⊢
       obtain⟨⟨c0,c1⟩,d0,d1,d2⟩:=X.out.get
       go_wp2_with fail
       refine(KM.out _ X.out.q).mono ?_
       rintro e w3 ⟨rfl,q3⟩
       have X3:=hid (X.out.step q3)
       clear q3 X c0 c1 d0 d1 d2
       obtain⟨⟨c0,c1⟩,d0,d1,d2⟩:=X3.out.get
       go_wp2_with fail
       refine(KD.out _ X3.out.q).mono ?_
       rintro e w4 ⟨rfl,q4⟩
       have X4:=hid (X3.out.step q4)
       clear q4 X3 c0 c1 d0 d1 d2
       obtain⟨⟨c0,c1⟩,d0,d1,d2⟩:=X4.out.get
       have HS4:=hid X4.out.l
       go_upto_region 10 with (fail)
       refine wp_region_held_drew (S:=fun w'=>Bx w' w.heap.size [.slice A n c,.slice B m d]∧Bx w' (w.heap.size+1) [.int .i64 1,.string tok,.slice C p q]) (by kernel_rfl) ?szz17 (fun hHeld=>?rzz17)
       case szz17 =>
        exact⟨X4.out.b1.drew,X4.out.b2.drew⟩
       refine takeH 0 ?v18 ?y18 ?_
       case y18=>intro w hSw;have z:=hSw.1.get2.1;have zz:=hSw.2.get3.1;obtain⟨s0,s1⟩:=z;obtain⟨s2,s3,s4⟩:=zz;go_simp;try with_reducible rfl
       refine takeH 1 ?v19 ?y19 ?_
       case y19=>intro w hSw;have z:=hSw.1.get2.1;have zz:=hSw.2.get3.1;obtain⟨s0,s1⟩:=z;obtain⟨s2,s3,s4⟩:=zz;go_simp;try with_reducible rfl
       refine takeH 2 ?v20 ?y20 ?_
       case y20=>intro w hSw;have z:=hSw.1.get2.1;have zz:=hSw.2.get3.1;obtain⟨s0,s1⟩:=z;obtain⟨s2,s3,s4⟩:=zz;go_simp;try with_reducible rfl
       refine takeH 3 ?v21 ?y21 ?_
       case y21=>intro w hSw;have z:=hSw.1.get2.1;have zz:=hSw.2.get3.1;obtain⟨s0,s1⟩:=z;obtain⟨s2,s3,s4⟩:=zz;go_simp;try with_reducible rfl
       refine takeH 5 ?v22 ?y22 ?_
       case y22=>intro w hSw;have z:=hSw.1.get2.1;have zz:=hSw.2.get3.1;obtain⟨s0,s1⟩:=z;obtain⟨s2,s3,s4⟩:=zz;go_simp;try with_reducible rfl
       refine takeH 6 ?v23 ?y23 ?_
       case y23=>intro w hSw;have z:=hSw.1.get2.1;have zz:=hSw.2.get3.1;obtain⟨s0,s1⟩:=z;obtain⟨s2,s3,s4⟩:=zz;go_simp;try with_reducible rfl
       refine takeH 7 ?v24 ?y24 ?_
       case y24=>intro w hSw;have z:=hSw.1.get2.1;have zz:=hSw.2.get3.1;obtain⟨s0,s1⟩:=z;obtain⟨s2,s3,s4⟩:=zz;go_simp;try with_reducible rfl
       refine takeH 8 ?v25 ?y25 ?_
       case y25=>intro w hSw;have z:=hSw.1.get2.1;have zz:=hSw.2.get3.1;obtain⟨s0,s1⟩:=z;obtain⟨s2,s3,s4⟩:=zz;go_simp;try with_reducible rfl
       refine takeH 9 ?v26 ?y26 ?_
       case y26=>intro w hSw;have z:=hSw.1.get2.1;have zz:=hSw.2.get3.1;obtain⟨s0,s1⟩:=z;obtain⟨s2,s3,s4⟩:=zz;go_simp;try with_reducible rfl
       refine oneH 4 (fun K hK=>?_)
       go_simp
       refine(KA.out _ X4.out.q.drew).mono ?_
       rintro e w5 ⟨A5,c5,rfl,o5,y5⟩
       have HS5:=hid (show w.heap.size+1+1+1≤w5.heap.size from ((X4.out.step (Q.refl _).drew).step y5).l)
       go_wp2_with fail
       refine hK.out _ _ (⟨hHeld.1.q y5,hHeld.2.q y5⟩) (fun hHeld=>?_)
       clear hK K
       try simp only[Act.put,sA,sB,sC]
       have hC:=hHeld
       refine oneH 10 (fun K hK=>?_)
       go_simp
       refine(KP.out _ (X4.out.q.drew.trans y5)).mono ?_
       rintro e w7 ⟨A7,c7,rfl,o7,y7⟩
       have X7:=hid (((X4.out.step (Q.refl _).drew).step y5).step y7)
       have HO:=hid (o5.q y7)
       have HT:=hid o7
       clear o5 o7 y5 y7
       go_wp2_with fail
       refine hK.out _ _ (⟨X7.out.b1,X7.out.b2⟩) (fun hHeld=>?_)
       clear hK K
       try simp only[Act.put,sA,sB,sC]
       refine takeH 11 ?v27 ?y27 ?_
       case y27=>intro w hSw;have z:=hSw.1.get2.1;have zz:=hSw.2.get3.1;obtain⟨s0,s1⟩:=z;obtain⟨s2,s3,s4⟩:=zz;go_simp;try with_reducible rfl
       refine oneH 12 (fun K hK=>?_)
       obtain⟨⟨p0,p1⟩,p2,p3⟩:=X7.out.b3.get2
       go_simp
       refine hK.out _ _ (⟨X7.out.b1.far2 (by omega) _ _,X7.out.b2.far2 (by omega) _ _⟩) (fun hHeld=>?_)
       clear hK K
       try simp only[Act.put,sA,sB,sC]
       refine takeH 13 ?v28 ?y28 ?_
       case y28=>intro w hSw;have z:=hSw.1.get2.1;have zz:=hSw.2.get3.1;obtain⟨s0,s1⟩:=z;obtain⟨s2,s3,s4⟩:=zz;go_simp;try with_reducible rfl
       refine doneH ?_
       obtain⟨⟨r0,r1⟩,_⟩:=(X7.out.b3.set2 (.slice A5 (apply l ws).length c5) (.slice A7 (put t ⟨tok,Bm.word 1⟩).length c7)).get2
       go_wp2
       refine bodyPost_ret (v:=.tuple #[staV A5 (apply l ws).length c5 A7 (put t ⟨tok,Bm.word 1⟩).length c7,.int .i64 0]) (by simp[results,Tryz.results36,go_sem,r0,r1]) rfl ?_
       rw[HR.out]
       exact⟨A5,_,c5,A7,_,c7,rfl,((HO.out.set2 (b:=w.heap.size+1+1) (by have:=HS4.out;simp only[World.size_drew];omega) _ _).lower (b2:=w.heap.size) (by have:=HS4.out;simp only[World.size_drew];omega)).in_ HSm.out.1,((HT.out.set2 (b:=w.heap.size+1+1) (by have:=HS5.out;omega) _ _).lower (b2:=w.heap.size) (by have:=HS5.out;omega)).in_ HSm.out.2,X7.out.q.set2 (by omega) _ _⟩
     · have HR:=hid (show Bm.doo ⟨l,t⟩ ⟨2,tok,ws⟩=(⟨apply l ws,put t ⟨tok,Bm.word 2⟩⟩,0) by unfold Bm.doo;rw[if_neg (by rw[hmay];simp),if_neg (by rw[hf];simp)])
       have KP:=hid (fun W y=>trefPut_any tok (Bm.word 2) B m d t W (hB.lst.q y) hb2 hk2 hky)
       clear hA hB hC hmay hf hks hk2 hkw hky
       go_enter Tryz.func36,Tryz.ntmps36
       go_upto_region 1 with (fail)
       have X:=hid (Ds.new w A n c B m d 2 tok C p q)
       generalize (((w.alloc (.cells #[.slice A n c,.slice B m d] 30)).alloc (.cells #[.int .i64 2,.string tok,.slice C p q] 48)).alloc (.cells #[.slice none 0 0,.slice none 0 0] 30))=w2 at X ⊢
       obtain⟨⟨c0,c1⟩,d0,d1,d2⟩:=X.out.get
       go_wp2_with fail
       refine(KM.out _ X.out.q).mono ?_
       rintro e w3 ⟨rfl,q3⟩
       have X3:=hid (X.out.step q3)
       clear q3 X c0 c1 d0 d1 d2
       obtain⟨⟨c0,c1⟩,d0,d1,d2⟩:=X3.out.get
       go_wp2_with fail
       refine(KD.out _ X3.out.q).mono ?_
       rintro e w4 ⟨rfl,q4⟩
       have X4:=hid (X3.out.step q4)
       clear q4 X3 c0 c1 d0 d1 d2
       obtain⟨⟨c0,c1⟩,d0,d1,d2⟩:=X4.out.get
       have HS4:=hid X4.out.l
       go_upto_region 10 with (fail)
       refine wp_region_held_drew (S:=fun w'=>Bx w' w.heap.size [.slice A n c,.slice B m d]∧Bx w' (w.heap.size+1) [.int .i64 2,.string tok,.slice C p q]) (by kernel_rfl) ?szz32 (fun hHeld=>?rzz32)
       case szz32 =>
        exact⟨X4.out.b1.drew,X4.out.b2.drew⟩
       refine takeH 0 ?v33 ?y33 ?_
       case y33=>intro w hSw;have z:=hSw.1.get2.1;have zz:=hSw.2.get3.1;obtain⟨s0,s1⟩:=z;obtain⟨s2,s3,s4⟩:=zz;go_simp;try with_reducible rfl
       refine takeH 1 ?v34 ?y34 ?_
       case y34=>intro w hSw;have z:=hSw.1.get2.1;have zz:=hSw.2.get3.1;obtain⟨s0,s1⟩:=z;obtain⟨s2,s3,s4⟩:=zz;go_simp;try with_reducible rfl
       refine takeH 2 ?v35 ?y35 ?_
       case y35=>intro w hSw;have z:=hSw.1.get2.1;have zz:=hSw.2.get3.1;obtain⟨s0,s1⟩:=z;obtain⟨s2,s3,s4⟩:=zz;go_simp;try with_reducible rfl
       refine takeH 3 ?v36 ?y36 ?_
       case y36=>intro w hSw;have z:=hSw.1.get2.1;have zz:=hSw.2.get3.1;obtain⟨s0,s1⟩:=z;obtain⟨s2,s3,s4⟩:=zz;go_simp;try with_reducible rfl
       refine takeH 5 ?v37 ?y37 ?_
       case y37=>intro w hSw;have z:=hSw.1.get2.1;have zz:=hSw.2.get3.1;obtain⟨s0,s1⟩:=z;obtain⟨s2,s3,s4⟩:=zz;go_simp;try with_reducible rfl
       refine takeH 6 ?v38 ?y38 ?_
       case y38=>intro w hSw;have z:=hSw.1.get2.1;have zz:=hSw.2.get3.1;obtain⟨s0,s1⟩:=z;obtain⟨s2,s3,s4⟩:=zz;go_simp;try with_reducible rfl
       refine takeH 7 ?v39 ?y39 ?_
       case y39=>intro w hSw;have z:=hSw.1.get2.1;have zz:=hSw.2.get3.1;obtain⟨s0,s1⟩:=z;obtain⟨s2,s3,s4⟩:=zz;go_simp;try with_reducible rfl
       refine takeH 8 ?v40 ?y40 ?_
       case y40=>intro w hSw;have z:=hSw.1.get2.1;have zz:=hSw.2.get3.1;obtain⟨s0,s1⟩:=z;obtain⟨s2,s3,s4⟩:=zz;go_simp;try with_reducible rfl
       refine takeH 9 ?v41 ?y41 ?_
       case y41=>intro w hSw;have z:=hSw.1.get2.1;have zz:=hSw.2.get3.1;obtain⟨s0,s1⟩:=z;obtain⟨s2,s3,s4⟩:=zz;go_simp;try with_reducible rfl
       refine oneH 4 (fun K hK=>?_)
       go_simp
       refine(KA.out _ X4.out.q.drew).mono ?_
       rintro e w5 ⟨A5,c5,rfl,o5,y5⟩
       have HS5:=hid (show w.heap.size+1+1+1≤w5.heap.size from ((X4.out.step (Q.refl _).drew).step y5).l)
       go_wp2_with fail
       refine hK.out _ _ (⟨hHeld.1.q y5,hHeld.2.q y5⟩) (fun hHeld=>?_)
       clear hK K
       try simp only[Act.put,sA,sB,sC]
       have hC:=hHeld
       refine oneH 10 (fun K hK=>?_)
       go_simp
       refine(KP.out _ (X4.out.q.drew.trans y5)).mono ?_
       rintro e w7 ⟨A7,c7,rfl,o7,y7⟩
       have X7:=hid (((X4.out.step (Q.refl _).drew).step y5).step y7)
       have HO:=hid (o5.q y7)
       have HT:=hid o7
       clear o5 o7 y5 y7
       go_wp2_with fail
       refine hK.out _ _ (⟨X7.out.b1,X7.out.b2⟩) (fun hHeld=>?_)
       clear hK K
       try simp only[Act.put,sA,sB,sC]
       refine takeH 11 ?v42 ?y42 ?_
       case y42=>intro w hSw;have z:=hSw.1.get2.1;have zz:=hSw.2.get3.1;obtain⟨s0,s1⟩:=z;obtain⟨s2,s3,s4⟩:=zz;go_simp;try with_reducible rfl
       refine oneH 12 (fun K hK=>?_)
       obtain⟨⟨p0,p1⟩,p2,p3⟩:=X7.out.b3.get2
       go_simp
       refine hK.out _ _ (⟨X7.out.b1.far2 (by omega) _ _,X7.out.b2.far2 (by omega) _ _⟩) (fun hHeld=>?_)
       clear hK K
       try simp only[Act.put,sA,sB,sC]
       refine takeH 13 ?v43 ?y43 ?_
       case y43=>intro w hSw;have z:=hSw.1.get2.1;have zz:=hSw.2.get3.1;obtain⟨s0,s1⟩:=z;obtain⟨s2,s3,s4⟩:=zz;go_simp;try with_reducible rfl
       refine doneH ?_
       obtain⟨⟨r0,r1⟩,_⟩:=(X7.out.b3.set2 (.slice A5 (apply l ws).length c5) (.slice A7 (put t ⟨tok,Bm.word 2⟩).length c7)).get2
       go_wp2
       refine bodyPost_ret (v:=.tuple #[staV A5 (apply l ws).length c5 A7 (put t ⟨tok,Bm.word 2⟩).length c7,.int .i64 0]) (by simp[results,Tryz.results36,go_sem,r0,r1]) rfl ?_
       rw[HR.out]
       exact⟨A5,_,c5,A7,_,c7,rfl,((HO.out.set2 (b:=w.heap.size+1+1) (by have:=HS4.out;simp only[World.size_drew];omega) _ _).lower (b2:=w.heap.size) (by have:=HS4.out;simp only[World.size_drew];omega)).in_ HSm.out.1,((HT.out.set2 (b:=w.heap.size+1+1) (by have:=HS5.out;omega) _ _).lower (b2:=w.heap.size) (by have:=HS5.out;omega)).in_ HSm.out.2,X7.out.q.set2 (by omega) _ _⟩
end
section
open Go.RowKit Km
theorem refRunName_any (n:Int)(w:World)(h0:-9223372036854775808≤n)(h1:n≤9223372036854775807):Calls Tryz.prog 13 #[.int .i64 n] w fun e w'=>e=.returned (.string (rnamB n))∧Q w w':=by
 by_cases h2:n<1
 · rw[rnamB_no (by unfold runOk;omega)]
   go_enter Tryz.func13,Tryz.ntmps13
   go_wp2
   go_ret
   exact⟨rfl,Q.refl _⟩
 by_cases h3:1000000<n
 · rw[rnamB_no (by unfold runOk;omega)]
   go_enter Tryz.func13,Tryz.ntmps13
   go_wp2
   go_ret
   exact⟨rfl,Q.refl _⟩
 have h:runOk n:=by unfold runOk;omega
 have hN:=hid (fun w=>refNum_any n w (by omega) (by omega))
 have hl:=Dm.dg_length_lt 7 n.toNat (by omega) (by omega)
 have hsz:(⟨(Dm.num n.toNat).toArray⟩:ByteArray).size=(Dm.dg n.toNat).length+1:=by show (Dm.num n.toNat).toArray.size=_;simp[Dm.num]
 have hex:(⟨#[114]⟩:ByteArray)++(⟨(Dm.num n.toNat).toArray⟩:ByteArray).extract 0 (Dm.dg n.toNat).length=rnamB n:=by
  rw[extract_list,rnamB_ok h,app_lists [114]]
  simp[Dm.num]
 generalize (⟨(Dm.num n.toNat).toArray⟩:ByteArray)=R at hN hsz hex
 generalize (Dm.dg n.toNat).length=m at hl hsz hex
 have HE:=hid hex
 have hR:R.size≤8:=by omega
 have hm:(R.size:Int) - 1=(m:Int):=by omega
 have hmR:m≤R.size:=by omega
 have h0':0≤(R.size:Int) - 1:=by omega
 have hmN:R.size - 1=m:=by omega
 have HM:=hid hmN
 clear hex hsz h hm hmN
 go_enter Tryz.func13,Tryz.ntmps13
 go_wp2_with fail
 refine(hN.out _).mono ?_
 rintro e w1 ⟨rfl,q1⟩
 go_wp2
 go_ret
 refine⟨?_,q1⟩
 rw[←HE.out,←HM.out]
 rfl
end
end Go.Proofs.YtccoknaaofmbcaaGreatDoor
