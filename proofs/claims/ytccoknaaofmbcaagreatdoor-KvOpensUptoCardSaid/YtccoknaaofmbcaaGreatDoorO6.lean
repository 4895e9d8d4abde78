/- DiskRef10, DiskRef5, RunLay, Kind, KindRow, Pair, PairIns, PairDel, Table: merged. -/
import Derived.Test.YtccoknaaofmbcaaGreatDoorO5
import Derived.Test.YtccoknaaofmbcaaGreatDoorO4
import Derived.Test.YtccoknaaofmbcaaGreatDoorO3
import Derived.Test.YtccoknaaofmbcaaGreatDoorO2
import Derived.Deep.DeepCutAuto
import Derived.Test.YtccoknaaofmbcaaGreatDoorO1
import Derived.Maps.AppendAt
import Derived.Laws.AppendOwnNone
import Derived.Laws.IdiomCopy
import Derived.Lib.AppendZerosOnto
import Derived.Deep.RegionLaw
import Derived.Lib.Overlaps
import Derived.Laws.Externs
set_option linter.unusedVariables false
set_option linter.unusedSimpArgs false
set_option maxRecDepth 100000
set_option maxHeartbeats 16000000
open Go.Lib (hid)
namespace Go.Proofs.YtccoknaaofmbcaaGreatDoor
section
open Go.RowKit Dkm
theorem ref_sync_any (nm:ByteArray)(A:Option Addr)(n c:Nat)(d:Dk)(w:World)(hd:Dsk w A n c d.fs)(hs:∀ f∈d.fs,f.sf.size+f.wt.size≤maxLen) :
  Calls Tryz.prog 97 #[dkv A n c d.room d.fuse d.off,.string nm] w fun e w'=>RetDK w A n (syn d nm).1 (syn d nm).2 e w':=by
 obtain⟨l,room,fuse,off⟩:=d
 simp only at hd hs ⊢
 cases off with
 | true =>
   rw[show syn ⟨l,room,fuse,true⟩ nm=(⟨l,room,fuse,true⟩,6) from rfl]
   exact ref_sync_off nm A n c room fuse l w hd
 | false =>
   rcases plc_cases nm l with ⟨hp,hall⟩ | ⟨k,hk,hp,hkn,hfirst⟩
   · rw[syn_none hall]
     exact ref_sync_none nm A n c room fuse l w hd _ hp (by omega)
   · rw[syn_at hk hkn hfirst]
     exact ref_sync_yes nm A n c room fuse l w hd k hk hp (hs _ (List.getElem_mem hk))
theorem set_last {l:List Fil}{f g:Fil}{n:Nat}(h:l.length=n):(l++[f]).set n g=l++[g]:=by
 subst h
 rw[List.set_append_right _ _ (Nat.le_refl _)]
 simp
theorem ref_append_any (nm s:ByteArray)(A:Option Addr)(n c:Nat)(d:Dk)(w:World)(hd:Dsk w A n c d.fs)(hf:∀ f∈d.fs,f.sf.size+f.wt.size≤2305843009213693952)(hs:s.size≤2305843009213693952)
  (hr2:d.room≤9223372036854775807) (hfu:d.fuse≤9223372036854775807) :
  Calls Tryz.prog 98 #[dkv A n c d.room d.fuse d.off,.string nm,.string s] w fun e w'=>RetDK w A n (appd d nm s).1 (appd d nm s).2 e w':=by
 obtain⟨l,room,fuse,off⟩:=d
 simp only at hd hf hr2 hfu ⊢
 have hlen:=hd.len
 cases off with
 | true =>
   rw[show appd ⟨l,room,fuse,true⟩ nm s=(⟨l,room,fuse,true⟩,6) from rfl]
   exact ref_app_off nm s A n c room fuse l w hd
 | false =>
   by_cases hn:nmOk nm=true
   · have key:∀ (f:Fil) (k:Nat),opn nm l=(f,k)→¬ ((k=l.length∧64≤l.length)∨room<s.size)→¬ 65536<f.sf.size+f.wt.size+s.size →
         appd ⟨l,room,fuse,false⟩ nm s=(⟨put l k ⟨f.nm,f.sf,f.wt++cut fuse s⟩,room - (cut fuse s).size,if 0≤fuse then fuse - (cut fuse s).size else fuse,short fuse s⟩,if short fuse s then 6 else 0):=by
       intro f k hop h1 h2
       unfold appd;simp only[hn,hop];rw[if_neg (by simp),if_neg (by simp),if_neg h1,if_neg h2]
     have kneg:fuse<0→cut fuse s=s∧short fuse s=false:=fun h=>by
      have e1:short fuse s=false:=by unfold short;simp;omega
      exact⟨by unfold cut;rw[e1];rfl,e1⟩
     have kfit:(s.size:Int)≤fuse→cut fuse s=s∧short fuse s=false:=fun h=>by
      have e1:short fuse s=false:=by unfold short;simp;omega
      exact⟨by unfold cut;rw[e1];rfl,e1⟩
     have ksh:∀ q:Nat,fuse=q→q<s.size→cut fuse s=s.extract 0 q∧short fuse s=true∧(s.extract 0 q).size=q:=fun q e h=>by
      subst e
      have e1:short (q:Int) s=true:=by unfold short;simp;omega
      exact⟨by unfold cut;rw[e1];simp,e1,by simp;omega⟩
     rcases plc_cases nm l with ⟨hp,hall⟩ | ⟨k,hk,hp,hkn,hfirst⟩
     · have hop:=opn_none hall
       by_cases hful:64≤l.length∨room<s.size
       · rw[show appd ⟨l,room,fuse,false⟩ nm s=(⟨l,room,fuse,false⟩,5) by unfold appd;simp only[hn,hop];rw[if_neg (by simp),if_neg (by simp),if_pos (by rcases hful with h | h;exact .inl ⟨by simp,h⟩;exact .inr h)]]
         exact ref_app_full nm s A n c room fuse l w hd hn _ hp (by omega)
       · by_cases hb:65536<s.size
         · rw[show appd ⟨l,room,fuse,false⟩ nm s=(⟨l,room,fuse,false⟩,4) by unfold appd;simp only[hn,hop];rw[if_neg (by simp),if_neg (by simp),if_neg (by omega),if_pos (by rw[show (⟨#[]⟩:ByteArray).size=0 from rfl];omega)]]
           exact ref_app_big_none nm s A n c room fuse l w hd hn _ hp (by omega) (by omega) (by omega) hs hb
         · rw [key _ _ hop (by omega) (by rw[show (⟨#[]⟩:ByteArray).size=0 from rfl];omega)]
           have hput:∀ g,put l l.length g=(l++[(⟨nm,⟨#[]⟩,⟨#[]⟩⟩:Fil)]).set n g:=fun g=>by rw[set_last hlen];unfold put;rw[if_pos rfl]
           rw[hput]
           by_cases h0:fuse<0
           · obtain⟨e1,e2⟩:=kneg h0
             rw[e1,e2,if_neg (by omega),if_neg (by simp)]
             exact ref_app_none_neg nm s A n c room fuse l w hd hn _ hp (by omega) (by omega) (by omega) hs h0 hr2 (by omega)
           · by_cases h1:(s.size:Int)≤fuse
             · obtain⟨e1,e2⟩:=kfit h1
               rw[e1,e2,if_pos (by omega),if_neg (by simp)]
               exact ref_app_none_fits nm s A n c room fuse l w hd hn _ hp (by omega) (by omega) (by omega) hs h1 hfu hr2 (by omega)
             · obtain⟨q,rfl⟩:∃ q:Nat,fuse=q:=⟨fuse.toNat,by omega⟩
               obtain⟨e1,e2,e3⟩:=ksh q rfl (by omega)
               rw[e1,e2,e3,if_pos (by omega),if_pos rfl,Int.sub_self]
               exact ref_app_none_short nm s A n c room q l w hd hn _ hp (by omega) (by omega) (by omega) hs (by omega) hr2 (by omega)
     · have hop:=opn_at hk hkn hfirst
       have hz:=hf _ (List.getElem_mem hk)
       by_cases hful:room<s.size
       · rw[show appd ⟨l,room,fuse,false⟩ nm s=(⟨l,room,fuse,false⟩,5) by unfold appd;simp only[hn,hop];rw[if_neg (by simp),if_neg (by simp),if_pos (.inr hful)]]
         exact ref_app_full nm s A n c room fuse l w hd hn _ hp (.inr hful)
       · by_cases hb:65536<l[k].sf.size+l[k].wt.size+s.size
         · rw[show appd ⟨l,room,fuse,false⟩ nm s=(⟨l,room,fuse,false⟩,4) by unfold appd;simp only[hn,hop];rw[if_neg (by simp),if_neg (by simp),if_neg (by omega),if_pos hb]]
           exact ref_app_big_at nm s A n c room fuse l w hd hn k hk (by omega) hp (by omega) hs hz hb
         · rw [key _ _ hop (by omega) hb]
           have hput:∀ g,put l k g=l.set k g:=fun g=>by unfold put;rw[if_neg (by omega)]
           rw[hput]
           by_cases h0:fuse<0
           · obtain⟨e1,e2⟩:=kneg h0
             rw[e1,e2,if_neg (by omega),if_neg (by simp)]
             exact ref_app_at_neg nm s A n c room fuse l w hd hn k hk (by omega) hp (by omega) hs hz h0 hr2 (by omega)
           · by_cases h1:(s.size:Int)≤fuse
             · obtain⟨e1,e2⟩:=kfit h1
               rw[e1,e2,if_pos (by omega),if_neg (by simp)]
               exact ref_app_at_fits nm s A n c room fuse l w hd hn k hk (by omega) hp (by omega) hs hz h1 hfu hr2 (by omega)
             · obtain⟨q,rfl⟩:∃ q:Nat,fuse=q:=⟨fuse.toNat,by omega⟩
               obtain⟨e1,e2,e3⟩:=ksh q rfl (by omega)
               rw[e1,e2,e3,if_pos (by omega),if_pos rfl,Int.sub_self]
               exact ref_app_at_short nm s A n c room q l w hd hn k hk (by omega) hp (by omega) hs hz (by omega) hr2 (by omega)
   · rw[show appd ⟨l,room,fuse,false⟩ nm s=(⟨l,room,fuse,false⟩,1) by unfold appd;rw[if_neg (by simp),if_pos (by simpa using hn)]]
     exact ref_app_arg nm s A n c room fuse l w hd (by simpa using hn)
end
section
open Go.RowKit Dkm
theorem plc_eq {nm:ByteArray}{l:List Fil}{k:Nat}(hk:k<l.length)(hn:l[k].nm=nm)(hf:∀ j,∀ h:j<l.length,j<k→l[j].nm≠nm):plc nm l 0=k:=by
 rcases plc_cases nm l with ⟨_,hall⟩ | ⟨k2,hk2,hp,hn2,hf2⟩
 · exact absurd hn (hall _ (List.getElem_mem hk))
 · rcases Nat.lt_trichotomy k2 k with h | h | h
   · exact absurd hn2 (hf k2 hk2 h)
   · rw[hp,h]
   · exact absurd hn (hf2 k hk h)
theorem erase_get {l:List Fil}{o j:Nat}(ho:o<l.length)(hj:j<(l.eraseIdx o).length):(l.eraseIdx o)[j]=if h:j<o then l[j]'(by omega) else l[j+1]'(by rw[List.length_eraseIdx,if_pos ho] at hj;omega):=List.getElem_eraseIdx ..
def kk_ (k o:Nat):Nat:=if k<o then k else k - 1
theorem erase_from {l:List Fil}{o k:Nat}{fr:ByteArray}(ho:o<l.length)(hk:k<l.length)(hne:o≠k)(hn:l[k].nm=fr)(hf:∀ j,∀ h:j<l.length,j<k→l[j].nm≠fr)(hon:l[o].nm≠fr) :
  ∃ h:kk_ k o<(l.eraseIdx o).length,(l.eraseIdx o)[kk_ k o]=l[k]∧plc fr (l.eraseIdx o) 0=(kk_ k o:Nat):=by
 have hlen:(l.eraseIdx o).length=l.length - 1:=by rw[List.length_eraseIdx,if_pos ho]
 have hlt:kk_ k o<(l.eraseIdx o).length:=by unfold kk_;split<;>omega
 have hg:(l.eraseIdx o)[kk_ k o]=l[k]:=by
  rw[erase_get ho hlt]
  unfold kk_
  by_cases h:k<o
  · simp only[if_pos h,dif_pos h]
  · have h2:¬ k - 1<o:=by omega
    simp only[if_neg h,dif_neg h2]
    congr 1;omega
 refine⟨hlt,hg,plc_eq hlt (by rw[hg];exact hn) fun j hj hjk=>?_⟩
 rw[erase_get ho hj]
 have hjk2:j<if k<o then k else k - 1:=hjk
 split
 · exact hf j (by omega) (by split at hjk2<;>omega)
 · by_cases h:k<o
   · rw[if_pos h] at hjk2;omega
   · rw[if_neg h] at hjk2
     exact hf (j+1) (by omega) (by omega)
theorem erase_set {l:List Fil}{o k:Nat}(hne:o≠k)(g:Fil):(l.eraseIdx o).set (kk_ k o) g=(l.set k g).eraseIdx o:=by
 unfold kk_
 by_cases h:k<o
 · rw[if_pos h,List.eraseIdx_set_gt h]
 · rw[if_neg h,List.eraseIdx_set_lt (by omega)]
theorem ref_ren_over (fr tu:ByteArray)(ad:Addr)(n c:Nat)(room fuse:Int)(l:List Fil)(w:World)(hd:Dsk w (some ad) n c l)(hfu:fuse≤9223372036854775807)(k:Nat)(hp:plc fr l 0=k)(hk:nmOk tu=true)(he:fr≠tu)(f2:Int)(hpw:pow ⟨l,room,fuse,false⟩=(⟨l,room,f2,false⟩,true))
  (o:Nat) (ho:o<l.length) (ht:plc tu l 0=o) (hs:l[o].sf.size+l[o].wt.size≤maxLen) (room2:Int) (hR:wrap64 (room+((l[o].sf.size+l[o].wt.size:Nat):Int))=room2) (k2:Nat) (hk2:k2<(l.eraseIdx o).length) (hp2:plc fr (l.eraseIdx o) 0=k2) :
  Calls Tryz.prog 104 #[dkv (some ad) n c room fuse false,.string fr,.string tu] w fun e w'=>RetDK w (some ad) n ⟨(l.eraseIdx o).set k2 ⟨tu,(l.eraseIdx o)[k2].sf,(l.eraseIdx o)[k2].wt⟩,room2,f2,false⟩ 0 e w':=by
 have HD:=hid hd
 have hfew:=hd.few
 obtain⟨o1,o2⟩:=nmOk_yes hk
 have o3:¬ (tu.size:Int)<1:=by omega
 have hb:=str_ne he
 have HL:=hid hd.len
 have hon:o<n:=by have:=HL.out;omega
 have HE:=hid (show (l.eraseIdx o).length=n - 1 by rw[List.length_eraseIdx,if_pos ho,HL.out])
 have hk2n:k2<n - 1:=by have:=HE.out;omega
 have HW:=hid hpw
 have HT:=hid ht
 have HP:=hid hp
 have HP2:=hid hp2
 have HS:=hid hs
 have HR:=hid hR
 have S0:=hid (Sb.new w (some ad) n c room fuse false)
 clear hd hk he hpw ht hp hp2 hs hR
 have LS:=hid (fun (W:World) (hW:Dsk W (some ad) n c l)=>ref_less ad n c room f2 false o l W hW hon ho HS.out)
 rw[HR.out] at LS
 generalize l.eraseIdx o=m at LS HE HP2 hk2 ⊢
 go_enter Tryz.func104,Tryz.ntmps104
 go_wp2_with fail
 refine(ref_at fr (some ad) n c room fuse false l _ (HD.out.files.q S0.out.q) HD.out.max).mono ?_
 rw[HP.out]
 rintro e w1 ⟨rfl,q1⟩
 have S1:=hid (S0.out.step q1)
 clear S0 q1
 obtain⟨⟨e0,e1,e2,e3⟩,f0,f1,f2',f3⟩:=S1.out.get
 have kp:=ref_power (some ad) n c ⟨l,room,fuse,false⟩ w1 hfu
 rw[HW.out] at kp
 have kp:=hid kp
 go_wp2_with fail
 refine kp.out.mono ?_
 rintro e w2 ⟨rfl,q2⟩
 have S2:=hid ((S1.out.step q2).put4 (some ad) n c room f2 false)
 have P2:=S1.out.step q2
 clear S1 kp q2 e0 e1 e2 e3 f0 f1 f2' f3
 obtain⟨⟨e0,e1,e2,e3⟩,f0,f1,f2',f3⟩:=P2.get
 clear P2
 go_upto_region 10 with (fail)
 generalize ((((w2.setCell ⟨w.heap.size,0,none⟩ (.slice (some ad) n c)).setCell ⟨w.heap.size,1,none⟩ (.int .i64 room)).setCell ⟨w.heap.size,2,none⟩ (.int .i64 f2)).setCell ⟨w.heap.size,3,none⟩ (.bool false))=W at S2 ⊢
 clear e0 e1 e2 e3 f0 f1 f2' f3
 obtain⟨⟨e0,e1,e2,e3⟩,f0,f1,f2',f3⟩:=S2.out.get
 go_wp2_with fail
 refine(ref_at tu (some ad) n c room f2 false l _ (HD.out.files.q S2.out.q) HD.out.max).mono ?_
 rw[HT.out]
 rintro e w4 ⟨rfl,q4⟩
 have S4:=hid (S2.out.step q4)
 clear S2 q4 e0 e1 e2 e3 f0 f1 f2' f3
 obtain⟨⟨e0,e1,e2,e3⟩,f0,f1,f2',f3⟩:=S4.out.get
 go_wp2_with fail
 refine(LS.out _ (HD.out.q S4.out.q)).mono ?_
 rintro e w5 ⟨A5,c5,rfl,ho5,q5⟩
 have z4:w.heap.size+1<w4.heap.size:=S4.out.res.lt
 have P5:=S4.out.step q5
 have S5:=hid (And.intro (P5.put4 A5 (n - 1) c5 room2 f2 false) (ho5.set4 (b:=w.heap.size) (by omega) (.slice A5 (n - 1) c5) (.int .i64 room2) (.int .i64 f2) (.bool false)))
 clear S4 LS q5 ho5 e0 e1 e2 e3 f0 f1 f2' f3
 obtain⟨⟨e0,e1,e2,e3⟩,f0,f1,f2',f3⟩:=P5.get
 clear P5
 go_upto_region 15 with (fail)
 generalize ((((w5.setCell ⟨w.heap.size,0,none⟩ (.slice A5 (n - 1) c5)).setCell ⟨w.heap.size,1,none⟩ (.int .i64 room2)).setCell ⟨w.heap.size,2,none⟩ (.int .i64 f2)).setCell ⟨w.heap.size,3,none⟩ (.bool false))=V at S5 ⊢
 clear e0 e1 e2 e3 f0 f1 f2' f3
 obtain⟨⟨e0,e1,e2,e3⟩,f0,f1,f2',f3⟩:=S5.out.1.get
 have HK:=hid (S5.out.2.dsk (show (n - 1)*48≤140737488355328 by omega))
 go_wp2_with fail
 refine(ref_at fr A5 (n - 1) c5 room2 f2 false m _ HK.out.files HK.out.max).mono ?_
 rw[HP2.out]
 rintro e w6 ⟨rfl,q6⟩
 have S6:=hid (S5.out.1.step q6)
 have HK6:=hid (HK.out.q q6)
 clear S5 HK q6 e0 e1 e2 e3 f0 f1 f2' f3
 obtain⟨⟨e0,e1,e2,e3⟩,f0,f1,f2',f3⟩:=S6.out.get
 obtain⟨ae,rfl,hbk,c0,c1,c2⟩:=HK6.out.files.load hk2n hk2
 have z0:w.heap.size<w6.heap.size:=S6.out.box.lt
 have z1:w.heap.size+1<w6.heap.size:=S6.out.res.lt
 have z2:w.heap.size≠w6.heap.size:=by omega
 have z3:w.heap.size+1≠w6.heap.size:=by omega
 have q7:(k2:Int)<((n - 1:Nat):Int):=by omega
 have q8:0≤(k2:Int):=by omega
 have hnm:n - 1≤9223372036854775807:=by omega
 generalize n - 1=n1 at *
 go_wp2_with fail
 refine(ref_with (some ae) n1 c5 room2 f2 false k2 ⟨tu,m[k2].sf,m[k2].wt⟩ m _ (HK6.out.q ((Q.refl w6).alloc _)) hk2n).mono ?_
 rintro e w7 ⟨A7,c7,rfl,ho7,q7'⟩
 have S7:=hid (S6.out.step ((Q.refl w6).alloc (.cells #[.string tu,.string m[k2].sf,.string m[k2].wt] 119)))
 have HO:=hid ho7
 have HQ:=hid q7'
 clear ho7 q7' S6 e0 e1 e2 e3 f0 f1 f2' f3 c0 c1 c2
 obtain⟨⟨s0,s1,s2,s3⟩,h0',h1,h2,h3⟩:=(S7.out.step HQ.out).getR
 go_wp2
 refine bodyPost_ret (v:=.tuple #[dkv A7 n1 c7 room2 f2 false,.int .i64 0]) (by simp[results,Tryz.results104,go_sem,s0,s1,s2,s3]) rfl ?_
 exact S7.out.endO (d:=⟨m.set k2 ⟨tu,m[k2].sf,m[k2].wt⟩,room2,f2,false⟩) HQ.out HO.out (HK6.out.few) 0 _ _ _ _
theorem ref_del_any (nm:ByteArray)(A:Option Addr)(n c:Nat)(d:Dk)(w:World)(hd:Dsk w A n c d.fs)(hs:∀ f∈d.fs,f.sf.size+f.wt.size≤maxLen)(hfu:d.fuse≤9223372036854775807) :
  Calls Tryz.prog 59 #[dkv A n c d.room d.fuse d.off,.string nm] w fun e w'=>RetDK w A n (del d nm).1 (del d nm).2 e w':=by
 obtain⟨l,room,fuse,off⟩:=d
 simp only at hd hs hfu ⊢
 cases off
 · rcases plc_cases nm l with ⟨hp,hall⟩ | ⟨k,hk,hp,hkn,hfirst⟩
   · rw[show del ⟨l,room,fuse,false⟩ nm=(⟨l,room,fuse,false⟩,7) by simp[del,hit_none hall]]
     exact ref_del_none nm A n c room fuse l w hd _ hp (by omega)
   · rcases Int.lt_trichotomy fuse 0 with h2 | h2 | h2
     · rw[show del ⟨l,room,fuse,false⟩ nm=(lss ⟨l,room,fuse,false⟩ k,0) by simp[del,hit_at hk hkn hfirst,opn_at hk hkn hfirst,pow_neg _ _ _ _ h2],lss_at hk]
       exact ref_del_yes nm A n c room fuse l w hd hfu k hk hp fuse (pow_neg _ _ _ _ h2) (hs _ (List.getElem_mem hk)) _ rfl
     · subst h2
       rw[show del ⟨l,room,0,false⟩ nm=(⟨l,room,0,true⟩,6) by simp[del,hit_at hk hkn hfirst,pow_zero]]
       exact ref_del_dead nm A n c room l w hd k hp
     · rw[show del ⟨l,room,fuse,false⟩ nm=(lss ⟨l,room,fuse - 1,false⟩ k,0) by simp[del,hit_at hk hkn hfirst,opn_at hk hkn hfirst,pow_pos _ _ _ _ h2],lss_at hk]
       exact ref_del_yes nm A n c room fuse l w hd hfu k hk hp (fuse - 1) (pow_pos _ _ _ _ h2) (hs _ (List.getElem_mem hk)) _ rfl
 · exact ref_del_off nm A n c room fuse l w hd
theorem ref_ren_any (fr tu:ByteArray)(A:Option Addr)(n c:Nat)(d:Dk)(w:World)(hd:Dsk w A n c d.fs)(hs:∀ f∈d.fs,f.sf.size+f.wt.size≤maxLen)(hfu:d.fuse≤9223372036854775807) :
  Calls Tryz.prog 104 #[dkv A n c d.room d.fuse d.off,.string fr,.string tu] w fun e w'=>RetDK w A n (ren d fr tu).1 (ren d fr tu).2 e w':=by
 obtain⟨l,room,fuse,off⟩:=d
 simp only at hd hs hfu ⊢
 cases off
 · cases hok : nmOk tu
   · rw[show ren ⟨l,room,fuse,false⟩ fr tu=(⟨l,room,fuse,false⟩,1) by simp[ren,hok]]
     exact ref_ren_arg fr tu A n c room fuse l w hd hok
   · rcases plc_cases fr l with ⟨hp,hall⟩ | ⟨k,hk,hp,hkn,hfirst⟩
     · rw[show ren ⟨l,room,fuse,false⟩ fr tu=(⟨l,room,fuse,false⟩,7) by simp[ren,hok,hit_none hall]]
       exact ref_ren_none fr tu A n c room fuse l w hd _ hp hok (by omega)
     · by_cases he:fr=tu
       · rw[show ren ⟨l,room,fuse,false⟩ fr tu=(⟨l,room,fuse,false⟩,0) by subst he;simp[ren,hok,hit_at hk hkn hfirst]]
         exact ref_ren_same fr tu A n c room fuse l w hd k hp hok he
       · by_cases hz:fuse=0
         · subst hz
           rw[show ren ⟨l,room,0,false⟩ fr tu=(⟨l,room,0,true⟩,6) by simp[ren,hok,hit_at hk hkn hfirst,he,pow_zero]]
           exact ref_ren_dead fr tu A n c room l w hd k hp hok he
         · obtain⟨f2,hpw⟩:∃ f2,pow ⟨l,room,fuse,false⟩=(⟨l,room,f2,false⟩,true):=by
             rcases Int.lt_or_gt_of_ne hz with h | h
             · exact⟨fuse,pow_neg _ _ _ _ h⟩
             · exact⟨fuse - 1,pow_pos _ _ _ _ h⟩
           rcases plc_cases tu l with ⟨hp2,hall2⟩ | ⟨o,ho,hp2,hon,hfirst2⟩
           · rw[show ren ⟨l,room,fuse,false⟩ fr tu=(nmd ⟨l,room,f2,false⟩ k tu,0) by simp[ren,hok,hit_at hk hkn hfirst,opn_at hk hkn hfirst,he,hpw,hit_none hall2],nmd_at hk]
             exact ref_ren_plain fr tu A n c room fuse l w hd hfu k hk hp hok he f2 hpw _ hp2 (by omega)
           · have hne:o≠k:=by rintro rfl;exact he (hkn.symm.trans hon)
             have ho2:o<(l.set k ⟨tu,l[k].sf,l[k].wt⟩).length:=by simpa using ho
             have hge:(l.set k ⟨tu,l[k].sf,l[k].wt⟩)[o]=l[o]:=List.getElem_set_ne (by omega) _
             rw[show ren ⟨l,room,fuse,false⟩ fr tu=(lss (nmd ⟨l,room,f2,false⟩ k tu) o,0) by simp[ren,hok,hit_at hk hkn hfirst,opn_at hk hkn hfirst,he,hpw,hit_at ho hon hfirst2,opn_at ho hon hfirst2],nmd_at hk,lss_at ho2,hge]
             obtain⟨ad,rfl⟩:∃ ad,A=some ad:=by
              cases A with
              | none=>have:=hd.nil rfl;have:=hd.len;omega
              | some ad=>exact⟨ad,rfl⟩
             obtain⟨hlt,hg,hpk⟩:=erase_from (fr:=fr) ho hk hne hkn hfirst (by rw[hon];exact fun e=>he e.symm)
             have h:=ref_ren_over fr tu ad n c room fuse l w hd hfu k hp hok he f2 hpw o ho hp2 (hs _ (List.getElem_mem ho)) _ rfl (kk_ k o) hlt hpk
             rw[hg,erase_set hne] at h
             exact h
 · exact ref_ren_off fr tu A n c room fuse l w hd
end
section
open Go.RowKit Dkm Wm
namespace Rn
def freshB (nm:ByteArray):ByteArray:=⟨#[110,46]⟩++nm
def lay1 (d:Dk)(nm:ByteArray):Dk×Int:=if (hit (freshB nm) d.fs).2 then del d (freshB nm) else (d,0)
def lay2 (d:Dk)(nm s:ByteArray):Dk×Int:=if (lay1 d nm).2=0 then appd (lay1 d nm).1 (freshB nm) s else lay1 d nm
def lay3 (d:Dk)(nm s:ByteArray):Dk×Int:=if (lay2 d nm s).2=0 then syn (lay2 d nm s).1 (freshB nm) else lay2 d nm s
def lay (d:Dk)(nm s:ByteArray):Dk×Int:=if (lay3 d nm s).2=0 then ren (lay3 d nm s).1 (freshB nm) nm else lay3 d nm s
end Rn
theorem RetDE.k {w w':World}{d:Dk}{er:Int}{e:Ending}{A0:Option Addr}{n0 B:Nat}(h:RetDE w d er e w')(hB:Bnd B d):RetDK w A0 n0 d er e w':=by
 obtain⟨A,n,c,rfl,ho,q⟩:=h
 exact⟨A,n,c,rfl,ho.dsk (few_own ho hB),.inr ho.far_,q⟩
end
section
open Go.RowKit
structure Kind (α:Type) where
 T:TypeId
 S:TypeId
 k:Nat
 bs:Nat
 z:Value
 row:α→List Value
 pos:0<k
 bpos:0<bs
 len:∀ a,(row a).length=k
 one:∀ a,∀ u∈row a,u.oneCell'=true
 und:Tryz.prog.underlying S=some (.slice T)
 info:(Tryz.prog.info? T).map (fun i=>(i.zero,i.size,i.bytes))=some (some z,k,bs)
 zc:z.cells.size=k
variable {α:Type}
def Kind.rows (K:Kind α):List α→List Value
 | []=>[]
 | a :: l=>K.row a++K.rows l
theorem Kind.rows_len (K:Kind α)(l:List α):(K.rows l).length=l.length*K.k:=by
 induction l with
 | nil=>simp[Kind.rows]
 | cons a l ih=>simp only[Kind.rows,List.length_append,ih,List.length_cons,K.len,Nat.add_mul];omega
theorem Kind.rows_app (K:Kind α)(l m:List α):K.rows (l++m)=K.rows l++K.rows m:=by
 induction l with
 | nil=>rfl
 | cons a l ih=>simp[Kind.rows,ih]
theorem Kind.rows_at (K:Kind α)(l:List α)(k:Nat)(h:k<l.length)(j:Nat)(hj:j<K.k):(K.rows l)[k*K.k+j]? = (K.row l[k])[j]?:=by
 induction l generalizing k with
 | nil=>simp at h
 | cons a l ih =>
   cases k with
   | zero =>
     simp only[Kind.rows,Nat.zero_mul,Nat.zero_add,List.getElem_cons_zero]
     exact List.getElem?_append_left (by rw[K.len];exact hj)
   | succ k =>
     simp only[Kind.rows,List.getElem_cons_succ]
     rw[List.getElem?_append_right (by rw[K.len,Nat.add_mul];omega),←ih k (by simpa using h)]
     congr 1
     rw[K.len,Nat.add_mul];omega
theorem Kind.rows_one (K:Kind α)(l:List α):∀ u∈K.rows l,u.oneCell'=true:=by
 induction l with
 | nil=>simp[Kind.rows]
 | cons a l ih =>
   intro u hu
   rcases List.mem_append.1 hu with h | h
   · exact K.one a u h
   · exact ih u h
theorem Kind.rows_drop (K:Kind α)(l:List α):∀ (m:Nat),K.rows (l.drop m)=(K.rows l).drop (m*K.k):=by
 induction l with
 | nil=>intro m;simp[Kind.rows]
 | cons f l ih =>
   intro m
   cases m with
   | zero=>simp
   | succ m =>
     rw[List.drop_succ_cons,ih m,Kind.rows,show (m+1)*K.k=(K.row f).length+m*K.k by rw[K.len,Nat.add_mul];omega,List.drop_length_add_append]
theorem Kind.rows_take (K:Kind α)(l:List α):∀ (m:Nat),K.rows (l.take m)=(K.rows l).take (m*K.k):=by
 induction l with
 | nil=>intro m;simp[Kind.rows]
 | cons f l ih =>
   intro m
   cases m with
   | zero=>simp[Kind.rows]
   | succ m =>
     rw[List.take_succ_cons,Kind.rows,ih m,Kind.rows,show (m+1)*K.k=(K.row f).length+m*K.k by rw[K.len,Nat.add_mul];omega,List.take_length_add_append]
theorem Kind.rows_set (K:Kind α)(l:List α)(k:Nat)(h:k<l.length)(a:α):(K.rows l).take (k*K.k)++K.row a++(K.rows l).drop (k*K.k+(K.row a).length)=K.rows (l.set k a):=by
 have e:l.set k a=l.take k++(a :: l.drop (k+1)):=by
  rw[List.set_eq_take_append_cons_drop,if_pos h]
 rw[e,K.rows_app,Kind.rows,K.rows_take,K.rows_drop,K.len,Nat.add_mul]
 simp
def Lst (K:Kind α)(w:World)(A:Option Addr)(n:Nat)(l:List α):Prop:=Holds w w.heap.size K.k A n (K.rows l)
theorem Lst.q {K:Kind α}{w w':World}{A:Option Addr}{n:Nat}{l:List α}(h:Lst K w A n l)(hq:Q w w'):Lst K w' A n l:=Holds.q h hq
theorem Lst.len {K:Kind α}{w:World}{A:Option Addr}{n:Nat}{l:List α}(h:Lst K w A n l):l.length=n:=by
 have:=h.1;rw[K.rows_len] at this
 exact Nat.eq_of_mul_eq_mul_right K.pos this
theorem Lst.nil {K:Kind α}(w:World)(A:Option Addr):Lst K w A 0 []:=Holds.none_ _ _ _ _
theorem Lst.load {K:Kind α}{w:World}{A:Option Addr}{n:Nat}{l:List α}(h:Lst K w A n l){k:Nat}(hk:k<n)(hl:k<l.length) :
  ∃ ad,A=some ad∧ad.block<w.heap.size∧∀ j v,(K.row l[k])[j]? = some v→w.cell? ((ad.add (k*K.k)).add j)=some v:=by
 have h0:∀ j v,(K.row l[k])[j]? = some v→∃ ad,A=some ad∧ad.block<w.heap.size∧w.cell? (ad.add (k*K.k+j))=some v:=fun j v hj =>
  h.2 (k*K.k+j) _ (by rw[K.rows_at l k hl j (by rw[←K.len l[k]];exact(List.getElem?_eq_some_iff.1 hj).1)];exact hj)
 obtain⟨ad,rfl,hb,_⟩:=h0 0 _ (List.getElem?_eq_getElem (by rw[K.len];exact K.pos))
 refine⟨ad,rfl,hb,fun j v hj=>?_⟩
 obtain⟨_,e,_,hc⟩:=h0 j v hj
 injection e with e
 subst e
 rw[addr_add];exact hc
def OwnK (K:Kind α)(w:World)(base:Nat)(A:Option Addr)(n c:Nat)(l:List α):Prop:=w.ownsRow base K.T K.k (.slice A n c) n (K.rows l)
structure In_ (K:Kind α) (w:World) (A:Option Addr) (n c:Nat) (l:List α):Prop where
 lst:Lst K w A n l
 nil:A=none→n=0∧c=0
 le:n≤c
 cap:c≤maxLen
 few:n*K.bs≤140737488355328
theorem In_.len {K:Kind α}{w:World}{A:Option Addr}{n c:Nat}{l:List α}(h:In_ K w A n c l):l.length=n:=h.lst.len
theorem In_.q {K:Kind α}{w w':World}{A:Option Addr}{n c:Nat}{l:List α}(h:In_ K w A n c l)(hq:Q w w'):In_ K w' A n c l:=⟨h.lst.q hq,h.nil,h.le,h.cap,h.few⟩
theorem In_.max {K:Kind α}{w:World}{A:Option Addr}{n c:Nat}{l:List α}(h:In_ K w A n c l):n≤maxLen:=Nat.le_trans h.le h.cap
theorem In_.none_ (K:Kind α)(w:World):In_ K w none 0 0 []:=⟨Lst.nil w _,fun _=>⟨rfl,rfl⟩,Nat.le_refl _,Nat.zero_le _,by simp⟩
section
variable {K:Kind α} {w w':World} {base:Nat} {A:Option Addr} {n c:Nat} {l:List α}
theorem OwnK.len (h:OwnK K w base A n c l):l.length=n:=by
 have:=h.1;rw[K.rows_len] at this
 exact Nat.eq_of_mul_eq_mul_right K.pos this
theorem OwnK.parts (h:OwnK K w base A n c l) :
  (A=none∧n=0∧c=0∧l=[])∨∃ g cur,A=some ⟨g,0,none⟩∧base≤g∧w.heap[g]? = some (.cells cur K.T (0,0))∧n≤c∧c≤maxLen∧cur.size=c*K.k∧cur.toList.take (n*K.k)=K.rows l:=by
 rcases h.2 with ⟨e,h0⟩ | ⟨g,cap,cur,e,hb,hh,hc,hm,hs,ht⟩
 · injection e with e1 e2 e3
   exact .inl ⟨e1,e2,e3,List.eq_nil_of_length_eq_zero (by rw[h.len];exact e2)⟩
 · injection e with e1 e2 e3
   subst e1 e3
   exact .inr ⟨g,cur,rfl,hb,hh,hc,hm,hs,ht⟩
theorem OwnK.lst (h:OwnK K w base A n c l):Lst K w A n l:=by
 refine⟨h.1,fun j u hu=>?_⟩
 rcases h.parts with ⟨rfl,rfl,rfl,rfl⟩ | ⟨g,cur,rfl,hb,hh,hc,hm,hs,ht⟩
 · simp[Kind.rows] at hu
 · have hj:j<n*K.k:=by
     have:=(List.getElem?_eq_some_iff.1 hu).1;rw[h.1] at this;exact this
   refine⟨_,rfl,?_,?_⟩
   · rcases Nat.lt_or_ge g w.heap.size with hlt | hge
     · exact hlt
     · rw[Array.getElem?_eq_none hge] at hh;cases hh
   · rw[Addr.add_mid,Nat.zero_add,World.ownsRow.cellAt h j hj];exact hu
theorem OwnK.in_ (h:OwnK K w base A n c l)(hn:n*K.bs≤140737488355328):In_ K w A n c l:=by
 refine⟨h.lst,?_,?_,?_,hn⟩<;>rcases h.parts with ⟨rfl,rfl,rfl,rfl⟩ | ⟨g,cur,rfl,hb,hh,hc,hm,hs,ht⟩
 · intro _;exact⟨rfl,rfl⟩
 · intro e;cases e
 · exact Nat.le_refl _
 · exact hc
 · exact Nat.zero_le _
 · exact hm
theorem OwnK.le (h:OwnK K w base A n c l):n≤c:=by
 rcases h.parts with ⟨rfl,rfl,rfl,rfl⟩ | ⟨g,cur,rfl,hb,hh,hc,hm,hs,ht⟩
 · exact Nat.le_refl _
 · exact hc
theorem OwnK.cap (h:OwnK K w base A n c l):c≤maxLen:=by
 rcases h.parts with ⟨rfl,rfl,rfl,rfl⟩ | ⟨g,cur,rfl,hb,hh,hc,hm,hs,ht⟩
 · exact Nat.zero_le _
 · exact hm
theorem OwnK.keep {B:Nat}(h:OwnK K w base A n c l)(hb:Below B w w')(hB:w.heap.size≤B):OwnK K w' base A n c l:=by
 refine⟨h.1,?_⟩
 rcases h.2 with ⟨e,h0⟩ | ⟨g,cap,cur,e,hg,hh,r⟩
 · exact .inl ⟨e,h0⟩
 · have hlt:g<w.heap.size:=by
     rcases Nat.lt_or_ge g w.heap.size with hlt | hge
     · exact hlt
     · rw[Array.getElem?_eq_none hge] at hh;cases hh
   exact .inr ⟨g,cap,cur,e,hg,(hb.block g (by omega)).trans hh,r⟩
theorem OwnK.q (h:OwnK K w base A n c l)(hq:Q w w'):OwnK K w' base A n c l:=h.keep hq.below (Nat.le_refl _)
theorem OwnK.setCell (h:OwnK K w base A n c l){p:Addr}(hp:p.block<base)(u:Value):OwnK K (w.setCell p u) base A n c l:=by
 refine⟨h.1,?_⟩
 rcases h.2 with ⟨e,h0⟩ | ⟨g,cap,cur,e,hg,hh,r⟩
 · exact .inl ⟨e,h0⟩
 · exact .inr ⟨g,cap,cur,e,hg,(heap_setCell_other w p g u (by omega)).trans hh,r⟩
theorem OwnK.alloc (h:OwnK K w base A n c l)(o:Obj):OwnK K (w.alloc o) base A n c l:=h.q ((Q.refl _).alloc o)
theorem OwnK.drew (h:OwnK K w base A n c l):OwnK K w.drew base A n c l:=h
theorem OwnK.lower {b2:Nat}(h:OwnK K w base A n c l)(hb:b2≤base):OwnK K w b2 A n c l:=by
 refine⟨h.1,?_⟩
 rcases h.2 with ⟨e,h0⟩ | ⟨g,cap,cur,e,hg,hh,r⟩
 · exact .inl ⟨e,h0⟩
 · exact .inr ⟨g,cap,cur,e,by omega,hh,r⟩
theorem OwnK.nil_ (K:Kind α)(w:World)(base:Nat):OwnK K w base none 0 0 []:=World.ownsRow_nil _ _ _ _
theorem OwnK.lit0 (K:Kind α)(w:World)(base:Nat)(hb:base≤w.heap.size):OwnK K (w.alloc (.cells #[] K.T)) base (some ⟨w.heap.size,0,none⟩) 0 0 []:=
 World.ownsRow_lit w #[] 0 hb (Nat.zero_le _) (by simp)
theorem OwnK.lit1 (K:Kind α)(w:World)(base:Nat)(hb:base≤w.heap.size)(a:α):OwnK K (w.alloc (.cells (K.row a).toArray K.T)) base (some ⟨w.heap.size,0,none⟩) 1 1 [a]:=by
 have:=World.ownsRow_lit (e:=K.T) (size:=K.k) w (K.row a).toArray 1 hb (by unfold maxLen;omega) (by simp[K.len])
 unfold OwnK
 rw[show K.rows [a]=(K.row a).toArray.toList by simp[Kind.rows]]
 exact this
theorem OwnK.block_lt {g:Nat}(h:OwnK K w base (some ⟨g,0,none⟩) n c l):base≤g∧g<w.heap.size:=by
 rcases h.parts with ⟨e,_⟩ | ⟨g',cur,e,hb,hh,_⟩
 · cases e
 · injection e with e
   injection e with e
   subst e
   refine⟨hb,?_⟩
   rcases Nat.lt_or_ge g w.heap.size with hlt | hge
   · exact hlt
   · rw[Array.getElem?_eq_none hge] at hh;cases hh
theorem OwnK.cells {g:Nat}(h:OwnK K w base (some ⟨g,0,none⟩) n c l){k:Nat}(hk:k<l.length):∀ j v,(K.row l[k])[j]? = some v→w.cell? ⟨g,k*K.k+j,none⟩=some v:=fun j v hj=>by
 have hjk:j<K.k:=by rw[←K.len l[k]];exact(List.getElem?_eq_some_iff.1 hj).1
 have hn:=h.len
 have:k*K.k+j<n*K.k:=by
  have:(k+1)*K.k≤n*K.k:=Nat.mul_le_mul_right _ (by omega)
  rw[Nat.add_mul] at this;omega
 rw[World.ownsRow.cellAt h _ this,K.rows_at l k hk j hjk]
 exact hj
theorem OwnK.free {g:Nat}(h:OwnK K w base (some ⟨g,0,none⟩) n c l)(j:Nat):w.frozen? ⟨g,j,none⟩=false:=World.ownsRow.frozenAt h _
theorem OwnK.put {g:Nat}(h:OwnK K w base (some ⟨g,0,none⟩) n c l){k:Nat}(hk:k<l.length)(a:α) :
  OwnK K (w.setCells g (k*K.k) (K.row a)) base (some ⟨g,0,none⟩) n c (l.set k a):=by
 have hl:k*K.k+(K.row a).length≤(K.rows l).length:=by
  rw[K.len,K.rows_len]
  have:(k+1)*K.k≤l.length*K.k:=Nat.mul_le_mul_right _ (by omega)
  rw[Nat.add_mul] at this;omega
 have:=owns_setCells (e:=K.T) (sz:=K.k) (K.row a) (k*K.k) w (K.rows l) h hl
 rw[K.rows_set l k hk a] at this
 exact this
theorem OwnK.below_set {g:Nat}(h:OwnK K w base (some ⟨g,0,none⟩) n c l){a0:World}(ha:Below base a0 w):∀ (vs:List Value) (o:Nat),Below base a0 (w.setCells g o vs):=by
 have hg:=h.block_lt.1
 clear h
 intro vs
 induction vs generalizing w with
 | nil=>intro o;exact ha
 | cons v r ih=>intro o;exact ih (ha.setCell (p:=⟨g,o,none⟩) hg v) (o+1)
end
theorem run_appK (K:Kind α)(w:World)(base:Nat)(A:Option Addr)(n c:Nat)(l:List α)(h:OwnK K w base A n c l)(A2:Option Addr)(m c2:Nat)(l2:List α)(h2:Lst K w A2 m l2)(hnil:A2=none→m=0∧c2=0)
  (hb:(n+m)*K.bs≤140737488355328) (hbase:base≤w.heap.size) (ty:TypeId) :
  ∃ A' c' w',(Builtin.append_ #[K.S,K.S] ty #[.slice A n c,.slice A2 m c2]).run Tryz.prog w=.ok (.slice A' (n+m) c') w'∧OwnK K w' base A' (n+m) c' (l++l2)∧Below base w w':=by
 obtain⟨i,hi,hz,hs,hy⟩:=info_parts K.info
 have hmax:n+m≤maxLen:=by
  have:(n+m)*1≤(n+m)*K.bs:=Nat.mul_le_mul_left _ K.bpos
  unfold maxLen;omega
 cases A2 with
 | none =>
   obtain⟨rfl,rfl⟩:=hnil rfl
   have e2:l2=[]:=List.eq_nil_of_length_eq_zero h2.len
   subst e2
   refine⟨A,c,w,run_append_owned_none (P:=Tryz.prog) (w:=w) base _ ty K.T i K.k K.und hi _ n (K.rows l) h,by simpa using h,Below.refl _ _⟩
 | some ad =>
   obtain⟨v',w',hr,ho,hg,hn,hat⟩:=run_append_own_at (P:=Tryz.prog) w base K.S ty K.T i _ K.k K.bs K.und hi hz hs hy K.zc K.pos (.slice A n c) n (K.rows l) h ad m c2 (K.rows l2) h2.1
     (fun j u hu=>by obtain⟨a',e,_,hc⟩:=h2.2 j u hu;injection e with e;subst e;exact hc) (K.rows_one l2) hmax hb hbase
   rw[←K.rows_app] at ho
   have hbl:Below base w w':=(Below.refl _ _).grown hg hbase (fun k hk=>by
    rcases h.parts with ⟨rfl,_⟩ | ⟨g,cur,rfl,hb,_⟩
    · cases hk
    · simp only[Value.ownBlock,Option.some.injEq] at hk;omega)
   rcases ho.2 with ⟨e,h0⟩ | ⟨g,cap,cur,e,_⟩
   · have h00:Value.slice none 0 0=.slice none (n+m) 0:=by rw[h0]
     rw[h00] at e
     subst e
     exact⟨none,0,w',hr,ho,hbl⟩
   · subst e
     exact⟨_,cap,w',hr,ho,hbl⟩
theorem wpl_appK (K:Kind α){w:World}{ops:Array Oper}{rest:List Oper}{o:Oper}{a:Act}{R:Exit→Act→World→Prop}(hgd:o.guard=none)(s x:Operand)(t:TypeId)(ht:t=K.S)
  (ho:o.op=.call { callee:=.builtin .append,args:=#[s,x],argTypes:=#[t,t] })
  (base:Nat) (A:Option Addr) (n c:Nat) (l:List α) (hs:a.eval s=.slice A n c) (h:OwnK K w base A n c l) (A2:Option Addr) (m c2:Nat) (l2:List α) (hx:a.eval x=.slice A2 m c2) (h2:Lst K w A2 m l2) (hnil:A2=none→m=0∧c2=0)
  (hb:(n+m)*K.bs≤140737488355328) (hbase:base≤w.heap.size)
  (hk:∀ A' c' w',OwnK K w' base A' (n+m) c' (l++l2)→Below base w w'→wpList Tryz.prog ops R rest (a.put o.dst (.slice A' (n+m) c')) w'):wpList Tryz.prog ops R (o :: rest) a w:=by
 subst ht
 refine wpList_plain hgd fun X hX=>?_
 obtain⟨A',c',w',hr,h3,h4⟩:=run_appK K w base A n c l h A2 m c2 l2 h2 hnil hb hbase o.type
 unfold Oper.wp execOp
 simp only[ho,resolve,invoke,builtin,Sem.run_bind,Sem.run_pure,Result.andThen_ok,List.map_toArray,List.map_cons,List.map_nil,hs,hx,hr]
 exact hX _ _ (hk A' c' w' h3 h4)
def RetL (K:Kind α)(w:World)(n:Nat)(l:List α)(e:Ending)(w':World):Prop:=
 ∃ A' c',e=.returned (.slice A' n c')∧OwnK K w' w.heap.size A' n c' l∧Q w w'
def RetB (K:Kind α)(w:World)(base n:Nat)(l:List α)(e:Ending)(w':World):Prop:=
 ∃ A' c',e=.returned (.slice A' n c')∧OwnK K w' base A' n c' l∧Below base w w'
theorem eql_nilK (t:TypeId)(e:TypeId)(ht:Tryz.prog.underlying t=some (.slice e))(W:World)(A:Option Addr)(n c:Nat):(binOp .eql t (.slice A n c) (.slice none 0 0)).run Tryz.prog W=.ok (.bool A.isNone) W:=by
 have h:∀ d,(Op.equalIn (d+1) t (.slice A n c) (.slice none 0 0)).run Tryz.prog W=.ok A.isNone W:=by
  intro d
  cases A<;>simp[Op.equalIn,run_underlying ht]
 have h2:(Op.equal t (.slice A n c) (.slice none 0 0)).run Tryz.prog W=.ok A.isNone W:=h 9999
 simp[binOp,h2]
end
section
open Go.RowKit
variable {α:Type}
def RowK (K:Kind α)(w:World)(base g c:Nat)(xs:List Value):Prop:=w.ownsRow base K.T K.k (.slice (some ⟨g,0,none⟩) c c) c xs
section
variable {K:Kind α} {w w':World} {base g n c:Nat} {l:List α} {xs:List Value}
theorem OwnK.row (h:OwnK K w base (some ⟨g,0,none⟩) n c l):∃ xs,RowK K w base g c xs∧xs.take (n*K.k)=K.rows l:=by
 rcases h.parts with ⟨e,_⟩ | ⟨g',cur,e,hb,hh,hc,hm,hs,ht⟩
 · cases e
 injection e with e
 injection e with e
 subst e
 exact⟨cur.toList,⟨by simpa using hs,.inr ⟨g,c,cur,rfl,hb,hh,Nat.le_refl _,hm,hs,List.take_of_length_le (Nat.le_of_eq ((Array.length_toList).trans hs))⟩⟩,ht⟩
theorem RowK.own (h:RowK K w base g c xs)(hn:n≤c)(hl:xs.take (n*K.k)=K.rows l):OwnK K w base (some ⟨g,0,none⟩) n c l:=by
 have:=owns_short h hn
 rw[hl] at this
 exact this
theorem RowK.len (h:RowK K w base g c xs):xs.length=c*K.k:=h.1
theorem RowK.cell (h:RowK K w base g c xs)(j:Nat)(hj:j<c*K.k):w.cell? ⟨g,j,none⟩=xs[j]?:=World.ownsRow.cellAt h j hj
theorem RowK.some (h:RowK K w base g c xs)(j:Nat)(hj:j<c*K.k):(w.cell? ⟨g,j,none⟩).isSome=true:=by
 rw[h.cell j hj,List.getElem?_eq_getElem (by rw[h.len];exact hj)];rfl
theorem RowK.free (h:RowK K w base g c xs)(j:Nat):w.frozen? ⟨g,j,none⟩=false:=World.ownsRow.frozenAt h _
theorem RowK.drew (h:RowK K w base g c xs):RowK K w.drew base g c xs:=h
theorem RowK.q (h:RowK K w base g c xs)(hq:Q w w'):RowK K w' base g c xs:=by
 refine⟨h.1,?_⟩
 rcases h.2 with ⟨e,h0⟩ | ⟨g,cap,cur,e,hg,hh,r⟩
 · exact .inl ⟨e,h0⟩
 · have hlt:g<w.heap.size:=(Array.getElem?_eq_some_iff.1 hh).1
   exact .inr ⟨g,cap,cur,e,hg,(hq.below.block g hlt).trans hh,r⟩
theorem RowK.ge (h:RowK K w base g c xs):base≤g∧g<w.heap.size:=by
 rcases h.2 with ⟨e,h0⟩ | ⟨g',cap,cur,e,hg,hh,r⟩
 · cases e
 · injection e with e
   injection e with e
   injection e with e
   subst e
   exact⟨hg,(Array.getElem?_eq_some_iff.1 hh).1⟩
theorem RowK.sets (h:RowK K w base g c xs)(o:Nat)(cs:List Value)(hl:o+cs.length≤c*K.k):RowK K (w.setCells g o cs) base g c (xs.take o++cs++xs.drop (o+cs.length)):=
 owns_setCells cs o w xs h (by rw[h.len];exact hl)
end
theorem run_copyK (K:Kind α)(w:World)(sT ty:TypeId)(b o dLen dCap:Nat)(a:Addr)(sLen sCap:Nat)(cs:List Value)(hn:cs.length=Nat.min sLen dLen*K.k)
  (hsrc:∀ j v,cs[j]? = some v→w.cell? (a.add j)=some v) (hc:∀ j,j<cs.length→(w.cell? ⟨b,o+j,none⟩).isSome=true) (hf:∀ j,j<cs.length→w.frozen? ⟨b,o+j,none⟩=false) (h1:∀ v∈cs,v.oneCell'=true) :
  (Builtin.copy_ #[K.S,sT] ty #[.slice (some ⟨b,o,none⟩) dLen dCap,.slice (some a) sLen sCap]).run Tryz.prog w=.ok (goInt (Nat.min sLen dLen)) (w.setCells b o cs):=by
 obtain⟨i,hi,hz,hs,hy⟩:=info_parts K.info
 have hst:=run_storeCells_cells (P:=Tryz.prog) b o cs 0 w (by simpa using hc) (by simpa using hf) h1
 have hfc:=run_firstCells_some (P:=Tryz.prog) (w:=w) K.k (Nat.min sLen dLen) a sLen sCap cs hn hsrc
 simp only[Nat.add_zero] at hst
 simp[Builtin.copy_,run_underlying K.und,Builtin.lenOf,sizeOf,typeInfo,hi,hs,hfc,hst]
theorem copy_row (K:Kind α){w:World}{base g c:Nat}{xs:List Value}(h:RowK K w base g c xs)(sT ty:TypeId)(o dLen dCap:Nat)(a:Addr)(sLen sCap:Nat)(cs:List Value)(hn:cs.length=Nat.min sLen dLen*K.k)
  (hsrc:∀ j v,cs[j]? = some v→w.cell? (a.add j)=some v) (hl:o+cs.length≤c*K.k) (h1:∀ v∈cs,v.oneCell'=true) :
  ∃ w',(Builtin.copy_ #[K.S,sT] ty #[.slice (some ⟨g,o,none⟩) dLen dCap,.slice (some a) sLen sCap]).run Tryz.prog w=.ok (goInt (Nat.min sLen dLen)) w'∧RowK K w' base g c (xs.take o++cs++xs.drop (o+cs.length))∧w.grownBy w' (some g):=
 ⟨_,run_copyK K w sT ty g o dLen dCap a sLen sCap cs hn hsrc (fun j hj=>h.some _ (by omega)) (fun j hj=>h.free _) h1,h.sets o cs hl,only_sets cs o w (only_refl w g)⟩
theorem step_copyK (K:Kind α){ops:Array Oper}{o:Oper}{a:Act}{w:World}{X:Act→World→Prop}{R:Exit→Act→World→Prop}{E:Prop}(hgd:o.guard=none)(d s:Operand)(t sT:TypeId)(ht:t=K.S)
  (ho:o.op=.call { callee:=.builtin .copy,args:=#[d,s],argTypes:=#[t,sT] }) (base g c off:Nat) (xs:List Value) (dLen dCap:Nat) (ad:Addr) (sLen sCap:Nat) (hd:a.eval d=.slice (some ⟨g,off,none⟩) dLen dCap) (hs:a.eval s=.slice (some ad) sLen sCap)
  (h:RowK K w base g c xs) (cs:List Value) (hn:cs.length=Nat.min sLen dLen*K.k) (hsrc:∀ j v,cs[j]? = some v→w.cell? (ad.add j)=some v) (hl:off+cs.length≤c*K.k) (h1:∀ v∈cs,v.oneCell'=true)
  (hk:∀ w',RowK K w' base g c (xs.take off++cs++xs.drop (off+cs.length))→w.grownBy w' (some g)→X (a.put o.dst (goInt (Nat.min sLen dLen))) w') :
  if Region.wanted o (yielded ops a.tmps)=true then Oper.wp Tryz.prog o a w X R else E:=by
 subst ht
 have hw:Region.wanted o (yielded ops a.tmps)=true:=by simp[Region.wanted,hgd]
 rw[if_pos hw]
 obtain⟨w',hr,h3,h4⟩:=copy_row K h sT o.type off dLen dCap ad sLen sCap cs hn hsrc hl h1
 unfold Oper.wp execOp
 simp only[ho,resolve,invoke,builtin,Sem.run_bind,Sem.run_pure,Result.andThen_ok,List.map_toArray,List.map_cons,List.map_nil,hd,hs,hr]
 exact hk w' h3 h4
theorem zeros_size (z:Array Value)(n:Nat):(Builtin.zeroCells z n).size=n*z.size:=by simp[Builtin.zeroCells]
theorem zeros_row (K:Kind α)(w:World)(base:Nat)(tn:TypeId)(htn:Tryz.prog.underlying tn=some (.int .i64))(ty:TypeId)(ad:Addr)(i c m:Nat)(olds:List Value)(hlen:olds.length=i*K.k)(hold:∀ j v,olds[j]? = some v→w.cell? (ad.add j)=some v)
  (hm:0<m) (hc:c<i+m) (hb:(i+m)*K.bs≤140737488355328) (hbase:base≤w.heap.size) :
  ∃ G w' xs,(Builtin.append_ #[K.S,tn] ty #[.slice (some ad) i c,.int .i64 (m:Int)]).run Tryz.prog w=.ok (.slice (some ⟨w.heap.size,0,none⟩) (i+m) G) w'∧RowK K w' base w.heap.size G xs∧xs.take (i*K.k)=olds∧i+m≤G∧Q w w'∧G≤maxLen∧w'.heap.size=w.heap.size+1:=by
 obtain⟨t,hi,hz,hs,hy⟩:=info_parts K.info
 have hmax:i+m≤maxLen:=by
  have:(i+m)*1≤(i+m)*K.bs:=Nat.mul_le_mul_left _ K.bpos
  unfold maxLen;omega
 have hGm:=grownCap_le_maxLen w (i+m) c K.T hmax
 have hGn:=grownCap_ge w (i+m) c K.T
 have hmb:m*t.bytes≤281474976710656:=by
  rw[hy]
  have:m*K.bs≤(i+m)*K.bs:=Nat.mul_le_mul_right _ (by omega)
  omega
 have h:=Lib.run_append_grow_zeros (P:=Tryz.prog) w K.S tn ty K.T t K.z .i64 .i64 K.und htn hi hz (some ad) i c olds
   (by rw[hs];exact run_firstCells_some (P:=Tryz.prog) (w:=w.drew) K.k i ad i c olds hlen hold) m hm (by rw[hs];exact K.pos) hc (by unfold maxLen at hmax;omega) hmb (by rw[hy];exact growslice_fits hc hb)
 generalize grownCap w (i+m) c K.T=G at h hGm hGn
 have hsz:(olds.toArray++Builtin.zeroCells K.z.cells m++Builtin.zeroCells K.z.cells (G - (i+m))).size=G*K.k:=by
  simp only[Array.size_append,zeros_size,K.zc,List.size_toArray,hlen]
  rw[←Nat.add_mul,←Nat.add_mul]
  congr 1
  omega
 refine⟨G,_,(olds.toArray++Builtin.zeroCells K.z.cells m++Builtin.zeroCells K.z.cells (G - (i+m))).toList,h,?_,?_,hGn,(Q.refl w).drew.alloc _,hGm,by simp⟩
 · exact World.ownsRow_lit (e:=K.T) (size:=K.k) w.drew _ G hbase hGm hsz
 · simp only[Array.toList_append,List.append_assoc]
   exact List.take_left' hlen
theorem wpl_zerosK (K:Kind α){w:World}{ops:Array Oper}{rest:List Oper}{o:Oper}{a:Act}{R:Exit→Act→World→Prop}(hgd:o.guard=none)(s x:Operand)(t tn:TypeId)(ht:t=K.S)(htn:Tryz.prog.underlying tn=some (.int .i64))
  (ho:o.op=.call { callee:=.builtin .append,args:=#[s,x],argTypes:=#[t,tn] }) (base:Nat) (ad:Addr) (i c m N:Nat) (hN:i+m=N) (y:Int) (hy:y=(m:Int)) (hs:a.eval s=.slice (some ad) i c) (hx:a.eval x=.int .i64 y)
  (olds:List Value) (hlen:olds.length=i*K.k) (hold:∀ j v,olds[j]? = some v→w.cell? (ad.add j)=some v)
  (hm:0<m) (hc:c<i+m) (hb:(i+m)*K.bs≤140737488355328) (hbase:base≤w.heap.size)
  (hk:∀ G w' xs,RowK K w' base w.heap.size G xs→xs.take (i*K.k)=olds→N≤G→Q w w'→G≤maxLen→w'.heap.size=w.heap.size+1→wpList Tryz.prog ops R rest (a.put o.dst (.slice (some ⟨w.heap.size,0,none⟩) N G)) w'):wpList Tryz.prog ops R (o :: rest) a w:=by
 subst ht hy hN
 refine wpList_plain hgd fun X hX=>?_
 obtain⟨G,w',xs,hr,h1,h2,h3,h4,h5,h6⟩:=zeros_row K w base tn htn o.type ad i c m olds hlen hold hm hc hb hbase
 unfold Oper.wp execOp
 simp only[ho,resolve,invoke,builtin,Sem.run_bind,Sem.run_pure,Result.andThen_ok,List.map_toArray,List.map_cons,List.map_nil,hs,hx,hr]
 exact hX _ _ (hk G w' xs h1 h2 h3 h4 h5 h6)
theorem zeros_one (z:Value)(hz:∀ u∈z.cells,u.oneCell'=true)(hp:0<z.cells.size)(n:Nat):∀ u∈(Builtin.zeroCells z.cells n).toList,u.oneCell'=true:=by
 intro u hu
 simp only[Builtin.zeroCells,Array.toList_map,List.mem_map] at hu
 obtain⟨i,_,rfl⟩:=hu
 have h:i % z.cells.size<z.cells.size:=Nat.mod_lt _ hp
 rw[getElem!_pos z.cells _ h]
 exact hz _ (Array.getElem_mem h)
theorem run_clearK (K:Kind α){w:World}{base g c:Nat}{xs:List Value}(h:RowK K w base g c xs)(h1:∀ u∈K.z.cells,u.oneCell'=true)(hzv:∀ W,(zeroValue K.T).run Tryz.prog W=.ok K.z W)(ty:TypeId)(o n cp:Nat)(hn:0<n)(hl:o+n*K.k≤c*K.k) :
  ∃ zs:List Value,zs.length=n*K.k∧(∀ cp,(Builtin.clear_ #[K.S] ty #[.slice (some ⟨g,o,none⟩) n cp]).run Tryz.prog w=.ok (.tuple #[]) (w.setCells g o zs)):=by
 have hzl:(Builtin.zeroCells K.z.cells n).toList.length=n*K.k:=by simp[zeros_size,K.zc]
 refine⟨(Builtin.zeroCells K.z.cells n).toList,hzl,fun cp=>?_⟩
 have hst:=run_storeCells_cells (P:=Tryz.prog) g o (Builtin.zeroCells K.z.cells n).toList 0 w (fun j hj=>h.some _ (by omega)) (fun j hj=>h.free _) (zeros_one K.z h1 (by rw[K.zc];exact K.pos) n)
 simp only[Nat.add_zero] at hst
 obtain⟨m,rfl⟩:∃ m,n=m+1:=⟨n - 1,by omega⟩
 simp[Builtin.clear_,run_underlying K.und,hzv,hst]
end
section
open Go.RowKit Prm
abbrev Prm.Pr.v (p:Pr):Value:=.agg #[.string p.key,.string p.val]
abbrev Prm.Wr.v (w:Wr):Value:=.agg #[.string w.key,.string w.val,.bool w.del]
def pairK:Kind Pr where
 T := 75
 S := 28
 k:=2
 bs:=32
 z:=.agg #[.string ⟨#[]⟩,.string ⟨#[]⟩]
 row:=fun p=>[.string p.key,.string p.val]
 pos:=by omega
 bpos:=by omega
 len:=fun _=>rfl
 one:=fun _ u hu=>by simp at hu;rcases hu with rfl | rfl<;>rfl
 und:=Tryz.underlying28
 info:=by kernel_rfl
 zc:=rfl
def writeK:Kind Wr where
 T := 73
 S := 46
 k:=3
 bs:=40
 z:=.agg #[.string ⟨#[]⟩,.string ⟨#[]⟩,.bool false]
 row:=fun p=>[.string p.key,.string p.val,.bool p.del]
 pos:=by omega
 bpos:=by omega
 len:=fun _=>rfl
 one:=fun _ u hu=>by simp at hu;rcases hu with rfl | rfl | rfl<;>rfl
 und:=Tryz.underlying46
 info:=by kernel_rfl
 zc:=rfl
theorem load_pair {w:World}{A:Option Addr}{n:Nat}{l:List Pr}(h:Lst pairK w A n l){k:Nat}(hk:k<n)(hl:k<l.length) :
  ∃ ad,A=some ad∧ad.block<w.heap.size∧w.cell? (ad.add (k*2))=some (.string l[k].key)∧w.cell? ⟨(ad.add (k*2)).block,(ad.add (k*2)).off+1,none⟩=some (.string l[k].val):=by
 obtain⟨ad,e,hb,hc⟩:=h.load hk hl
 exact⟨ad,e,hb,hc 0 _ rfl,hc 1 _ rfl⟩
theorem load_write {w:World}{A:Option Addr}{n:Nat}{l:List Wr}(h:Lst writeK w A n l){k:Nat}(hk:k<n)(hl:k<l.length) :
  ∃ ad,A=some ad∧ad.block<w.heap.size∧w.cell? (ad.add (k*3))=some (.string l[k].key)∧w.cell? ⟨(ad.add (k*3)).block,(ad.add (k*3)).off+1,none⟩=some (.string l[k].val) ∧
    w.cell? ⟨(ad.add (k*3)).block,(ad.add (k*3)).off+2,none⟩=some (.bool l[k].del):=by
 obtain⟨ad,e,hb,hc⟩:=h.load hk hl
 exact⟨ad,e,hb,hc 0 _ rfl,hc 1 _ rfl,hc 2 _ rfl⟩
theorem gtr_lt (a b:ByteArray):(!(Op.bytesLess a.toList b.toList||a.toList == b.toList))=lt b a:=by
 rw[lt_data,same_str]
 by_cases h:a=b
 · subst h;simp[lt_irrefl]
 · cases k:lt a b with
    | true=>simp[lt_asymm k]
    | false=>simp[h,lt_tri h k]
theorem leq_lt (a b:ByteArray):(Op.bytesLess a.toList b.toList||a.toList == b.toList)=!lt b a:=by
 have:=gtr_lt a b
 cases h:(Op.bytesLess a.toList b.toList||a.toList == b.toList)<;>rw[h] at this<;>simp at this<;>simp[this]
theorem has1 (p:Pr)(key:ByteArray)(B:Nat)(w:World)(hB:B<w.heap.size)(hc:w.cell? ⟨B,0,none⟩=some (.string key)) :
  Calls Tryz.prog 213 #[p.v,.pointer (some ⟨B,0,none⟩)] w fun e w'=>e=.returned (.bool (hasK key p))∧Q w w':=by
 obtain⟨a,b⟩:=p
 go_enter Tryz.func213,Tryz.ntmps213
 go_wp2
 go_ret
 exact⟨ret_bool (same_str a key),(Q.refl _).alloc _⟩
theorem above1 (p:Pr)(key:ByteArray)(B:Nat)(w:World)(hB:B<w.heap.size)(hc:w.cell? ⟨B,0,none⟩=some (.string key)) :
  Calls Tryz.prog 222 #[p.v,.pointer (some ⟨B,0,none⟩)] w fun e w'=>e=.returned (.bool (aboveK key p))∧Q w w':=by
 obtain⟨a,b⟩:=p
 go_enter Tryz.func222,Tryz.ntmps222
 go_wp2
 go_ret
 exact⟨ret_bool (by have:=gtr_lt a key;rw[Bool.not_or] at this;exact this),(Q.refl _).alloc _⟩
theorem thas_any (key:ByteArray)(w:World) :
  Calls Tryz.prog 199 #[.string key] w fun e w'=>e=.returned (.func (.func 213) #[] #[.pointer (some ⟨w.heap.size,0,none⟩)])∧w'=w.alloc (.cells #[.string key] 9):=by
 go_enter Tryz.func199,Tryz.ntmps199
 go_wp2
 go_ret
 exact⟨rfl,rfl⟩
theorem above_any (key:ByteArray)(w:World) :
  Calls Tryz.prog 215 #[.string key] w fun e w'=>e=.returned (.func (.func 222) #[] #[.pointer (some ⟨w.heap.size,0,none⟩)])∧w'=w.alloc (.cells #[.string key] 9):=by
 go_enter Tryz.func215,Tryz.ntmps215
 go_wp2
 go_ret
 exact⟨rfl,rfl⟩
def Tells (F:FuncId)(key:ByteArray)(P:Pr→Bool):Prop:=∀ (p:Pr) (B:Nat) (w:World),B<w.heap.size→w.cell? ⟨B,0,none⟩=some (.string key) →
 Calls Tryz.prog F #[p.v,.pointer (some ⟨B,0,none⟩)] w fun e w'=>e=.returned (.bool (P p))∧Q w w'
theorem pindexFunc (F:FuncId)(P:Pr→Bool)(key:ByteArray)(hF:Tells F key P)(hFF:F = 213 ∨ F = 222)(B:Nat)(A:Option Addr)(n c:Nat)(l:List Pr)(w:World)(hB:B<w.heap.size)(hc:w.cell? ⟨B,0,none⟩=some (.string key))(hf:Lst pairK w A n l)(hn:n≤maxLen) :
  Calls Tryz.prog 198 #[.slice A n c,.func (.func F) #[] #[.pointer (some ⟨B,0,none⟩)]] w fun e w'=>e=.returned (.int .i64 (idx P l 0))∧Q w w':=by
 rcases hFF with rfl | rfl
 all_goals
   unfold maxLen at hn
   have HC:=hid hc
   have HF:=hid hf
   have HT:=hid hF
   clear hc hf hF
   go_enter Tryz.func198,Tryz.ntmps198
   go_wp2
   go_loopw [8] (fun i wr=>∃ k:Nat,k≤n∧i=.int .i64 k∧Q w wr∧idx P l 0=idx P (l.drop k) k) (fun i _=>n - (intOf i).toNat)
   case atStart=>exact⟨0,Nat.zero_le _,rfl,Q.refl _,rfl⟩
   case round =>
    obtain⟨k,hk,rfl,hq,hp⟩:=hrel
    have HP:=hid hp
    clear hp
    by_cases hlt:k<n
    · have hlen:=HF.out.len
      have hkl:k<l.length:=by omega
      obtain⟨ad,rfl,hb,c0,c1⟩:=load_pair (HF.out.q hq) hlt hkl
      clear hlen
      have hcell:Hid (wr.cell? ⟨B,0,none⟩=some (.string key)):=hid ((hq.below.cell (p:=⟨B,0,none⟩) hB).trans HC.out)
      go_wp2_with fail
      refine(HT.out l[k] B _ (Nat.lt_of_lt_of_le hB hq.size) hcell.out).mono ?_
      rintro e w1 ⟨rfl,q1⟩
      by_cases hh:P l[k]=true
      · go_wp2
        go_ret
        exact⟨ret_int (by rw[HP.out,idx_drop _ _ hkl,if_pos hh]),hq.trans q1⟩
      · have hd:P l[k]=false:=by simpa using hh
        go_wp2
        go_roundw
        case rel=>exact⟨k+1,by omega,by go_num,hq.trans q1,by rw[HP.out,idx_drop _ _ hkl,if_neg hh]⟩
        case measure=>simp[intOf];omega
    · have hlen:=HF.out.len
      have HL:=hid hlen
      clear hlen
      go_wp2
      go_ret
      exact⟨ret_int (by rw[HP.out,idx_end _ _ (by have:=HL.out;omega)]),hq⟩
theorem clonePairs (A:Option Addr)(n c:Nat)(l:List Pr)(w:World)(hd:In_ pairK w A n c l) :
  Calls Tryz.prog 95 #[.slice A n c] w fun e w'=>RetL pairK w n l e w':=by
 have HD:=hid hd
 clear hd
 cases A with
 | none =>
   obtain⟨h1,h2⟩:=HD.out.nil rfl
   subst h1 h2
   have hl:l=[]:=List.eq_nil_of_length_eq_zero HD.out.len
   subst hl
   have hnil:=fun W:World=>eql_nilK 28 75 Tryz.underlying28 W none 0 0
   go_enter Tryz.func95,Tryz.ntmps95
   go_wp2
   go_ret
   exact⟨none,0,rfl,OwnK.nil_ _ _ _,Q.refl _⟩
 | some ad =>
   have hnil:=fun W:World=>eql_nilK 28 75 Tryz.underlying28 W (some ad) n c
   go_enter Tryz.func95,Tryz.ntmps95
   go_wp2_with (at_builtin
                refine wpl_appK pairK rfl (.tmp 5) (.tmp 6) 28 rfl rfl w.heap.size (some ⟨w.heap.size,0,none⟩) 0 0 [] rfl (OwnK.lit0 pairK w _ (Nat.le_refl _)) (some ad) n c l rfl (HD.out.lst.q ((Q.refl _).alloc _)) (fun e=>by cases e) (by have:=HD.out.few;simpa using this) (by simp) ?_
                intro A1 c1 w1 ho1 hb1)
   go_ret
   refine⟨A1,c1,by simp,by simpa using ho1,((Q.refl _).alloc _).below.trans hb1⟩
theorem tfind_any (key:ByteArray)(A:Option Addr)(n c:Nat)(l:List Pr)(w:World)(hf:Lst pairK w A n l)(hn:n≤maxLen) :
  Calls Tryz.prog 172 #[.slice A n c,.string key] w fun e w'=>e=.returned (.tuple #[.string (find key l).1,.bool (find key l).2])∧Q w w':=by
 have HF:=hid hf
 have HN:=hid hn
 unfold maxLen at hn
 clear hf
 rcases idx_cases (hasK key) l 0 with ⟨hp,hall⟩ | ⟨k,hk,hp,hkn,hfirst⟩
 · rw[find_none hall]
   have HP:=hid hp
   clear hp hall
   go_enter Tryz.func172,Tryz.ntmps172
   go_wp2_with fail
   refine(thas_any key _).mono ?_
   rintro e w1 ⟨rfl,rfl⟩
   go_wp2_with fail
   refine(pindexFunc _ _ key (fun p B w=>has1 p key B w) (.inl rfl) w.heap.size A n c l _ (by simp) (by simp) (HF.out.q ((Q.refl _).alloc _)) HN.out).mono ?_
   rintro e w1 ⟨rfl,q1⟩
   rw[HP.out]
   go_wp2
   go_ret2
   exact⟨rfl,((Q.refl _).alloc _).trans q1⟩
 · rw[find_at hk hkn hfirst]
   have HL:=hid HF.out.len
   have hkn':k<n:=by have:=HL.out;omega
   have HP:=hid (hp.trans (by simp:((0+k:Nat):Int)=(k:Int)))
   clear hp hkn hfirst
   go_enter Tryz.func172,Tryz.ntmps172
   go_wp2_with fail
   refine(thas_any key _).mono ?_
   rintro e w1 ⟨rfl,rfl⟩
   go_wp2_with fail
   refine(pindexFunc _ _ key (fun p B w=>has1 p key B w) (.inl rfl) w.heap.size A n c l _ (by simp) (by simp) (HF.out.q ((Q.refl _).alloc _)) HN.out).mono ?_
   rintro e w1 ⟨rfl,q1⟩
   rw[HP.out]
   obtain⟨ad,rfl,hb,c0,c1⟩:=load_pair (HF.out.q (((Q.refl _).alloc _).trans q1)) hkn' hk
   go_wp2
   go_ret2
   exact⟨rfl,((Q.refl _).alloc _).trans q1⟩
theorem empty_no {s:ByteArray}(h:¬ s=⟨#[]⟩):s.toList≠[]∧s.toList.isEmpty=false∧(s.toList == [])=false:=by
 have h1:s.toList≠[]:=by
  intro e
  have e1:s.data.toList=[]:=by simpa [ByteArray.toList_eq] using e
  exact h (ByteArray.ext (by simpa using e1))
 exact⟨h1,by simpa using h1,by simpa using h1⟩
end
section
open Go.RowKit Prm
theorem shape_row {w:World}{b:Nat}{cs:Array Value}{t:TypeId}{m:Nat×Nat}(h:w.heap[b]? = some (.cells cs t m)):w.shape? b=some (t,cs.size):=by simp[World.shape?,h]
theorem size_pair:∀ w,(Go.sizeOf 75).run Tryz.prog w=.ok 2 w:=by
 obtain⟨t,hi,hz,hs,hy⟩:=info_parts pairK.info
 have hi':Tryz.prog.info? 75 = some t:=hi
 have hs':t.size=2:=hs
 intro w
 simp[sizeOf,typeInfo,hi',hs']
theorem shift_list {α:Type}(K:Kind α)(l:List α)(p:α)(xs:List Value)(i n c:Nat)(hi:i≤n)(hl:l.length=n)(hc:n+1≤c)(hx:xs.length=c*K.k)(ht:xs.take (n*K.k)=K.rows l) :
  ((xs.take ((i+1)*K.k)++K.rows (l.drop i)++xs.drop ((i+1)*K.k+(K.rows (l.drop i)).length)).take (i*K.k)++K.row p++(xs.take ((i+1)*K.k)++K.rows (l.drop i)++xs.drop ((i+1)*K.k+(K.rows (l.drop i)).length)).drop (i*K.k+(K.row p).length)).take ((n+1)*K.k)=K.rows (l.take i++p :: l.drop i):=by
 have hnk:n*K.k+K.k≤c*K.k:=by
  have:(n+1)*K.k≤c*K.k:=Nat.mul_le_mul_right _ hc
  rw[Nat.add_mul] at this;omega
 have hik:i*K.k≤n*K.k:=Nat.mul_le_mul_right _ hi
 have e1:(i+1)*K.k=i*K.k+K.k:=by rw[Nat.add_mul];omega
 have e2:(n+1)*K.k=n*K.k+K.k:=by rw[Nat.add_mul];omega
 have hR:(K.rows (l.drop i)).length=n*K.k - i*K.k:=by rw[K.rows_len,List.length_drop,hl,Nat.sub_mul]
 have hlt:(xs.take ((i+1)*K.k)).length=(i+1)*K.k:=by rw[List.length_take];omega
 have h1:(xs.take ((i+1)*K.k)++K.rows (l.drop i)++xs.drop ((i+1)*K.k+(K.rows (l.drop i)).length)).take (i*K.k)=K.rows (l.take i):=by
  rw[List.append_assoc,List.take_append_of_le_length (by omega),List.take_take,Nat.min_eq_left (by omega),K.rows_take,←ht,List.take_take,Nat.min_eq_left hik]
 have h2:(xs.take ((i+1)*K.k)++K.rows (l.drop i)++xs.drop ((i+1)*K.k+(K.rows (l.drop i)).length)).drop (i*K.k+(K.row p).length)=K.rows (l.drop i)++xs.drop ((i+1)*K.k+(K.rows (l.drop i)).length):=by
  rw[K.len,←e1,List.append_assoc,List.drop_left' hlt]
 have h3:(K.rows (l.take i)++K.row p++K.rows (l.drop i)).length=(n+1)*K.k:=by
  simp only[List.length_append,K.rows_len,K.len,List.length_take,List.length_drop,hl,Nat.min_eq_left hi,Nat.sub_mul]
  omega
 rw[h1,h2,K.rows_app,Kind.rows,←List.append_assoc (K.rows (l.take i)++K.row p),List.take_left' h3,List.append_assoc]
theorem grow_list {α:Type}(K:Kind α)(l:List α)(p:α)(xs:List Value)(i n c:Nat)(hi:i≤n)(hl:l.length=n)(hc:n+1≤c)(hx:xs.length=c*K.k)(ht:xs.take (i*K.k)=K.rows (l.take i)) :
  ((xs.take (i*K.k)++K.row p++xs.drop (i*K.k+(K.row p).length)).take ((i+1)*K.k)++K.rows (l.drop i)++(xs.take (i*K.k)++K.row p++xs.drop (i*K.k+(K.row p).length)).drop ((i+1)*K.k+(K.rows (l.drop i)).length)).take ((n+1)*K.k)=K.rows (l.take i++p :: l.drop i):=by
 have e1:(i+1)*K.k=i*K.k+K.k:=by rw[Nat.add_mul];omega
 have h0:(K.rows (l.take i)++K.row p).length=(i+1)*K.k:=by
  simp only[List.length_append,K.rows_len,K.len,List.length_take,hl,Nat.min_eq_left hi];omega
 rw[ht,List.take_left' h0]
 have h3:(K.rows (l.take i)++K.row p++K.rows (l.drop i)).length=(n+1)*K.k:=by
  have:i*K.k≤n*K.k:=Nat.mul_le_mul_right _ hi
  simp only[List.length_append,K.rows_len,K.len,List.length_take,List.length_drop,hl,Nat.min_eq_left hi,Nat.sub_mul,Nat.add_mul]
  omega
 rw[List.take_left' h3,K.rows_app,Kind.rows,List.append_assoc]
theorem insert_end (base:Nat)(A:Option Addr)(n c:Nat)(l:List Pr)(p:Pr)(vb:Nat)(w:World)(h:OwnK pairK w base A n c l)(hv:Lst pairK w (some ⟨vb,0,none⟩) 1 [p])(hn:(n+1)*32≤140737488355328)(hbase:base≤w.heap.size) :
  Calls Tryz.prog 216 #[.slice A n c,.int .i64 n,.slice (some ⟨vb,0,none⟩) 1 1] w fun e w'=>RetB pairK w base (n+1) (l++[p]) e w':=by
 have HO:=hid h
 have HV:=hid hv
 have hcap:=h.cap
 have hle:=h.le
 unfold maxLen at hcap
 clear h hv
 cases A with
 | none =>
   obtain⟨rfl,rfl,rfl⟩:n=0∧c=0∧l=[]:=by
    rcases HO.out.parts with ⟨_,a,b,d⟩ | ⟨g,cur,e,_⟩
    · exact⟨a,b,d⟩
    · cases e
   go_enter Tryz.func216,Tryz.ntmps216
   go_wp2_with (at_builtin
                refine wpl_appK pairK rfl (.tmp 23) (.tmp 24) 28 rfl rfl base none 0 0 [] rfl HO.out (some ⟨vb,0,none⟩) 1 1 [p] rfl HV.out (fun e=>by cases e) hn hbase ?_
                intro A1 c1 w1 ho1 hb1)
   go_ret
   exact⟨A1,c1,rfl,ho1,hb1⟩
 | some ad =>
   obtain⟨ab,ao,asp⟩:=ad
   go_enter Tryz.func216,Tryz.ntmps216
   go_wp2_with (at_builtin
                refine wpl_appK pairK rfl (.tmp 23) (.tmp 24) 28 rfl rfl base (some ⟨ab,ao,asp⟩) n c l rfl HO.out (some ⟨vb,0,none⟩) 1 1 [p] rfl HV.out (fun e=>by cases e) hn hbase ?_
                intro A1 c1 w1 ho1 hb1)
   all_goals go_ret
   all_goals exact⟨A1,c1,rfl,ho1,hb1⟩
theorem insert_shift (base g n c i:Nat)(l:List Pr)(p:Pr)(vb:Nat)(w:World)(h:OwnK pairK w base (some ⟨g,0,none⟩) n c l)(hb:w.heap[vb]? = some (.cells #[.string p.key,.string p.val] 75 (0,0)))(hne:vb≠g)(hi:i<n)(hroom:n+1≤c) :
  Calls Tryz.prog 216 #[.slice (some ⟨g,0,none⟩) n c,.int .i64 i,.slice (some ⟨vb,0,none⟩) 1 1] w fun e w'=>RetB pairK w base (n+1) (l.take i++p :: l.drop i) e w':=by
 have hcap:=h.cap
 unfold maxLen at hcap
 have hll:=h.len
 obtain⟨xs,hR,hxs⟩:=h.row
 have hov:∀ lb cb,(callFunc 223 #[.slice (some ⟨vb,0,none⟩) 1 1,.slice (some ⟨g,(i+1)*2,none⟩) lb cb]).run Tryz.prog w=.ok (.value (.bool false)) w:=fun lb cb=>by
  obtain⟨g',cur,e,hgb,hh,hc',hm',hs',ht'⟩:=h.parts.resolve_left (fun e=>by cases e.1)
  injection e with e
  injection e with e
  subst e
  rw [run_callFunc_extern Tryz.func223 (by kernel_rfl) (by kernel_rfl) (by kernel_rfl) (e:=Extern.SlicesOverlaps.overlaps #[28, 28] #[4]) (by kernel_rfl),
    Lib.run_overlaps_apart w 28 4 75 Tryz.underlying28 2 size_pair ⟨vb,0,none⟩ ⟨g,(i+1)*2,none⟩ 1 1 lb cb hne _ _ _ _ (shape_row hb) (shape_row hh)
      (by have:c*2=cur.size:=hs'.symm;omega) (frozen_of_row w vb 0 _ _ hb) (frozen_of_row w vb _ _ _ hb)]
  rfl
 have h1:=hid hov
 have hR0:=hid hR
 have HX:=hid hxs
 have hX:=hid hR.len
 have hrl:(pairK.rows (l.drop i)).length=(n - i)*2:=by rw[pairK.rows_len,List.length_drop,hll];rfl
 have hsrc1:=hid (fun (j:Nat) (v:Value) (hj:(pairK.rows (l.drop i))[j]? = some v)=>show w.drew.cell? ((⟨g,i*2,none⟩:Addr).add j)=some v by
  have hjl:=(List.getElem?_eq_some_iff.1 hj).1
  rw[Addr.add_lit]
  show w.cell? _=_
  rw[hR.cell (i*2+j) (by have:pairK.k=2:=rfl;rw[this];omega)]
  rw[pairK.rows_drop,List.getElem?_drop,←hxs,List.getElem?_take] at hj
  split at hj
  · exact hj
  · cases hj)
 have HL2:=hid (show (pairK.rows (l.drop i)).length=Nat.min (n+1 - i) (n - i)*pairK.k by rw[hrl,show Nat.min (n+1 - i) (n - i)=n - i from Nat.min_eq_right (by omega)];rfl)
 have HL3:=hid (show (i+1)*2+(pairK.rows (l.drop i)).length≤c*pairK.k by rw[hrl];show _≤c*2;omega)
 have H1R:=hid (pairK.rows_one (l.drop i))
 have hvs:=hid (fun (j:Nat) (v:Value) (hj:(pairK.row p)[j]? = some v)=>show w.drew.cell? ((⟨vb,0,none⟩:Addr).add j)=some v by
  rw[Addr.add_lit,Nat.zero_add]
  exact(cell_of_row w vb j _ _ _ hb).trans (by simpa [pairK] using hj))
 have hvl:vb<w.heap.size:=(Array.getElem?_eq_some_iff.1 hb).1
 have HB:=hid hb
 have HL:=hid hrl
 have hge:=hid hR.ge
 clear hb h hov hR hxs hrl
 have hz2:((i:Int) == (n:Int))=false:=by simp;omega
 have hb2:¬ (c=i+1):=by omega
 have hb4:¬ (c=i):=by omega
 have hb1:(0:Int)≤(i:Int)+1:=by omega
 have htn:((i:Int)+1).toNat=i+1:=by omega
 have hb3:(i:Int)≤(n:Int)+1:=by omega
 have hll':=hid hll
 clear hll
 have hov:=h1.out
 have hin:i≤n:=Nat.le_of_lt hi
 have hin1:i≤n+1:=by omega
 have hw1:IntKind.i64.wrap ((i:Int)+1)=(i:Int)+1:=by rw[IntKind.wrap_i64];omega
 go_enter Tryz.func216,Tryz.ntmps216
 go_wp2_with (simp only[hov])
 go_region_law ((refine step_copyK pairK (by rfl) (.tmp 73) (.tmp 76) _ _ (by rfl) (by rfl) base g c ((i+1)*2) xs (n - i) (c - (i+1)) ⟨g,i*2,none⟩ (n+1 - i) (c - i) (by simp[Act.eval,Act.put]) (by simp[Act.eval,Act.put]) hR0.out.drew (pairK.rows (l.drop i)) HL2.out hsrc1.out HL3.out H1R.out ?_);intro w1 hr1 hg1)
 have HR1:=hid hr1
 have HG1:=hid hg1
 clear hr1 hg1 hw1 hov
 have hvs1:=hid (fun (j:Nat) (v:Value) (hj:(pairK.row p)[j]? = some v)=>show w1.cell? ((⟨vb,0,none⟩:Addr).add j)=some v by
  rw[only_cell HG1.out (by rw[addr_block];exact hvl) (by rw[addr_block];exact hne)]
  exact hvs.out j v hj)
 obtain⟨w2,hrun,hr2,hg2⟩:=copy_row pairK HR1.out 28 3 (i*2) (n+1 - i) (c - i) ⟨vb,0,none⟩ 1 1 (pairK.row p) (by rw[show Nat.min 1 (n+1 - i)=1 from Nat.min_eq_left (by omega)];rfl) hvs1.out (by show i*2+2≤c*2;omega) (pairK.one _)
 have hrun:(Builtin.copy_ #[28, 28] 3 #[.slice (some ⟨g,i*2,none⟩) (n+1 - i) (c - i),.slice (some ⟨vb,0,none⟩) 1 1]).run Tryz.prog w1=.ok (goInt (Nat.min 1 (n+1 - i))) w2:=hrun
 have hr2:=hid hr2
 have hg2:=hid hg2
 go_wp2_with (simp only[hrun])
 go_ret
 refine⟨_,_,rfl,hr2.out.own hroom ?_,?_⟩
 · exact shift_list pairK l p xs i n c (Nat.le_of_lt hi) hll'.out hroom hX.out HX.out
 · exact(below_grown ((only_drew (only_refl w g)).trans (HG1.out.trans hg2.out)) (by have:=hge.out;omega) (fun k hk=>by injection hk with hk;have:=hge.out;omega))
theorem insert_grow (base g n c i:Nat)(l:List Pr)(p:Pr)(vb:Nat)(w:World)(h:OwnK pairK w base (some ⟨g,0,none⟩) n c l)(hb:w.heap[vb]? = some (.cells #[.string p.key,.string p.val] 75 (0,0)))(hi:i<n)(hroom:c<n+1)(hn:(n+1)*32≤140737488355328)(hbase:base≤w.heap.size) :
  Calls Tryz.prog 216 #[.slice (some ⟨g,0,none⟩) n c,.int .i64 i,.slice (some ⟨vb,0,none⟩) 1 1] w fun e w'=>RetB pairK w base (n+1) (l.take i++p :: l.drop i) e w':=by
 have hcap:=h.cap
 have hle:=h.le
 unfold maxLen at hcap
 have hll:=h.len
 have hgw:=h.block_lt.2
 have hvl:vb<w.heap.size:=(Array.getElem?_eq_some_iff.1 hb).1
 have hlt:=hid (show (pairK.rows (l.take i)).length=i*pairK.k by rw[pairK.rows_len,List.length_take,hll,Nat.min_eq_left (Nat.le_of_lt hi)])
 have hcell:∀ j v,(pairK.rows l)[j]? = some v→w.cell? ⟨g,j,none⟩=some v:=fun j v hj=>by
  have hjl:=(List.getElem?_eq_some_iff.1 hj).1
  rw[pairK.rows_len,hll] at hjl
  rw[World.ownsRow.cellAt h j hjl];exact hj
 have hold:=hid (fun (j:Nat) (v:Value) (hj:(pairK.rows (l.take i))[j]? = some v)=>show w.cell? ((⟨g,0,none⟩:Addr).add j)=some v by
  rw[Addr.add_lit,Nat.zero_add]
  rw[pairK.rows_take,List.getElem?_take] at hj
  split at hj
  · exact hcell j v hj
  · cases hj)
 have hrest:=hid (fun (j:Nat) (v:Value) (hj:(pairK.rows (l.drop i))[j]? = some v)=>show w.cell? ((⟨g,i*2,none⟩:Addr).add j)=some v by
  rw[Addr.add_lit]
  rw[pairK.rows_drop,List.getElem?_drop] at hj
  exact hcell _ v hj)
 have hrl:=hid (show (pairK.rows (l.drop i)).length=(n - i)*2 by rw[pairK.rows_len,List.length_drop,hll];rfl)
 have hvs:=hid (fun (j:Nat) (v:Value) (hj:(pairK.row p)[j]? = some v)=>show w.cell? ((⟨vb,0,none⟩:Addr).add j)=some v by
  rw[Addr.add_lit,Nat.zero_add]
  exact(cell_of_row w vb j _ _ _ hb).trans (by simpa [pairK] using hj))
 have hll':=hid hll
 clear hb h hll hcell
 have hz2:((i:Int) == (n:Int))=false:=by simp;omega
 have hz3:(c:Int)<(n:Int)+1:=by omega
 have hci:¬ (c=i):=by omega
 have hb1:(0:Int)≤(i:Int)+1:=by omega
 have htn:((i:Int)+1).toNat=i+1:=by omega
 have hb3:(i:Int)≤(n:Int)+1:=by omega
 have hin:i≤n:=Nat.le_of_lt hi
 have hin1:i≤n+1:=by omega
 have hw1:IntKind.i64.wrap ((i:Int)+1)=(i:Int)+1:=by rw[IntKind.wrap_i64];omega
 go_enter Tryz.func216,Tryz.ntmps216
 go_wp2_with (at_builtin
              refine wpl_zerosK pairK rfl (.tmp 34) (.tmp 39) 28 3 rfl Tryz.underlying3 rfl base ⟨g,0,none⟩ i c (n+1 - i) (n+1) (by omega) ((n:Int)+1 - i) (by omega) rfl rfl (pairK.rows (l.take i)) hlt.out hold.out (by omega) (by omega) (by rw[show i+(n+1 - i)=n+1 by omega];exact hn) hbase ?_
              intro G w1 xs hr1 ht1 hG q1 hGm hs1
              have hr1:=hid hr1
              have ht1:=hid ht1
              have hs1:=hid hs1
              unfold maxLen at hGm
              have hGi:¬ (G=i):=by omega
              have hGi1:¬ (G=i+1):=by omega)
 have Q1:=hid q1
 have hgH:w.heap.size≠vb:=by omega
 have hgG:w.heap.size≠g:=by omega
 have hvs1:=hid (fun (j:Nat) (v:Value) (hj:(pairK.row p)[j]? = some v)=>show w1.cell? ((⟨vb,0,none⟩:Addr).add j)=some v from (q1.below.cell (by rw[addr_block];exact hvl)).trans (hvs.out j v hj))
 clear q1
 obtain⟨w2,hrun,hr2,hg2⟩:=copy_row pairK hr1.out 28 3 (i*2) (n+1 - i) (G - i) ⟨vb,0,none⟩ 1 1 (pairK.row p) (by rw[show Nat.min 1 (n+1 - i)=1 from Nat.min_eq_left (by omega)];rfl) hvs1.out (by show i*2+2≤G*2;omega) (pairK.one _)
 have hrun:(Builtin.copy_ #[28, 28] 3 #[.slice (some ⟨w.heap.size,i*2,none⟩) (n+1 - i) (G - i),.slice (some ⟨vb,0,none⟩) 1 1]).run Tryz.prog w1=.ok (goInt (Nat.min 1 (n+1 - i))) w2:=hrun
 have hr2:=hid hr2
 have hg2:=hid hg2
 have hrest2:=hid (fun (j:Nat) (v:Value) (hj:(pairK.rows (l.drop i))[j]? = some v)=>show w2.drew.cell? ((⟨g,i*2,none⟩:Addr).add j)=some v from
   (only_cell hg2.out (p:=(⟨g,i*2,none⟩:Addr).add j) (by rw[addr_block];show g<_;have:=hs1.out;omega) (by rw[addr_block];exact fun e=>hgG e.symm)).trans ((Q1.out.below.cell (by rw[addr_block];exact hgw)).trans (hrest.out j v hj)))
 have HL2:=hid (show (pairK.rows (l.drop i)).length=Nat.min (n - i) (n - i)*pairK.k by rw[hrl.out,show Nat.min (n - i) (n - i)=n - i from Nat.min_self _];rfl)
 have HL3:=hid (show (i+1)*2+(pairK.rows (l.drop i)).length≤G*pairK.k by rw[hrl.out];show _≤G*2;omega)
 have H1R:=hid (pairK.rows_one (l.drop i))
 go_wp2_with (simp only[hrun])
 clear hrun
 go_region_law ((refine step_copyK pairK (by rfl) (.tmp 50) (.tmp 53) _ _ (by rfl) (by rfl) base w.heap.size G ((i+1)*2) _ (n - i) (G - (i+1)) ⟨g,i*2,none⟩ (n - i) (c - i) (by simp[Act.eval,Act.put]) (by simp[Act.eval,Act.put]) hr2.out.drew (pairK.rows (l.drop i)) HL2.out hrest2.out HL3.out H1R.out ?_);intro w3 hr3 hg3)
 have hr3:=hid hr3
 have hg3:=hid hg3
 go_wp2
 go_ret
 refine⟨_,_,rfl,hr3.out.own hG ?_,?_⟩
 · exact grow_list pairK l p xs i n G (Nat.le_of_lt hi) hll'.out hG hr1.out.len ht1.out
 · have g2:=only_drew hg2.out
   exact((Q1.out.below.mono hbase).trans (below_grown (g2.trans hg3.out) (by have:=hs1.out;omega) (fun k hk=>by injection hk with hk;omega)))
end
section
open Go.RowKit Prm
theorem zero_pair:∀ W,(zeroValue pairK.T).run Tryz.prog W=.ok pairK.z W:=by
 obtain⟨t,hi,hz,hs,hy⟩:=info_parts pairK.info
 intro W
 simp[zeroValue,typeInfo,hi,hz]
def keep (key:ByteArray)(p:Pr):Bool:=!hasK key p
theorem drop_all {key:ByteArray}{l:List Pr}(h:∀ a∈l,hasK key a=false):drop l key=l:=by
 unfold drop
 exact List.filter_eq_self.2 fun a ha=>by rw[h a ha];rfl
theorem filter_first {key:ByteArray}{l:List Pr}{k:Nat}(hk:k<l.length)(h:hasK key l[k]=true)(hf:∀ j,∀ hj:j<l.length,j<k→hasK key l[j]=false):(l.take (k+1)).filter (keep key)=l.take k:=by
 rw[List.take_succ_eq_append_getElem hk,List.filter_append]
 have h1:(l.take k).filter (keep key)=l.take k:=List.filter_eq_self.2 fun a ha=>by
  obtain⟨j,hj,rfl⟩:=List.mem_iff_getElem.1 ha
  rw[List.length_take] at hj
  rw[List.getElem_take,keep,hf j (by omega) (by omega)];rfl
 rw[h1,List.filter_cons,keep,h];simp
theorem filter_keep {key:ByteArray}{l cur:List Pr}{a b:Nat}(hb:b<l.length)(hab:a<b)(hc:cur.length=l.length)(h1:cur.take a=(l.take b).filter (keep key))(h2:cur.drop b=l.drop b)(hk:hasK key l[b]=false) :
  (cur.set a l[b]).take (a+1)=(l.take (b+1)).filter (keep key)∧(cur.set a l[b]).drop (b+1)=l.drop (b+1):=by
 constructor
 · rw[List.take_succ_eq_append_getElem (by simp;omega),List.take_set_of_le (Nat.le_refl _),h1,List.getElem_set_self,List.take_succ_eq_append_getElem hb,List.filter_append,List.filter_cons,keep,hk]
   simp
 · rw[List.drop_set_of_lt (by omega),←List.drop_drop,←List.drop_drop,h2]
theorem filter_skip {key:ByteArray}{l cur:List Pr}{a b:Nat}(hb:b<l.length)(h1:cur.take a=(l.take b).filter (keep key))(h2:cur.drop b=l.drop b)(hk:hasK key l[b]=true) :
  cur.take a=(l.take (b+1)).filter (keep key)∧cur.drop (b+1)=l.drop (b+1):=by
 constructor
 · rw[h1,List.take_succ_eq_append_getElem hb,List.filter_append,List.filter_cons,keep,hk];simp
 · rw[←List.drop_drop,←List.drop_drop,h2]
theorem deleteFunc (key:ByteArray)(B base:Nat)(A:Option Addr)(n c:Nat)(l:List Pr)(w:World)(h:OwnK pairK w base A n c l)(hB:B<w.heap.size)(hc:w.cell? ⟨B,0,none⟩=some (.string key))(hne:∀ g,A=some ⟨g,0,none⟩→B≠g)(hbase:base≤w.heap.size) :
  Calls Tryz.prog 214 #[.slice A n c,.func (.func 213) #[] #[.pointer (some ⟨B,0,none⟩)]] w fun e w'=>RetB pairK w base (drop l key).length (drop l key) e w':=by
 have HO:=hid h
 have HC:=hid hc
 have hcap:=h.cap
 have hle:=h.le
 have HM:=hid (Nat.le_trans hle hcap)
 unfold maxLen at hcap
 rcases idx_cases (hasK key) l 0 with ⟨hp,hall⟩ | ⟨k,hk,hp,hkn,hfirst⟩
 · have HP:=hid hp
   rw[drop_all hall]
   have HL:=hid h.len
   clear hp hall h hc
   go_enter Tryz.func214,Tryz.ntmps214
   go_wp2_with fail
   refine(pindexFunc _ _ key (fun p B w=>has1 p key B w) (.inl rfl) B A n c l _ hB HC.out HO.out.lst HM.out).mono ?_
   rintro e w1 ⟨rfl,q1⟩
   rw[HP.out]
   go_wp2
   go_ret
   exact⟨A,c,by rw[HL.out];rfl,by rw[HL.out];exact HO.out.q q1,q1.below.mono hbase⟩
 · have HP:=hid (hp.trans (by simp:((0+k:Nat):Int)=(k:Int)))
   have HF:=hid (filter_first hk hkn hfirst)
   have hkl:k<n:=by have:=h.len;omega
   obtain⟨g,rfl⟩:∃ g,A=some ⟨g,0,none⟩:=by
    rcases h.parts with ⟨_,e,_⟩ | ⟨g,cur,rfl,_⟩
    · omega
    · exact⟨g,rfl⟩
   have hbg:=hne g rfl
   have HL:=hid h.len
   have hgb:=hid h.block_lt
   clear hp hkn hfirst h hc hk hne
   have hk1:((k:Int) == -1)=false:=by simp
   go_enter Tryz.func214,Tryz.ntmps214
   go_wp2_with fail
   refine(pindexFunc _ _ key (fun p B w=>has1 p key B w) (.inl rfl) B (some ⟨g,0,none⟩) n c l _ hB HC.out HO.out.lst HM.out).mono ?_
   rintro e w1 ⟨rfl,q1⟩
   rw[HP.out]
   have Q1:=hid q1
   clear q1
   go_wp2
   go_loopw [5,6] (fun i j wr=>∃ (a b:Nat) (cur:List Pr),i=.int .i64 a∧j=.int .i64 b∧a<b∧b≤n∧OwnK pairK wr base (some ⟨g,0,none⟩) n c cur∧cur.take a=(l.take b).filter (keep key)∧cur.drop b=l.drop b∧Below base w wr∧wr.cell? ⟨B,0,none⟩=some (.string key)) (fun _ j _=>n - (intOf j).toNat)
   case atStart=>exact⟨k,k+1,l,rfl,by go_num,Nat.lt_succ_self k,hkl,HO.out.q Q1.out,HF.out.symm,rfl,Q1.out.below.mono hbase,(Q1.out.below.cell (p:=⟨B,0,none⟩) hB).trans HC.out⟩
   case round =>
    obtain⟨a,b,cur,rfl,rfl,hab,hbn,ho,h1,h2,hbl,hcl⟩:=hrel
    have H1:=hid h1
    have H2:=hid h2
    have HOr:=hid ho
    have HBl:=hid hbl
    have HCl:=hid hcl
    have hBr:=block_lt_of_cell hcl
    have hgr:=ho.block_lt
    have hcl':=ho.len
    have HCu:=hid hcl'
    clear h1 h2 ho hbl hcl
    by_cases hlt:b<n
    · have hbl':b<l.length:=by have:=HL.out;omega
      have hbc:b<cur.length:=by omega
      have hac:a<cur.length:=by omega
      have he:cur[b]=l[b]:=by
       have e1:(cur.drop b)[0]? = (l.drop b)[0]?:=by rw[H2.out]
       rw[List.getElem?_drop,List.getElem?_drop,Nat.add_zero,List.getElem?_eq_getElem hbc,List.getElem?_eq_getElem hbl'] at e1
       exact Option.some.inj e1
      have c0:=HOr.out.cells hbc 0 _ rfl
      have c1:=HOr.out.cells hbc 1 _ rfl
      rw[he] at c0 c1
      have HE:=hid he
      have c0:wr.cell? ⟨g,b*2,none⟩=some (.string l[b].key):=c0
      have c1:wr.cell? ⟨g,b*2+1,none⟩=some (.string l[b].val):=c1
      have hbi:(b:Int)<(n:Int):=by omega
      clear he hcl'
      go_wp2_with fail
      refine(has1 l[b] key B _ (by simp;omega) (box_ ((Q.refl _).alloc _) HCl.out)).mono ?_
      rintro e w2 ⟨rfl,q2⟩
      have O2:=hid ((HOr.out.alloc (.cells #[.string l[b].key,.string l[b].val] 75)).q q2)
      have B2:=hid ((HBl.out.alloc (by have:=HBl.out.size;omega) (.cells #[.string l[b].key,.string l[b].val] 75)).trans (q2.below.mono (by simp;have:=HBl.out.size;omega)))
      have C2:=hid (box_ (((Q.refl wr).alloc (.cells #[.string l[b].key,.string l[b].val] 75)).trans q2) HCl.out)
      obtain⟨x0,x1⟩:w2.cell? ⟨wr.heap.size,0,none⟩=some (.string l[b].key)∧w2.cell? ⟨wr.heap.size,1,none⟩=some (.string l[b].val):=⟨box_ q2 (by simp),box_ q2 (by simp)⟩
      have ac0:w2.cell? ⟨g,a*2,none⟩=some (.string cur[a].key):=O2.out.cells hac 0 _ rfl
      have ac1:w2.cell? ⟨g,a*2+1,none⟩=some (.string cur[a].val):=O2.out.cells hac 1 _ rfl
      have f0:w2.frozen? ⟨g,a*2,none⟩=false:=O2.out.free _
      have f1:w2.frozen? ⟨g,a*2+1,none⟩=false:=O2.out.free _
      have hai:(a:Int)<(n:Int):=by omega
      clear q2 c0 c1
      by_cases hh:hasK key l[b]=true
      · have HS:=hid (filter_skip hbl' H1.out H2.out hh)
        go_wp2
        go_roundw
        case rel=>exact⟨a,b+1,cur,rfl,by go_num,by omega,by omega,O2.out,HS.out.1,HS.out.2,B2.out,C2.out⟩
        case measure=>simp[intOf];omega
      · have hf:hasK key l[b]=false:=by simpa using hh
        have HS:=hid (filter_keep hbl' hab (HCu.out.trans HL.out.symm) H1.out H2.out hf)
        have O3:=hid (O2.out.put hac l[b])
        have B3:=hid (O2.out.below_set B2.out (pairK.row l[b]) (a*2))
        have hgB:(⟨g,a*2,none⟩:Addr)≠⟨B,0,none⟩:=by intro e;injection e with e;exact hbg e.symm
        have hgB1:(⟨g,a*2+1,none⟩:Addr)≠⟨B,0,none⟩:=by intro e;injection e with e;exact hbg e.symm
        have C3:=hid (show ((w2.setCell ⟨g,a*2,none⟩ (.string l[b].key)).setCell ⟨g,a*2+1,none⟩ (.string l[b].val)).cell? ⟨B,0,none⟩=some (.string key) by
         rw[World.cell?_setCell_other _ _ _ _ hgB1,World.cell?_setCell_other _ _ _ _ hgB];exact C2.out)
        clear hh
        go_wp2
        go_roundw
        case rel=>exact⟨a+1,b+1,cur.set a l[b],by go_num,by go_num,by omega,by omega,O3.out,HS.out.1,HS.out.2,B3.out,C3.out⟩
        case measure=>simp[intOf];omega
    · have hbn':b=n:=by omega
      have HBN:=hid hbn'
      have HLD:=hid (show drop l key=cur.take a by rw[H1.out,hbn',←HL.out,List.take_length];rfl)
      have HLA:=hid (show (drop l key).length=a by rw[HLD.out,List.length_take,hcl',Nat.min_eq_left (by omega)])
      obtain⟨xs,hr,hx⟩:=HOr.out.row
      obtain⟨zs,hzl,hcl⟩:=run_clearK pairK hr (fun u hu=>by simp[pairK,Value.cells] at hu;rcases hu with rfl | rfl<;>rfl) zero_pair 0 (a*2) (n - a) 0 (by omega) (by show a*2+(n - a)*2≤c*2;omega)
      have hcl:=hcl (c - a)
      have hcl:(Builtin.clear_ #[28] 0 #[.slice (some ⟨g,a*2,none⟩) (n - a) (c - a)]).run Tryz.prog wr=.ok (.tuple #[]) (wr.setCells g (a*2) zs):=hcl
      have HZ:=hid hzl
      have HR:=hid hr
      have HX:=hid hx
      have hca:¬ (c=a):=by omega
      have han:a≤n:=by omega
      have hac2:a≤c:=by omega
      have B3:=hid (HOr.out.below_set HBl.out zs (a*2))
      generalize hW:wr.setCells g (a*2) zs=W3 at hcl B3
      have HW:=hid hW
      clear hr hx hzl hW hbn' hcl'
      go_wp2_with (simp only[hcl])
      go_ret
      refine⟨_,c,by rw[HLA.out];rfl,?_,B3.out⟩
      rw[HLA.out,HLD.out,←HW.out]
      have h1:=HR.out.sets (a*2) zs (by rw[HZ.out];show a*2+(n - a)*2≤c*2;omega)
      refine h1.own hac2 ?_
      have h2:(xs.take (a*2)).length=a*pairK.k:=by rw[List.length_take,HR.out.len];show min (a*2) (c*2)=a*2;omega
      rw[List.append_assoc,List.take_left' h2,pairK.rows_take,←HX.out,List.take_take]
      congr 1
      show a*2=min (a*2) (n*2)
      omega
end
section
open Go.RowKit Prm
theorem act_put {l:List Pr}{w:Wr}(h:w.del=false):act l w=put l ⟨w.key,w.val⟩:=by unfold act;rw[h];rfl
theorem act_drop {l:List Pr}{w:Wr}(h:w.del=true):act l w=drop l w.key:=by unfold act;rw[h];rfl
theorem lit_pair (w:World)(p:Pr):Lst pairK (w.alloc (.cells #[.string p.key,.string p.val] 75)) (some ⟨w.heap.size,0,none⟩) 1 [p]:=(OwnK.lit1 pairK w 0 (Nat.zero_le _) p).lst
theorem lit_write (w:World)(p:Wr):In_ writeK (w.alloc (.cells #[.string p.key,.string p.val,.bool p.del] 73)) (some ⟨w.heap.size,0,none⟩) 1 1 [p]:=
 ⟨(OwnK.lit1 writeK w 0 (Nat.zero_le _) p).lst,fun e=>by (cases e),Nat.le_refl _,by unfold maxLen;omega,by show 1*40≤_;omega⟩
theorem alloc3_mid (w:World)(o1:Obj)(cs:Array Value)(t:TypeId)(o3:Obj):(((w.alloc o1).alloc (.cells cs t)).alloc o3).heap[w.heap.size+1]? = some (.cells cs t (0,0)):=by
 rw[heap_alloc_old _ _ (by simp)]
 have:=heap_alloc_new (w.alloc o1) (.cells cs t)
 simpa using this
def PutNew (base:Nat)(A:Option Addr)(n c:Nat)(l:List Pr)(p:Pr)(at_:Int):Prop:=
  ∀ (W:World) (vb:Nat),OwnK pairK W base A n c l→W.heap[vb]? = some (.cells #[.string p.key,.string p.val] 75 (0,0))→(∀ g,A=some ⟨g,0,none⟩→vb≠g)→base≤W.heap.size →
    Calls Tryz.prog 216 #[.slice A n c,.int .i64 at_,.slice (some ⟨vb,0,none⟩) 1 1] W fun e w'=>RetB pairK W base (n+1) (put l p) e w'
theorem put_new_end {base:Nat}{A:Option Addr}{n c:Nat}{l:List Pr}{p:Pr}(hl:l.length=n)(hn:(n+1)*32≤140737488355328)(hall:∀ a∈l,hasK p.key a=false)(ha:∀ a∈l,aboveK p.key a=false):PutNew base A n c l p n:=by
 intro W vb ho hv hne hb
 have e:put l p=l++[p]:=by
  rw[put_new hall,ins_at (i:=l.length) (Nat.le_refl _) (fun h=>absurd h (Nat.lt_irrefl _)) (fun j hj _=>ha _ (List.getElem_mem hj))];simp
 rw[e]
 refine insert_end base A n c l p vb W ho ?_ hn hb
 refine⟨by simp[Kind.rows,pairK],fun j u hu=>⟨_,rfl,(Array.getElem?_eq_some_iff.1 hv).1,?_⟩⟩
 rw[Addr.add_lit,Nat.zero_add]
 exact(cell_of_row W vb j _ _ _ hv).trans (by simpa [Kind.rows,pairK] using hu)
theorem put_new_mid {base:Nat}{A:Option Addr}{n c:Nat}{l:List Pr}{p:Pr}{i:Nat}(hl:l.length=n)(hn:(n+1)*32≤140737488355328)(hall:∀ a∈l,hasK p.key a=false)(hi:i<l.length)(hia:aboveK p.key l[i]=true)(hf:∀ j,∀ hj:j<l.length,j<i→aboveK p.key l[j]=false):PutNew base A n c l p i:=by
 intro W vb ho hv hne hb
 have e:put l p=l.take i++p :: l.drop i:=by rw[put_new hall,ins_at (Nat.le_of_lt hi) (fun _=>hia) hf]
 rw[e]
 obtain⟨g,rfl⟩:∃ g,A=some ⟨g,0,none⟩:=by
  rcases ho.parts with ⟨_,e,_⟩ | ⟨g,cur,rfl,_⟩
  · omega
  · exact⟨g,rfl⟩
 by_cases hr:n+1≤c
 · exact insert_shift base g n c i l p vb W ho hv (hne g rfl) (by omega) hr
 · exact insert_grow base g n c i l p vb W ho hv (by omega) (by omega) hn hb
theorem deed_put_new (key val:ByteArray)(del:Bool)(base:Nat)(A:Option Addr)(n c:Nat)(l:List Pr)(w:World)(h:OwnK pairK w base A n c l)(hn:(n+1)*32≤140737488355328)(hbase:base≤w.heap.size)(hall:∀ a∈l,hasK key a=false)(ix:Int)
  (hix:idx (aboveK key) l 0=ix) (at_:Int) (hat:(ix<0∧at_=n)∨(0≤ix∧at_=ix)) (hput:PutNew base A n c l ⟨key,val⟩ at_) :
  Calls Tryz.prog 201 #[.agg #[.string key,.string val,.bool del],.slice A n c] w fun e w'=>RetB pairK w base (n+1) (put l ⟨key,val⟩) e w':=by
 have HO:=hid h
 have hp:idx (hasK key) l 0=-1:=(idx_cases (hasK key) l 0).elim (fun h=>h.1) (fun ⟨k,hk,_,e,_⟩=>by rw[hall _ (List.getElem_mem hk)] at e;cases e)
 have hcap:=h.cap
 have hle:=h.le
 have hgl:=fun g (e:A=some ⟨g,0,none⟩)=>(show g<w.heap.size from (by subst e;exact h.block_lt.2))
 have HM:=Nat.le_trans hle hcap
 unfold maxLen at hcap
 have W1:Q w (((w.alloc (.cells #[.string key,.string val,.bool del] 255)).alloc (.cells #[.string key,.string val] 75)).alloc (.cells #[.string key] 9)):=(((Q.refl w).alloc _).alloc _).alloc _
 have K1:=pindexFunc _ _ key (fun p B w=>has1 p key B w) (.inl rfl) (w.heap.size+1+1) A n c l (((w.alloc (.cells #[.string key,.string val,.bool del] 255)).alloc (.cells #[.string key,.string val] 75)).alloc (.cells #[.string key] 9)) (by simp) (by simp[World.cell?_alloc_at,World.cell?_alloc_past]) (h.lst.q W1) HM
 rw[hp] at K1
 have K1:=hid K1
 have HW:=hid W1
 have HX:=hid hix
 have HP:=hid hput
 have HG:=hid hgl
 have HM:=hid HM
 have hPb:Hid ((((w.alloc (.cells #[.string key,.string val,.bool del] 255)).alloc (.cells #[.string key,.string val] 75)).alloc (.cells #[.string key] 9)).heap[w.heap.size+1]? = some (.cells #[.string key,.string val] 75 (0,0))):=hid (alloc3_mid _ _ _ _ _)
 clear h hp hall hix hput hgl W1
 go_enter Tryz.func201,Tryz.ntmps201
 go_wp2_with fail
 refine(thas_any key _).mono ?_
 rintro e w1 ⟨rfl,rfl⟩
 go_wp2_with fail
 refine K1.out.mono ?_
 rintro e w2 ⟨rfl,q2⟩
 have Q2:=hid (HW.out.trans q2)
 have hk0:w2.cell? ⟨w.heap.size,0,none⟩=some (.string key):=box_ ((((Q.refl (w.alloc (.cells #[.string key,.string val,.bool del] 255))).alloc _).alloc _).trans q2) (by simp)
 have hP2:=hid ((q2.below.block _ (by simp)).trans hPb.out)
 have hs2:=hid (show w.heap.size+3≤w2.heap.size by have:=q2.size;simp at this;omega)
 clear q2
 have K2:=pindexFunc _ _ key (fun p B w=>above1 p key B w) (.inr rfl) w2.heap.size A n c l (w2.alloc (.cells #[.string key] 9)) (by simp) (by simp[World.cell?_alloc_at,World.cell?_alloc_past]) (HO.out.lst.q (Q2.out.alloc _)) HM.out
 rw[HX.out] at K2
 have K2:=hid K2
 go_wp2_with fail
 refine(above_any key _).mono ?_
 rintro e w3 ⟨rfl,rfl⟩
 go_wp2_with fail
 refine K2.out.mono ?_
 rintro e w4 ⟨rfl,q4⟩
 have Q4:=hid ((Q2.out.alloc _).trans q4)
 have q24:=((Q.refl w2).alloc (.cells #[.string key] 9)).trans q4
 have hp0:w4.cell? ⟨w.heap.size+1,0,none⟩=some (.string key):=(q24.below.cell (p:=⟨w.heap.size+1,0,none⟩) (by show w.heap.size+1<_;have:=hs2.out;omega)).trans (cell_of_row w2 _ 0 _ _ _ hP2.out)
 have hp1:w4.cell? ⟨w.heap.size+1,1,none⟩=some (.string val):=(q24.below.cell (p:=⟨w.heap.size+1,1,none⟩) (by show w.heap.size+1<_;have:=hs2.out;omega)).trans (cell_of_row w2 _ 1 _ _ _ hP2.out)
 have hz:=hid (Q4.out.size)
 have K3:=HP.out (w4.alloc (.cells #[.string key,.string val] 75)) w4.heap.size (HO.out.q (Q4.out.alloc _)) (heap_alloc_new w4 _) (fun g e=>by have h1:=HG.out g e;have h2:=hz.out;omega) (by have h2:=hz.out;simp;omega)
 have K3:=hid K3
 clear hk0 q4 q24
 rcases hat with ⟨h1,h2⟩ | ⟨h1,h2⟩
 all_goals
   have H2:=hid h2
   clear h2
   go_wp2_with fail
   rw[←H2.out]
   refine K3.out.mono ?_
   rintro e w5 ⟨A5,c5,rfl,o5,b5⟩
   go_wp2
   go_ret
   exact⟨A5,c5,rfl,o5,((Q4.out.alloc _).below.mono hbase).trans b5⟩
theorem deed_put_has (key val:ByteArray)(del:Bool)(base:Nat)(A:Option Addr)(n c:Nat)(l:List Pr)(w:World)(h:OwnK pairK w base A n c l)(hbase:base≤w.heap.size)(k:Nat)(hk:k<l.length)(hkn:hasK key l[k]=true)(hp:idx (hasK key) l 0=k) :
  Calls Tryz.prog 201 #[.agg #[.string key,.string val,.bool del],.slice A n c] w fun e w'=>RetB pairK w base n (l.set k ⟨key,val⟩) e w':=by
 have HO:=hid h
 have HL:=hid h.len
 have hcap:=h.cap
 have hle:=h.le
 have hkn':k<n:=by have:=h.len;omega
 have HM:=Nat.le_trans hle hcap
 unfold maxLen at hcap
 obtain⟨g,rfl⟩:∃ g,A=some ⟨g,0,none⟩:=by
  rcases h.parts with ⟨_,e,_⟩ | ⟨g,cur,rfl,_⟩
  · omega
  · exact⟨g,rfl⟩
 have hgb:=h.block_lt
 have W1:Q w (((w.alloc (.cells #[.string key,.string val,.bool del] 255)).alloc (.cells #[.string key,.string val] 75)).alloc (.cells #[.string key] 9)):=(((Q.refl w).alloc _).alloc _).alloc _
 have K1:=pindexFunc _ _ key (fun p B w=>has1 p key B w) (.inl rfl) (w.heap.size+1+1) (some ⟨g,0,none⟩) n c l (((w.alloc (.cells #[.string key,.string val,.bool del] 255)).alloc (.cells #[.string key,.string val] 75)).alloc (.cells #[.string key] 9)) (by simp) (by simp[World.cell?_alloc_at,World.cell?_alloc_past]) (h.lst.q W1) HM
 rw[hp] at K1
 have K1:=hid K1
 have HW:=hid W1
 have HM:=hid HM
 clear h hp hkn W1
 go_enter Tryz.func201,Tryz.ntmps201
 go_wp2_with fail
 refine(thas_any key _).mono ?_
 rintro e w1 ⟨rfl,rfl⟩
 go_wp2_with fail
 refine K1.out.mono ?_
 rintro e w2 ⟨rfl,q2⟩
 have Q2:=hid (HW.out.trans q2)
 obtain⟨x0,x1⟩:w2.cell? ⟨w.heap.size+1,0,none⟩=some (.string key)∧w2.cell? ⟨w.heap.size+1,1,none⟩=some (.string val):=⟨box_ q2 (by simp[World.cell?_alloc_at,World.cell?_alloc_past]),box_ q2 (by simp[World.cell?_alloc_at,World.cell?_alloc_past])⟩
 have O2:=hid (HO.out.q Q2.out)
 have ac0:w2.cell? ⟨g,k*2,none⟩=some (.string l[k].key):=O2.out.cells hk 0 _ rfl
 have ac1:w2.cell? ⟨g,k*2+1,none⟩=some (.string l[k].val):=O2.out.cells hk 1 _ rfl
 have f0:w2.frozen? ⟨g,k*2,none⟩=false:=O2.out.free _
 have f1:w2.frozen? ⟨g,k*2+1,none⟩=false:=O2.out.free _
 have O3:=hid (O2.out.put hk ⟨key,val⟩)
 have B3:=hid (O2.out.below_set (Q2.out.below.mono hbase) (pairK.row ⟨key,val⟩) (k*2))
 have hki:(k:Int)<(n:Int):=by omega
 clear q2
 go_wp2
 go_ret
 exact⟨_,c,rfl,O3.out,B3.out⟩
theorem deed_put (x:Wr)(base:Nat)(A:Option Addr)(n c:Nat)(l:List Pr)(w:World)(h:OwnK pairK w base A n c l)(hn:(n+1)*32≤140737488355328)(hbase:base≤w.heap.size) :
  Calls Tryz.prog 201 #[x.v,.slice A n c] w fun e w'=>RetB pairK w base (put l ⟨x.key,x.val⟩).length (put l ⟨x.key,x.val⟩) e w':=by
 obtain⟨key,val,del⟩:=x
 have hl:=h.len
 rcases idx_cases (hasK key) l 0 with ⟨hp,hall⟩ | ⟨k,hk,hp,hkn,hfirst⟩
 · have e:(put l (⟨key,val⟩:Pr)).length=n+1:=by rw[put_new (p:=⟨key,val⟩) hall,ins_len,hl]
   simp only[e]
   rcases idx_cases (aboveK key) l 0 with ⟨hq,halla⟩ | ⟨i,hi,hq,hia,hfa⟩
   · exact deed_put_new key val del base A n c l w h hn hbase hall (-1) hq n (.inl ⟨by omega,rfl⟩) (put_new_end hl hn hall halla)
   · exact deed_put_new key val del base A n c l w h hn hbase hall _ (hq.trans (by simp:((0+i:Nat):Int)=(i:Int))) i (.inr ⟨by omega,rfl⟩) (put_new_mid hl hn hall hi hia hfa)
 · have e:put l (⟨key,val⟩:Pr)=l.set k ⟨key,val⟩:=put_has (p:=⟨key,val⟩) hk hkn hfirst
   have e2:(put l (⟨key,val⟩:Pr)).length=n:=by rw[e,List.length_set,hl]
   simp only[e2]
   rw[e]
   exact deed_put_has key val del base A n c l w h hbase k hk hkn (hp.trans (by simp))
theorem deed_drop (x:Wr)(base:Nat)(A:Option Addr)(n c:Nat)(l:List Pr)(w:World)(h:OwnK pairK w base A n c l)(hbase:base≤w.heap.size) :
  Calls Tryz.prog 200 #[x.v,.slice A n c] w fun e w'=>RetB pairK w base (drop l x.key).length (drop l x.key) e w':=by
 obtain⟨key,val,del⟩:=x
 have hgl:=fun g (e:A=some ⟨g,0,none⟩)=>(show g<w.heap.size from (by subst e;exact h.block_lt.2))
 have W1:Q w ((w.alloc (.cells #[.string key,.string val,.bool del] 255)).alloc (.cells #[.string key] 9)):=((Q.refl w).alloc _).alloc _
 have K1:=hid (deleteFunc key (w.heap.size+1) base A n c l ((w.alloc (.cells #[.string key,.string val,.bool del] 255)).alloc (.cells #[.string key] 9)) (h.q W1) (by simp) (by simp[World.cell?_alloc_at,World.cell?_alloc_past]) (fun g e=>by have:=hgl g e;omega) (by simp;omega))
 have HW:=hid W1
 clear h hgl W1
 go_enter Tryz.func200,Tryz.ntmps200
 go_wp2_with fail
 refine(thas_any key _).mono ?_
 rintro e w1 ⟨rfl,rfl⟩
 go_wp2_with fail
 refine K1.out.mono ?_
 rintro e w2 ⟨A2,c2,rfl,o2,b2⟩
 go_wp2
 go_ret
 exact⟨A2,c2,rfl,o2,(HW.out.below.mono hbase).trans b2⟩
theorem deed_act (x:Wr)(w:World) :
  Calls Tryz.prog 173 #[x.v] w fun e w'=>e=.returned (.func (.func (if x.del then 200 else 201)) #[x.v] #[])∧Q w w':=by
 obtain⟨key,val,del⟩:=x
 cases del
 all_goals
   go_enter Tryz.func173,Tryz.ntmps173
   go_wp2
   go_ret
   exact⟨rfl,(Q.refl _).alloc _⟩
end
end Go.Proofs.YtccoknaaofmbcaaGreatDoor
