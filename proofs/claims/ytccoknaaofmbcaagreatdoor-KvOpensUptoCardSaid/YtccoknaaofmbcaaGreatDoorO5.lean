/- DiskRef8, Held, HeldL, App, DiskRef9: merged. -/
import Derived.Test.YtccoknaaofmbcaaGreatDoorO4
import Derived.Outline
import Derived.Deep.RegionHeld3
import Derived.Test.YtccoknaaofmbcaaGreatDoorO1
import Derived.Maps.AppendAt
import Derived.Laws.AppendOwnNone
import Derived.Deep.DeepCutAuto
set_option linter.unusedVariables false
set_option linter.unusedSimpArgs false
set_option maxRecDepth 100000
set_option maxHeartbeats 16000000
open Go.Lib (hid)
namespace Go.Proofs.YtccoknaaofmbcaaGreatDoor
section
open Go.RowKit Dkm
theorem Bx.put3 {w:World}{b:Nat}{x y z:Value}(h:Bx w b [x,y,z])(x' y' z':Value):Bx (((w.setCell ⟨b,0,none⟩ x').setCell ⟨b,1,none⟩ y').setCell ⟨b,2,none⟩ z') b [x',y',z']:=
 ((h.set (k:=0) (by simp) x').set (k:=1) (by simp) y').set (k:=2) (by simp) z'
theorem Sb.far3 {w wr:World}{A:Option Addr}{n c:Nat}{room fuse:Int}{off:Bool}(h:Sb w A n c room fuse off wr){g:Nat}(hg:w.heap.size+1<g)(x y z:Value) :
  Sb w A n c room fuse off (((wr.setCell ⟨g,0,none⟩ x).setCell ⟨g,1,none⟩ y).setCell ⟨g,2,none⟩ z):=
 ⟨((h.box.far (p:=⟨g,0,none⟩) (by simp only;omega) _).far (p:=⟨g,1,none⟩) (by simp only;omega) _).far (p:=⟨g,2,none⟩) (by simp only;omega) _,
  ((h.res.far (p:=⟨g,0,none⟩) (by simp only;omega) _).far (p:=⟨g,1,none⟩) (by simp only;omega) _).far (p:=⟨g,2,none⟩) (by simp only;omega) _,h.q.set3 (b:=g) (by omega) _ _ _⟩
theorem ref_app_big_none (nm s:ByteArray)(A:Option Addr)(n c:Nat)(room fuse:Int)(l:List Fil)(w:World)(hd:Dsk w A n c l)(hk:nmOk nm=true)(p:Int)(hp:plc nm l 0=p)(h0:p<0)(hn64:n<64)(hr:(s.size:Int)≤room)(hs:s.size≤2305843009213693952)(hbig:65536<s.size) :
  Calls Tryz.prog 98 #[dkv A n c room fuse false,.string nm,.string s] w fun e w'=>RetDK w A n ⟨l,room,fuse,false⟩ 4 e w':=by
 have hnm:=hd.max
 unfold maxLen at hnm
 have hfew:=hd.few
 have HD:=hid hd
 have HP:=hid hp
 clear hd hp
 obtain⟨o1,o2⟩:=nmOk_yes hk
 have o3:¬ (nm.size:Int)<1:=by omega
 have o4:¬ room<(s.size:Int):=by omega
 clear hk
 have S0:=hid (Sb.new w A n c room fuse false)
 have q4:¬ (64:Int)≤(n:Int):=by omega
 go_enter Tryz.func98,Tryz.ntmps98
 go_wp2_with fail
 refine(ref_at nm A n c room fuse false l _ (HD.out.files.q S0.out.q) HD.out.max).mono ?_
 rw[HP.out]
 rintro e w1 ⟨rfl,q1⟩
 have S1:=hid (S0.out.step q1)
 clear S0 q1
 obtain⟨⟨e0,e1,e2,e3⟩,f0,f1,f2,f3⟩:=S1.out.get
 have z0:w.heap.size+1<w1.heap.size:=S1.out.res.lt
 go_upto_region 11 with (fail)
 have B1:=hid (And.intro (Bx.new w1 [.string nm,.string ⟨#[]⟩,.string ⟨#[]⟩] 119) (S1.out.step ((Q.refl _).alloc (.cells #[.string nm,.string ⟨#[]⟩,.string ⟨#[]⟩] 119))))
 generalize (w1.alloc (.cells #[.string nm,.string ⟨#[]⟩,.string ⟨#[]⟩] 119))=W at B1 ⊢
 generalize w1.heap.size=g at B1 z0 ⊢
 clear e0 e1 e2 e3 f0 f1 f2 f3
 obtain⟨⟨b0,b1,b2⟩,_⟩:=B1.out.1.get3
 obtain⟨⟨e0,e1,e2,e3⟩,f0,f1,f2,f3⟩:=B1.out.2.get
 obtain⟨⟨s0,s1,s2,s3⟩,h0',h1,h2,h3⟩:=B1.out.2.getR
 go_wp2
 go_outline
 refine bodyPost_ret (v:=.tuple #[dkv A n c room fuse false,.int .i64 4]) (by simp[results,Tryz.results98,go_sem,s0,s1,s2,s3]) rfl ?_
 exact B1.out.2.endK HD.out 4 _ _ _ _
theorem ref_app_big_at (nm s:ByteArray)(A:Option Addr)(n c:Nat)(room fuse:Int)(l:List Fil)(w:World)(hd:Dsk w A n c l)(hk:nmOk nm=true)(k:Nat)(hkl:k<l.length)(hkn:k<n)(hp:plc nm l 0=k)(hr:(s.size:Int)≤room)(hs:s.size≤2305843009213693952)(hz:l[k].sf.size+l[k].wt.size≤2305843009213693952)(hbig:65536<l[k].sf.size+l[k].wt.size+s.size) :
  Calls Tryz.prog 98 #[dkv A n c room fuse false,.string nm,.string s] w fun e w'=>RetDK w A n ⟨l,room,fuse,false⟩ 4 e w':=by
 have hb2:(65536:Int)<(l[k].sf.size:Int)+(l[k].wt.size:Int)+(s.size:Int):=by omega
 have hnm:=hd.max
 unfold maxLen at hnm
 have hfew:=hd.few
 have HD:=hid hd
 have HP:=hid hp
 clear hd hp
 obtain⟨o1,o2⟩:=nmOk_yes hk
 have o3:¬ (nm.size:Int)<1:=by omega
 have o4:¬ room<(s.size:Int):=by omega
 clear hk
 have S0:=hid (Sb.new w A n c room fuse false)
 have z8:(l[k].sf.size:Int)+(l[k].wt.size:Int)≤2305843009213693952:=by omega
 have q4:(k:Int)<(n:Int):=by omega
 have q5:0≤(k:Int):=by omega
 go_enter Tryz.func98,Tryz.ntmps98
 go_wp2_with fail
 refine(ref_at nm A n c room fuse false l _ (HD.out.files.q S0.out.q) HD.out.max).mono ?_
 rw[HP.out]
 rintro e w1 ⟨rfl,q1⟩
 have S1:=hid (S0.out.step q1)
 obtain⟨ad,rfl,_,_⟩:=(HD.out.files.q S1.out.q).load hkn hkl
 clear S0 q1
 obtain⟨⟨e0,e1,e2,e3⟩,f0,f1,f2,f3⟩:=S1.out.get
 have z0:w.heap.size+1<w1.heap.size:=S1.out.res.lt
 go_upto_region 10 with (fail)
 have B1:=hid (And.intro (Bx.new w1 [.string nm,.string ⟨#[]⟩,.string ⟨#[]⟩] 119) (S1.out.step ((Q.refl _).alloc (.cells #[.string nm,.string ⟨#[]⟩,.string ⟨#[]⟩] 119))))
 generalize (w1.alloc (.cells #[.string nm,.string ⟨#[]⟩,.string ⟨#[]⟩] 119))=W at B1 ⊢
 generalize w1.heap.size=g at B1 z0 ⊢
 clear e0 e1 e2 e3 f0 f1 f2 f3
 obtain⟨ad',hadd,hb,c0,c1,c3⟩:=(HD.out.files.q B1.out.2.q).load hkn hkl
 obtain rfl:ad=ad':=by injection hadd
 clear hadd
 obtain⟨⟨e0,e1,e2,e3⟩,f0,f1,f2,f3⟩:=B1.out.2.get
 obtain⟨⟨b0,b1,b2⟩,y0,y1,y2⟩:=B1.out.1.get3
 go_upto_region 11 with (fail)
 have B2:=hid (And.intro (B1.out.1.put3 (.string l[k].nm) (.string l[k].sf) (.string l[k].wt)) (B1.out.2.far3 z0 (.string l[k].nm) (.string l[k].sf) (.string l[k].wt)))
 clear e0 e1 e2 e3 f0 f1 f2 f3 b0 b1 b2 y0 y1 y2 c0 c1 c3 hb B1
 generalize (((W.setCell ⟨g,0,none⟩ (.string l[k].nm)).setCell ⟨g,1,none⟩ (.string l[k].sf)).setCell ⟨g,2,none⟩ (.string l[k].wt))=W1 at B2 ⊢
 have B1:=B2
 clear B2
 obtain⟨⟨b0,b1,b2⟩,_⟩:=B1.out.1.get3
 obtain⟨⟨e0,e1,e2,e3⟩,f0,f1,f2,f3⟩:=B1.out.2.get
 obtain⟨⟨s0,s1,s2,s3⟩,h0',h1,h2,h3⟩:=B1.out.2.getR
 go_wp2
 go_outline
 refine bodyPost_ret (v:=.tuple #[dkv (some ad) n c room fuse false,.int .i64 4]) (by simp[results,Tryz.results98,go_sem,s0,s1,s2,s3]) rfl ?_
 exact B1.out.2.endK HD.out 4 _ _ _ _
end
end Go.Proofs.YtccoknaaofmbcaaGreatDoor
namespace Go
section
variable {P:Program} {ops:Array Oper} {Q:Exit→Act→World→Prop} {md:Region.Mode} {S S':World→Prop}
end
end Go
namespace Go.Proofs.YtccoknaaofmbcaaGreatDoor
section
variable {P:Program} {ops:Array Oper} {Q:Exit→Act→World→Prop} {md:Region.Mode} {S:World→Prop}
theorem sA {α:Type _}{l:List α}{i:Nat}{a:α}:l.toArray.setIfInBounds i a=(l.set i a).toArray:=List.setIfInBounds_toArray ..
theorem sB {α:Type _}{a:α}{l:List α}{b:α}:(a :: l).set 0 b=b :: l:=List.set_cons_zero
theorem sC {α:Type _}{a:α}{l:List α}{n:Nat}{b:α}:(a :: l).set (n+1) b=a :: l.set n b:=List.set_cons_succ
theorem takeH (i:Nat){oi:Oper}(v:Value){fuel:Nat}{listed:Array Bool}{a a':Act}{w:World}(hy:∀ w,S w→(execOp a.eval oi).run P w=.ok (.value v) w)(h:wpAnyH P md ops Q S fuel (listed.setIfInBounds i true) a' w)(hi:ops[i]? = some oi:=by (simp only[List.getElem?_toArray,List.getElem?_cons_zero,List.getElem?_cons_succ];rfl))
    (hs:Region.noSelect ops=true:=by kernel_rfl) (hf:Region.free md ops listed i=true:=by kernel_rfl) (hr:(Region.ready md ops listed).contains i=true:=by kernel_rfl)
    (hw:Region.wanted oi (yielded ops a.tmps)=true:=by rfl) (hQ:∀ c a w,Q (.panic c) (a.put oi.dst v) w→Q (.panic c) a w:=by exact fun _ _ _ h=>h) (hS:S w:=by first | assumption | trivial) (ha:a.put oi.dst v=a':=by (simp only[Act.put,sA,sB,sC];try rfl)):wpAnyH P md ops Q S (fuel+1) listed a w:=
  wpAnyH_take hi hs hf hr hQ (.inl ⟨hw,hy⟩) hS (ha ▸ h)
theorem takH (i:Nat){oi:Oper}{v:Value}{fuel:Nat}{listed:Array Bool}{a a':Act}{w:World}(h:wpAnyH P md ops Q S fuel (listed.setIfInBounds i true) a' w)(hi:ops[i]? = some oi:=by (simp only[List.getElem?_toArray,List.getElem?_cons_zero,List.getElem?_cons_succ];rfl))(hy:∀ w,S w→(execOp a.eval oi).run P w=.ok (.value v) w:=by (intro w hSw;go_simp;try with_reducible rfl))
    (hs:Region.noSelect ops=true:=by kernel_rfl) (hf:Region.free md ops listed i=true:=by kernel_rfl) (hr:(Region.ready md ops listed).contains i=true:=by kernel_rfl)
    (hw:Region.wanted oi (yielded ops a.tmps)=true:=by rfl) (hQ:∀ c a w,Q (.panic c) (a.put oi.dst v) w→Q (.panic c) a w:=by exact fun _ _ _ h=>h) (hS:S w:=by first | assumption | trivial) (ha:a.put oi.dst v=a':=by (simp only[Act.put,sA,sB,sC];try rfl)):wpAnyH P md ops Q S (fuel+1) listed a w:=
  wpAnyH_take hi hs hf hr hQ (.inl ⟨hw,hy⟩) hS (ha ▸ h)
theorem tadH (i:Nat){oi:Oper}{v:Value}{fuel:Nat}{listed:Array Bool}{a a':Act}{w:World}(h:wpAnyH P md ops Q S fuel (listed.setIfInBounds i true) a' w)(hi:ops[i]? = some oi:=by (simp only[List.getElem?_toArray,List.getElem?_cons_zero,List.getElem?_cons_succ];rfl))(hy:∀ w,S w→(execOp a.eval oi).run P w=.ok (.value v) w:=by (intro w hSw;(try dsimp only at hSw);go_simp;try with_reducible rfl))
    (hs:Region.noSelect ops=true:=by kernel_rfl) (hf:Region.free md ops listed i=true:=by kernel_rfl) (hr:(Region.ready md ops listed).contains i=true:=by kernel_rfl)
    (hw:Region.wanted oi (yielded ops a.tmps)=true:=by rfl) (hQ:∀ c a w,Q (.panic c) (a.put oi.dst v) w→Q (.panic c) a w:=by exact fun _ _ _ h=>h) (hS:S w:=by first | assumption | trivial) (ha:a.put oi.dst v=a':=by (simp only[Act.put,sA,sB,sC];try rfl)):wpAnyH P md ops Q S (fuel+1) listed a w:=
  wpAnyH_take hi hs hf hr hQ (.inl ⟨hw,hy⟩) hS (ha ▸ h)
theorem skipH (i:Nat){oi:Oper}{fuel:Nat}{listed:Array Bool}{a a':Act}{w:World}(h:wpAnyH P md ops Q S fuel (listed.setIfInBounds i true) a' w)(hi:ops[i]? = some oi:=by (simp only[List.getElem?_toArray,List.getElem?_cons_zero,List.getElem?_cons_succ];rfl))
    (hs:Region.noSelect ops=true:=by kernel_rfl) (hf:Region.free md ops listed i=true:=by kernel_rfl) (hr:(Region.ready md ops listed).contains i=true:=by kernel_rfl)
    (hw:Region.wanted oi (yielded ops a.tmps)=false:=by rfl) (hQ:∀ c a w,Q (.panic c) (a.put oi.dst undef) w→Q (.panic c) a w:=by exact fun _ _ _ h=>h) (hS:S w:=by first | assumption | trivial) (ha:a.put oi.dst undef=a':=by (simp only[Act.put,sA,sB,sC];try rfl)):wpAnyH P md ops Q S (fuel+1) listed a w:=
  wpAnyH_take hi hs hf hr hQ (.inr ⟨hw,rfl⟩) hS (ha ▸ h)
theorem doneH {fuel:Nat}{listed:Array Bool}{a:Act}{w:World}(h:Q .normal a w)(hr:Region.ready md ops listed=[]:=by kernel_rfl):wpAnyH P md ops Q S fuel listed a w:=wpAnyH_done hr h _
theorem oneH (i:Nat){fuel:Nat}{listed:Array Bool}{a:Act}{w:World}{o:Oper}
 (h:∀ K:Act→World→Prop,Shut (∀ a w,S w→(S w→wpAnyH P md ops Q S fuel (listed.setIfInBounds i true) a w)→K a w)→if Region.wanted o (yielded ops a.tmps)=true then Oper.wp P o a w K Q else K (a.put o.dst undef) w)
 (hr:Region.ready md ops listed=[i]:=by kernel_rfl) (ho:ops[i]? = some o:=by (simp only[List.getElem?_toArray,List.getElem?_cons_zero,List.getElem?_cons_succ];rfl)):wpAnyH P md ops Q S (fuel+1) listed a w:=wpAnyH_ready hr (by simp) (AllReadyH.cons ho h AllReadyH.nil)
theorem consH {fuel:Nat}{listed:Array Bool}{a:Act}{w:World}{i:Nat}{o:Oper}{rs:List Nat}
 (h:∀ K:Act→World→Prop,Shut (∀ a w,S w→(S w→wpAnyH P md ops Q S fuel (listed.setIfInBounds i true) a w)→K a w)→if Region.wanted o (yielded ops a.tmps)=true then Oper.wp P o a w K Q else K (a.put o.dst undef) w)
 (hs:AllReadyH P md ops Q S fuel listed a w rs) (ho:ops[i]? = some o:=by (simp only[List.getElem?_toArray,List.getElem?_cons_zero,List.getElem?_cons_succ];rfl)):AllReadyH P md ops Q S fuel listed a w (i :: rs):=AllReadyH.cons ho h hs
end
end Go.Proofs.YtccoknaaofmbcaaGreatDoor
namespace Go.Proofs.YtccoknaaofmbcaaGreatDoor
section
section
variable {P:Program} {ops:Array Oper} {Q:Exit→Act→World→Prop} {md:Region.Mode} {k:Nat}
def Till (k:Nat)(S:World→Prop)(T:Array Bool→Act→World→Prop)(l:Array Bool):Act→World→Prop:=fun a w=>(l.getD k true=false→S w)∧T l a w
def wpAnyL (P:Program)(md:Region.Mode)(ops:Array Oper)(Q:Exit→Act→World→Prop)(k:Nat)(S:World→Prop)(fuel:Nat):Array Bool→Act→World→Prop:=
 Nat.rec (fun l a w=>Region.ready md ops l=[]∧Q .normal a w)
   (fun _ T l a w=>(Region.ready md ops l=[]→Q .normal a w)∧∀ j,j∈Region.ready md ops l→wpOp P ops Q j (Till k S T (l.setIfInBounds j true)) a w) fuel
variable {S S':World→Prop}
theorem wpAnyL_zero {l:Array Bool}{a:Act}{w:World}:wpAnyL P md ops Q k S 0 l a w↔Region.ready md ops l=[]∧Q .normal a w:=Iff.rfl
theorem wpAnyL_succ {n:Nat}{l:Array Bool}{a:Act}{w:World}:wpAnyL P md ops Q k S (n+1) l a w ↔
 (Region.ready md ops l=[]→Q .normal a w)∧∀ j,j∈Region.ready md ops l→wpOp P ops Q j (Till k S (wpAnyL P md ops Q k S n) (l.setIfInBounds j true)) a w:=Iff.rfl
theorem wpAnyL_plain (n:Nat):∀ (l:Array Bool) (a:Act) (w:World),wpAnyL P md ops Q k S n l a w→wpAny P md ops Q n l a w:=by
 induction n with
 | zero=>exact fun l a w h=>h
 | succ n ih=>exact fun l a w h=>⟨(wpAnyL_succ.1 h).1,fun j hj=>wpOp_mono (fun a' w' h'=>ih _ a' w' h'.2) ((wpAnyL_succ.1 h).2 j hj)⟩
theorem getD_set_up {l:Array Bool}{j:Nat}(h:l.getD k true=true):(l.setIfInBounds j true).getD k true=true:=by
 rcases Nat.decEq j k with e | rfl
 · rw[getD_set_ne true e];exact h
 · simp[Array.getElem?_setIfInBounds];split<;>simp
theorem wpAnyL_free (n:Nat):∀ (l:Array Bool) (a:Act) (w:World),l.getD k true=true→wpAnyH P md ops Q (fun _=>True) n l a w→wpAnyL P md ops Q k S n l a w:=by
 induction n with
 | zero=>exact fun l a w _ h=>h
 | succ n ih =>
   intro l a w hl h
   refine wpAnyL_succ.2 ⟨h.1,fun j hj=>wpOp_mono (fun a' w' h'=>⟨fun e=>?_,ih _ a' w' (getD_set_up hl) h'.2⟩) (h.2 j hj)⟩
   rw[getD_set_up hl] at e
   cases e
def waitsFor (md:Region.Mode)(ops:Array Oper)(k i:Nat):Bool:=match ops[k]? with | some o=>o.after.any (fun e=>Region.binds md e&&e.on == i) | none=>false
theorem ready_free {l:Array Bool}{i j:Nat}{o:Oper}(hi:i∈Region.ready md ops l)(hj:j∈Region.ready md ops l)(ho:ops[j]? = some o):∀ e∈o.after,Region.binds md e=true→e.on≠i:=by
 obtain⟨hi0,_⟩:=mem_ready.1 hi
 obtain⟨_,o',ho',hall⟩:=mem_ready.1 hj
 obtain rfl:o=o':=by rw[ho] at ho';injection ho'
 intro e he hb heq
 have hl:=hall e he hb
 rw[heq] at hl
 cases hg:l[i]? with
 | none=>simp[hg] at hl
 | some b=>simp[hg] at hi0 hl;rw[hi0] at hl;cases hl
theorem not_waits {l:Array Bool}{i:Nat}(hi:i∈Region.ready md ops l)(hk:waitsFor md ops k i=true):¬ k∈Region.ready md ops l:=fun hj=>by
 unfold waitsFor at hk
 split at hk
 · rename_i o ho
   obtain⟨e,he,h2⟩:=Array.any_eq_true'.1 hk
   rw[Bool.and_eq_true,beq_iff_eq] at h2
   exact ready_free hi hj ho e he h2.1 h2.2
 · cases hk
theorem wpAnyL_take {i:Nat}{oi:Oper}{v:Value}{fuel:Nat}{listed:Array Bool}{a:Act}{w:World}(hi:ops[i]? = some oi)
  (hs:Region.noSelect ops=true) (hf:Region.free md ops listed i=true) (hr:(Region.ready md ops listed).contains i=true)
  (hk:(listed.getD k true == false&&waitsFor md ops k i&&i != k)=true)
  (hQ:∀ c a w,Q (.panic c) (a.put oi.dst v) w→Q (.panic c) a w) (hy:YieldsIf P ops S oi v a) (hS:S w)
  (h:wpAnyL P md ops Q k S fuel (listed.setIfInBounds i true) (a.put oi.dst v) w):wpAnyL P md ops Q k S (fuel+1) listed a w:=by
 simp only[Bool.and_eq_true,beq_iff_eq,bne_iff_ne,ne_eq] at hk
 obtain⟨⟨hku,hkw⟩,hik⟩:=hk
 have hap:=Region.free_spec hi hf
 have hr':i∈Region.ready md ops listed:=by simpa using hr
 have hno:=Region.noSelect_spec hs
 clear hf hr
 induction fuel generalizing listed a w with
 | zero =>
   refine wpAnyL_succ.2 ⟨fun e=>absurd hr' (by rw[e];exact List.not_mem_nil),fun j hj=>?_⟩
   rcases Nat.decEq j i with e | rfl
   · exact absurd (ready_mono hj e) (by rw[(wpAnyL_zero.1 h).1];exact List.not_mem_nil)
   · exact hy.wpOp hi hS ⟨fun _=>hS,h⟩
 | succ n ih =>
   refine wpAnyL_succ.2 ⟨fun e=>absurd hr' (by rw[e];exact List.not_mem_nil),fun j hj=>?_⟩
   rcases Nat.decEq j i with e | rfl
   case isTrue=>exact hy.wpOp hi hS ⟨fun _=>hS,h⟩
   have hjk:j≠k:=by rintro rfl;exact not_waits hr' hkw hj
   obtain⟨hun,oj,hoj,_⟩:=mem_ready.1 hj
   have other:=wpOp_putIf hoj (hap j oj hoj e hun (ready_free hr' hj hoj)) (fun cs b=>hno i oi cs b hi) (fun cs b=>hno j oj cs b hoj) hQ hy ((wpAnyL_succ.1 h).2 j (ready_mono hj e))
   have hku':(listed.setIfInBounds j true).getD k true=false:=(getD_set_ne true hjk).trans hku
   refine wpOp_mono (fun a' w' ⟨hy',hS',hT⟩=>?_) other
   have hSw:S w':=hS' (by rw[getD_set_ne true hjk,getD_set_ne true hik];exact hku)
   rw[Array.setIfInBounds_comm _ _ (Ne.symm e)] at hT
   refine⟨fun _=>hSw,ih hy' hSw hT hku' (fun m om hm hmi hmu hme=>hap m om hm hmi ?_ hme) (ready_mono hr' (Ne.symm e))⟩
   rcases Nat.decEq j m with e2 | rfl
   · rwa [getD_set_ne true e2] at hmu
   · exact hun
def AllReadyL (P:Program)(md:Region.Mode)(ops:Array Oper)(Q:Exit→Act→World→Prop)(k:Nat)(S:World→Prop)(fuel:Nat)(listed:Array Bool)(a:Act)(w:World)(rs:List Nat):Prop:=
 ∀ j,j∈rs→wpOp P ops Q j (Till k S (wpAnyL P md ops Q k S fuel) (listed.setIfInBounds j true)) a w
theorem AllReadyL.nil {fuel:Nat}{listed:Array Bool}{a:Act}{w:World}:AllReadyL P md ops Q k S fuel listed a w []:=fun _ h=>absurd h List.not_mem_nil
theorem AllReadyL.cons {fuel:Nat}{listed:Array Bool}{a:Act}{w:World}{i:Nat}{o:Oper}{rs:List Nat}(ho:ops[i]? = some o)
  (h:∀ K:Act→World→Prop,Shut (∀ a w,S w→(S w→wpAnyL P md ops Q k S fuel (listed.setIfInBounds i true) a w)→K a w)→if Region.wanted o (yielded ops a.tmps)=true then Oper.wp P o a w K Q else K (a.put o.dst undef) w)
  (hs:AllReadyL P md ops Q k S fuel listed a w rs):AllReadyL P md ops Q k S fuel listed a w (i :: rs):=
 List.forall_mem_cons.2 ⟨wpOp_step ho fun K hK=>h K fun a w h1 h2=>hK a w ⟨fun _=>h1,h2 h1⟩,hs⟩
theorem AllReadyL.consK {fuel:Nat}{listed:Array Bool}{a:Act}{w:World}{o:Oper}{rs:List Nat}(ho:ops[k]? = some o)(hl:(listed.setIfInBounds k true).getD k true=true)
  (h:∀ K:Act→World→Prop,Shut (∀ a w,wpAnyH P md ops Q (fun _=>True) fuel (listed.setIfInBounds k true) a w→K a w)→if Region.wanted o (yielded ops a.tmps)=true then Oper.wp P o a w K Q else K (a.put o.dst undef) w)
  (hs:AllReadyL P md ops Q k S fuel listed a w rs):AllReadyL P md ops Q k S fuel listed a w (k :: rs):=
 List.forall_mem_cons.2 ⟨wpOp_step ho fun K hK=>h K fun a w h2=>hK a w ⟨(fun e=>by rw[hl] at e;cases e),wpAnyL_free fuel _ a w hl h2⟩,hs⟩
theorem wpAnyL_ready {rs:List Nat}{fuel:Nat}{listed:Array Bool}{a:Act}{w:World}(hr:Region.ready md ops listed=rs)(hne:rs≠[])
  (h:AllReadyL P md ops Q k S fuel listed a w rs):wpAnyL P md ops Q k S (fuel+1) listed a w:=
 wpAnyL_succ.2 ⟨fun e=>absurd (hr.symm.trans e) hne,fun j hj=>h j (by rwa [hr] at hj)⟩
theorem wp_region_heldL (k:Nat)(S:World→Prop){id:Nat}{a:Act}{w:World}(hm:P.follows .mixedOrders=true)(hS:S w.drew)
  (h:S w.drew→wpAnyL P .any ops Q k S ops.size (Array.replicate ops.size false) a w.drew):(Code.region id ops true).wp P Q a w:=
 wp_region_any hm (wpAnyL_plain _ _ _ _ (h hS))
end
section
variable {P:Program} {ops:Array Oper} {Q:Exit→Act→World→Prop} {md:Region.Mode} {k:Nat} {S:World→Prop}
theorem takeL (i:Nat){oi:Oper}(v:Value){fuel:Nat}{listed:Array Bool}{a a':Act}{w:World}(hy:∀ w,S w→(execOp a.eval oi).run P w=.ok (.value v) w)(h:wpAnyL P md ops Q k S fuel (listed.setIfInBounds i true) a' w)(hi:ops[i]? = some oi:=by (simp only[List.getElem?_toArray,List.getElem?_cons_zero,List.getElem?_cons_succ];rfl))
    (hs:Region.noSelect ops=true:=by kernel_rfl) (hf:Region.free md ops listed i=true:=by kernel_rfl) (hr:(Region.ready md ops listed).contains i=true:=by kernel_rfl) (hk:(listed.getD k true == false&&waitsFor md ops k i&&i != k)=true:=by kernel_rfl)
    (hw:Region.wanted oi (yielded ops a.tmps)=true:=by rfl) (hQ:∀ c a w,Q (.panic c) (a.put oi.dst v) w→Q (.panic c) a w:=by exact fun _ _ _ h=>h) (hS:S w:=by first | assumption | trivial) (ha:a.put oi.dst v=a':=by (simp only[Act.put,sA,sB,sC];try rfl)):wpAnyL P md ops Q k S (fuel+1) listed a w:=
  wpAnyL_take hi hs hf hr hk hQ (.inl ⟨hw,hy⟩) hS (ha ▸ h)
theorem takL (i:Nat){oi:Oper}{v:Value}{fuel:Nat}{listed:Array Bool}{a a':Act}{w:World}(h:wpAnyL P md ops Q k S fuel (listed.setIfInBounds i true) a' w)(hi:ops[i]? = some oi:=by (simp only[List.getElem?_toArray,List.getElem?_cons_zero,List.getElem?_cons_succ];rfl))(hy:∀ w,S w→(execOp a.eval oi).run P w=.ok (.value v) w:=by (intro w hSw;go_simp;try with_reducible rfl))
    (hs:Region.noSelect ops=true:=by kernel_rfl) (hf:Region.free md ops listed i=true:=by kernel_rfl) (hr:(Region.ready md ops listed).contains i=true:=by kernel_rfl) (hk:(listed.getD k true == false&&waitsFor md ops k i&&i != k)=true:=by kernel_rfl)
    (hw:Region.wanted oi (yielded ops a.tmps)=true:=by rfl) (hQ:∀ c a w,Q (.panic c) (a.put oi.dst v) w→Q (.panic c) a w:=by exact fun _ _ _ h=>h) (hS:S w:=by first | assumption | trivial) (ha:a.put oi.dst v=a':=by (simp only[Act.put,sA,sB,sC];try rfl)):wpAnyL P md ops Q k S (fuel+1) listed a w:=
  wpAnyL_take hi hs hf hr hk hQ (.inl ⟨hw,hy⟩) hS (ha ▸ h)
theorem tadL (i:Nat){oi:Oper}{v:Value}{fuel:Nat}{listed:Array Bool}{a a':Act}{w:World}(h:wpAnyL P md ops Q k S fuel (listed.setIfInBounds i true) a' w)(hi:ops[i]? = some oi:=by (simp only[List.getElem?_toArray,List.getElem?_cons_zero,List.getElem?_cons_succ];rfl))(hy:∀ w,S w→(execOp a.eval oi).run P w=.ok (.value v) w:=by (intro w hSw;(try dsimp only at hSw);go_simp;try with_reducible rfl))
    (hs:Region.noSelect ops=true:=by kernel_rfl) (hf:Region.free md ops listed i=true:=by kernel_rfl) (hr:(Region.ready md ops listed).contains i=true:=by kernel_rfl) (hk:(listed.getD k true == false&&waitsFor md ops k i&&i != k)=true:=by kernel_rfl)
    (hw:Region.wanted oi (yielded ops a.tmps)=true:=by rfl) (hQ:∀ c a w,Q (.panic c) (a.put oi.dst v) w→Q (.panic c) a w:=by exact fun _ _ _ h=>h) (hS:S w:=by first | assumption | trivial) (ha:a.put oi.dst v=a':=by (simp only[Act.put,sA,sB,sC];try rfl)):wpAnyL P md ops Q k S (fuel+1) listed a w:=
  wpAnyL_take hi hs hf hr hk hQ (.inl ⟨hw,hy⟩) hS (ha ▸ h)
theorem oneL (i:Nat){fuel:Nat}{listed:Array Bool}{a:Act}{w:World}{o:Oper}
 (h:∀ K:Act→World→Prop,Shut (∀ a w,S w→(S w→wpAnyL P md ops Q k S fuel (listed.setIfInBounds i true) a w)→K a w)→if Region.wanted o (yielded ops a.tmps)=true then Oper.wp P o a w K Q else K (a.put o.dst undef) w)
 (hr:Region.ready md ops listed=[i]:=by kernel_rfl) (ho:ops[i]? = some o:=by (simp only[List.getElem?_toArray,List.getElem?_cons_zero,List.getElem?_cons_succ];rfl)):wpAnyL P md ops Q k S (fuel+1) listed a w:=wpAnyL_ready hr (by simp) (AllReadyL.cons ho h AllReadyL.nil)
theorem oneK {fuel:Nat}{listed:Array Bool}{a:Act}{w:World}{o:Oper}
 (h:∀ K:Act→World→Prop,Shut (∀ a w,wpAnyH P md ops Q (fun _=>True) fuel (listed.setIfInBounds k true) a w→K a w)→if Region.wanted o (yielded ops a.tmps)=true then Oper.wp P o a w K Q else K (a.put o.dst undef) w)
 (hr:Region.ready md ops listed=[k]:=by kernel_rfl) (ho:ops[k]? = some o:=by (simp only[List.getElem?_toArray,List.getElem?_cons_zero,List.getElem?_cons_succ];rfl)) (hl:(listed.setIfInBounds k true).getD k true=true:=by kernel_rfl):wpAnyL P md ops Q k S (fuel+1) listed a w:=wpAnyL_ready hr (by simp) (AllReadyL.consK ho hl h AllReadyL.nil)
theorem consL {fuel:Nat}{listed:Array Bool}{a:Act}{w:World}{i:Nat}{o:Oper}{rs:List Nat}
 (h:∀ K:Act→World→Prop,Shut (∀ a w,S w→(S w→wpAnyL P md ops Q k S fuel (listed.setIfInBounds i true) a w)→K a w)→if Region.wanted o (yielded ops a.tmps)=true then Oper.wp P o a w K Q else K (a.put o.dst undef) w)
 (hs:AllReadyL P md ops Q k S fuel listed a w rs) (ho:ops[i]? = some o:=by (simp only[List.getElem?_toArray,List.getElem?_cons_zero,List.getElem?_cons_succ];rfl)):AllReadyL P md ops Q k S fuel listed a w (i :: rs):=AllReadyL.cons ho h hs
theorem consK {fuel:Nat}{listed:Array Bool}{a:Act}{w:World}{o:Oper}{rs:List Nat}
 (h:∀ K:Act→World→Prop,Shut (∀ a w,wpAnyH P md ops Q (fun _=>True) fuel (listed.setIfInBounds k true) a w→K a w)→if Region.wanted o (yielded ops a.tmps)=true then Oper.wp P o a w K Q else K (a.put o.dst undef) w)
 (hs:AllReadyL P md ops Q k S fuel listed a w rs) (ho:ops[k]? = some o:=by (simp only[List.getElem?_toArray,List.getElem?_cons_zero,List.getElem?_cons_succ];rfl)) (hl:(listed.setIfInBounds k true).getD k true=true:=by kernel_rfl):AllReadyL P md ops Q k S fuel listed a w (k :: rs):=AllReadyL.consK ho hl h hs
end
end
section
open Go.RowKit
theorem run_appG {P:Program}{w:World}(base:Nat)(t ty e:TypeId)(z:Value)(size bytes:Nat)(ht:P.underlying t=some (.slice e))(hinfo:(P.info? e).map (fun i=>(i.zero,i.size,i.bytes))=some (some z,size,bytes))
    (hzs:z.cells.size=size) (hsz:0<size) (A:Option Addr) (n c:Nat) (xs:List Value) (h:w.ownsRow base e size (.slice A n c) n xs)
    (A2:Option Addr) (m c2:Nat) (news:List Value) (hl:news.length=m*size) (hnews:∀ j u,news[j]? = some u→∃ a,A2=some a∧w.cell? (a.add j)=some u) (h1:∀ u∈news,u.oneCell'=true)
    (hnil:A2=none→m=0∧c2=0) (hmax:n+m≤maxLen) (hb:(n+m)*bytes≤140737488355328) (hbase:base≤w.heap.size) :
    ∃ A' c' w',(Builtin.append_ #[t,t] ty #[.slice A n c,.slice A2 m c2]).run P w=.ok (.slice A' (n+m) c') w'∧w'.ownsRow base e size (.slice A' (n+m) c') (n+m) (xs++news) ∧
      w.grownBy w' (Value.slice A n c).ownBlock∧((Value.slice A' (n+m) c').ownBlock=(Value.slice A n c).ownBlock∨(Value.slice A' (n+m) c').ownBlock=some w.heap.size):=by
  obtain⟨i,hi,hz,hs,hy⟩:=info_parts hinfo
  cases A2 with
  | none =>
    obtain⟨rfl,rfl⟩:=hnil rfl
    have e2:news=[]:=List.eq_nil_of_length_eq_zero (by omega)
    subst e2
    exact⟨A,c,w,run_append_owned_none (P:=P) (w:=w) base _ ty e i size ht hi _ n xs h,by simpa using h,World.grownBy.refl _ _,.inl rfl⟩
  | some ad =>
    obtain⟨v',w',hr,ho,hg,hn,hat⟩:=run_append_own_at (P:=P) (w:=w) base t ty e i z size bytes ht hi hz hs hy hzs hsz (.slice A n c) n xs h ad m c2 news hl
      (fun j u hu=>by obtain⟨a',e,hc⟩:=hnews j u hu;injection e with e;subst e;exact hc) h1 hmax hb hbase
    rcases ho.2 with ⟨e,h0⟩ | ⟨g,cap,cur,e,_⟩
    · have h00:Value.slice none 0 0=.slice none (n+m) 0:=by rw[h0]
      rw[h00] at e
      subst e
      exact⟨none,0,w',hr,ho,hg,hat⟩
    · subst e
      exact⟨_,cap,w',hr,ho,hg,hat⟩
theorem wp_appG {P:Program}{o:Oper}{a:Act}{w:World}{K:Act→World→Prop}{R:Exit→Act→World→Prop}(t:TypeId)(s x:Operand)
  (ho:o.op=.call { callee:=.builtin .append,args:=#[s,x],argTypes:=#[t,t] })
  (base:Nat) (e:TypeId) (z:Value) (size bytes:Nat) (ht:P.underlying t=some (.slice e)) (hinfo:(P.info? e).map (fun i=>(i.zero,i.size,i.bytes))=some (some z,size,bytes))
  (hzs:z.cells.size=size) (hsz:0<size) (A:Option Addr) (n c:Nat) (xs:List Value) (hs:a.eval s=.slice A n c) (h:w.ownsRow base e size (.slice A n c) n xs)
  (A2:Option Addr) (m c2:Nat) (news:List Value) (hx:a.eval x=.slice A2 m c2) (hl:news.length=m*size) (hnews:∀ j u,news[j]? = some u→∃ a,A2=some a∧w.cell? (a.add j)=some u) (h1:∀ u∈news,u.oneCell'=true)
  (hnil:A2=none→m=0∧c2=0) (hmax:n+m≤maxLen) (hb:(n+m)*bytes≤140737488355328) (hbase:base≤w.heap.size)
  (hK:∀ A' c' w',w'.ownsRow base e size (.slice A' (n+m) c') (n+m) (xs++news)→w.grownBy w' (Value.slice A n c).ownBlock →
    ((Value.slice A' (n+m) c').ownBlock=(Value.slice A n c).ownBlock∨(Value.slice A' (n+m) c').ownBlock=some w.heap.size)→K (a.put o.dst (.slice A' (n+m) c')) w'):Oper.wp P o a w K R:=by
 obtain⟨A',c',w',hr,h3,h4,h5⟩:=run_appG (P:=P) (w:=w) base t o.type e z size bytes ht hinfo hzs hsz A n c xs h A2 m c2 news hl hnews h1 hnil hmax hb hbase
 unfold Oper.wp execOp
 simp only[ho,resolve,invoke,builtin,Sem.run_bind,Sem.run_pure,Result.andThen_ok,List.map_toArray,List.map_cons,List.map_nil,hs,hx,hr]
 exact hK A' c' w' h3 h4 h5
theorem wanted_plain {ops:Array Oper}{o:Oper}{a:Act}(hgd:o.guard=none):Region.wanted o (yielded ops a.tmps)=true:=by simp[Region.wanted,hgd]
theorem below_grown {B:Nat}{w w':World}{row:Option Nat}(hg:w.grownBy w' row)(hB:B≤w.heap.size)(hr:∀ k,row=some k→B≤k):Below B w w':=(Below.refl _ _).grown hg hB hr
end
section
open Go.RowKit Dkm
theorem Files.grown {w w':World}{A:Option Addr}{n:Nat}{l:List Fil}{row:Option Nat}(h:Files w A n l)(hg:w.grownBy w' row)(hne:∀ ad,A=some ad→some ad.block≠row):Files w' A n l:=by
 refine⟨h.1,fun j u hu=>?_⟩
 obtain⟨a,e,hb,hc⟩:=h.2 j u hu
 have hblk:(a.add j).block=a.block:=by unfold Addr.add;split<;>rfl
 exact⟨a,e,Nat.lt_of_lt_of_le hb hg.size,hg.cell hc (by rw[hblk];exact hne a e)⟩
theorem step_appF {ops:Array Oper}{o:Oper}{a:Act}{w:World}{K:Act→World→Prop}{R:Exit→Act→World→Prop}{E:Prop}(hgd:o.guard=none)(s x:Operand)
  (ho:o.op=.call { callee:=.builtin .append,args:=#[s,x],argTypes:=#[22, 22] })
  (base:Nat) (A:Option Addr) (n c:Nat) (l:List Fil) (hs:a.eval s=.slice A n c) (h:Own w base A n c l) (A2:Option Addr) (m c2:Nat) (l2:List Fil) (hx:a.eval x=.slice A2 m c2) (h2:Files w A2 m l2) (hnil:A2=none→m=0∧c2=0)
  (hb:(n+m)*48≤140737488355328) (hbase:base≤w.heap.size) (k:Nat) (hk:n+m=k) (l':List Fil) (hl:l++l2=l')
  (hK:∀ A' c' w',Own w' base A' k c' l'→w.grownBy w' (Value.slice A n c).ownBlock→Below base w w'→K (a.put o.dst (.slice A' k c')) w') :
  if Region.wanted o (yielded ops a.tmps)=true then Oper.wp Tryz.prog o a w K R else E:=by
 subst hk hl
 rw[if_pos (wanted_plain hgd)]
 refine wp_appG 22 s x ho base 119 _ 3 48 Tryz.underlying22 file_info rfl (by omega) A n c (rows l) hs h A2 m c2 (rows l2) hx h2.1
   (fun j u hu=>by obtain⟨a',e,_,hc⟩:=h2.2 j u hu;exact⟨a',e,hc⟩) (rows_one l2) hnil (by unfold maxLen;omega) hb hbase ?_
 intro A' c' w' h3 h4 h5
 rw[←rows_append] at h3
 refine hK A' c' w' h3 h4 (below_grown h4 hbase fun k hk=>?_)
 rcases Own.parts h with ⟨rfl,_⟩ | ⟨g,cur,rfl,hb,_⟩
 · cases hk
 · simp only[Value.ownBlock,Option.some.injEq] at hk;omega
section
variable {w wr:World} {A:Option Addr} {n c:Nat} {room fuse:Int} {off:Bool}
theorem Sb.setFiles (h:Sb w A n c room fuse off wr)(A2:Option Addr)(n2 c2:Nat):Sb w A2 n2 c2 room fuse off (wr.setCell ⟨w.heap.size,0,none⟩ (.slice A2 n2 c2)):=
 ⟨h.box.set (k:=0) (by simp) _,h.res.far (p:=⟨w.heap.size,0,none⟩) (by simp) _,h.q.setCell (p:=⟨w.heap.size,0,none⟩) (Nat.le_refl _) _⟩
theorem Sb.far1 (h:Sb w A n c room fuse off wr){g:Nat}(hg:w.heap.size+1<g)(k:Nat)(x:Value):Sb w A n c room fuse off (wr.setCell ⟨g,k,none⟩ x):=
 ⟨h.box.far (p:=⟨g,k,none⟩) (by simp only;omega) _,h.res.far (p:=⟨g,k,none⟩) (by simp only;omega) _,h.q.setCell (p:=⟨g,k,none⟩) (by simp only;omega) _⟩
theorem Sb.setRoom (h:Sb w A n c room fuse off wr)(x:Int):Sb w A n c x fuse off (wr.setCell ⟨w.heap.size,1,none⟩ (.int .i64 x)):=
 ⟨h.box.set (k:=1) (by simp) _,h.res.far (p:=⟨w.heap.size,1,none⟩) (by simp) _,h.q.setCell (p:=⟨w.heap.size,1,none⟩) (Nat.le_refl _) _⟩
theorem Sb.setFuse (h:Sb w A n c room fuse off wr)(x:Int):Sb w A n c room x off (wr.setCell ⟨w.heap.size,2,none⟩ (.int .i64 x)):=
 ⟨h.box.set (k:=2) (by simp) _,h.res.far (p:=⟨w.heap.size,2,none⟩) (by simp) _,h.q.setCell (p:=⟨w.heap.size,2,none⟩) (Nat.le_refl _) _⟩
theorem Sb.setOff (h:Sb w A n c room fuse off wr)(x:Bool):Sb w A n c room fuse x (wr.setCell ⟨w.heap.size,3,none⟩ (.bool x)):=
 ⟨h.box.set (k:=3) (by simp) _,h.res.far (p:=⟨w.heap.size,3,none⟩) (by simp) _,h.q.setCell (p:=⟨w.heap.size,3,none⟩) (Nat.le_refl _) _⟩
theorem own_ne {w:World}{base:Nat}{A:Option Addr}{n c:Nat}{l:List Fil}(h:Own w base A n c l){g:Nat}(hg:g<base):∀ ad,A=some ad→ad.block≠g:=by
 intro ad e
 rcases h.parts with ⟨e',_⟩ | ⟨g',_,e',hb,_⟩
 · rw[e'] at e;cases e
 · rw[e'] at e;injection e with e;subst e;simp only;omega
def C15 (w W:World)(g n:Nat)(room fuse:Int)(nm:ByteArray)(L:List Fil)(s8:Value)(wx:World):Prop:=
 ∃ A2 c2,s8=.int .i64 n∧Sb w A2 (n+1) c2 room fuse false wx∧Own wx W.heap.size A2 (n+1) c2 L∧Bx wx g [.string nm,.string ⟨#[]⟩,.string ⟨#[]⟩]
theorem leaf15 {W w2:World}{g:Nat}{nm:ByteArray}{L:List Fil}{A2:Option Addr}{c2:Nat}(hB:Bx W g [.string nm,.string ⟨#[]⟩,.string ⟨#[]⟩])(hS:Sb w A n c room fuse false W)(hg:w.heap.size+1<g)(q:Below W.heap.size W w2)(ho:Own w2 W.heap.size A2 (n+1) c2 L) :
  C15 w W g n room fuse nm L (.int .i64 n) (w2.setCell ⟨w.heap.size,0,none⟩ (.slice A2 (n+1) c2)):=by
 have hlt:=hB.lt
 exact⟨A2,c2,rfl,(hS.step q).setFiles A2 (n+1) c2,ho.setCell (p:=⟨w.heap.size,0,none⟩) (by simp only;omega) _,(hB.q q).far (p:=⟨w.heap.size,0,none⟩) (by simp only;omega) _⟩
structure Sd (w:World) (A:Option Addr) (n c:Nat) (room fuse:Int) (off:Bool) (L:List Fil) (wr:World):Prop where
 sb:Sb w A n c room fuse off wr
 own:Own wr (w.heap.size+2) A n c L
variable {L:List Fil}
theorem Sd.setRoom (h:Sd w A n c room fuse off L wr)(x:Int):Sd w A n c x fuse off L (wr.setCell ⟨w.heap.size,1,none⟩ (.int .i64 x)):=⟨h.sb.setRoom x,h.own.setCell (p:=⟨w.heap.size,1,none⟩) (by simp) _⟩
theorem Sd.setFuse (h:Sd w A n c room fuse off L wr)(x:Int):Sd w A n c room x off L (wr.setCell ⟨w.heap.size,2,none⟩ (.int .i64 x)):=⟨h.sb.setFuse x,h.own.setCell (p:=⟨w.heap.size,2,none⟩) (by simp) _⟩
theorem Sd.setOff (h:Sd w A n c room fuse off L wr)(x:Bool):Sd w A n c room fuse x L (wr.setCell ⟨w.heap.size,3,none⟩ (.bool x)):=⟨h.sb.setOff x,h.own.setCell (p:=⟨w.heap.size,3,none⟩) (by simp) _⟩
theorem Sd.new {w5:World}{A0:Option Addr}{n0 c0:Nat}(h:Sb w A0 n0 c0 room fuse off wr)(q:Q wr w5)(ho:Own w5 wr.heap.size A n c L) :
  Sd w A n c room fuse off L ((((w5.setCell ⟨w.heap.size,0,none⟩ (.slice A n c)).setCell ⟨w.heap.size,1,none⟩ (.int .i64 room)).setCell ⟨w.heap.size,2,none⟩ (.int .i64 fuse)).setCell ⟨w.heap.size,3,none⟩ (.bool off)):=
 ⟨(h.step q).put4 A n c room fuse off,(ho.lower (by have:=h.res.lt;omega)).set4 (b:=w.heap.size) (by omega) _ _ _ _⟩
theorem Sd.endK (h:Sd w A n c room fuse off L wr)(hn:n*48≤140737488355328){A0:Option Addr}{n0:Nat}(er:Int)(x y z u:Value):RetDK w A0 n0 ⟨L,room,fuse,off⟩ er (.returned (.tuple #[dkv A n c room fuse off,.int .i64 er])) ((((wr.setCell ⟨w.heap.size+1,0,none⟩ x).setCell ⟨w.heap.size+1,1,none⟩ y).setCell ⟨w.heap.size+1,2,none⟩ z).setCell ⟨w.heap.size+1,3,none⟩ u):=
 ⟨A,n,c,rfl,(h.own.set4 (b:=w.heap.size+1) (by omega) _ _ _ _).dsk hn,.inr (fun ad e=>by
   rcases h.own.2 with ⟨e',_⟩ | ⟨g,cap,cur,e',hb,_⟩
   · simp only[Value.slice.injEq] at e';rw[e'.1] at e;cases e
   · simp only[Value.slice.injEq] at e';rw[e'.1] at e;injection e with e;subst e;simp only;omega),h.sb.q.set4 (b:=w.heap.size+1) (by omega) _ _ _ _⟩
end
theorem ref_app_none_neg (nm s:ByteArray)(A:Option Addr)(n c:Nat)(room fuse:Int)(l:List Fil)(w:World)(hd:Dsk w A n c l)(hk:nmOk nm=true)(p:Int)(hp:plc nm l 0=p)(h0:p<0)(hn64:n<64)(hr:(s.size:Int)≤room)(hs:s.size≤2305843009213693952)(hfu:fuse<0)(hrm:room≤9223372036854775807)(hsum:s.size≤65536) :
  Calls Tryz.prog 98 #[dkv A n c room fuse false,.string nm,.string s] w fun e w'=>RetDK w A n ⟨(l++[(⟨nm,⟨#[]⟩,⟨#[]⟩⟩:Fil)]).set n ⟨nm,⟨#[]⟩,⟨#[]⟩++s⟩,room - (s.size:Nat),fuse,false⟩ 0 e w':=by
 have hnm:=hd.max
 unfold maxLen at hnm
 have hfew:=hd.few
 have HD:=hid hd
 have HP:=hid hp
 clear hd hp
 obtain⟨o1,o2⟩:=nmOk_yes hk
 have o3:¬ (nm.size:Int)<1:=by omega
 have o4:¬ room<(s.size:Int):=by omega
 clear hk
 have S0:=hid (Sb.new w A n c room fuse false)
 have q4:¬ (64:Int)≤(n:Int):=by omega
 go_enter Tryz.func98,Tryz.ntmps98
 go_wp2_with fail
 refine(ref_at nm A n c room fuse false l _ (HD.out.files.q S0.out.q) HD.out.max).mono ?_
 rw[HP.out]
 rintro e w1 ⟨rfl,q1⟩
 have S1:=hid (S0.out.step q1)
 clear S0 q1
 obtain⟨⟨e0,e1,e2,e3⟩,f0,f1,f2,f3⟩:=S1.out.get
 have z0:w.heap.size+1<w1.heap.size:=S1.out.res.lt
 go_upto_region 11 with (fail)
 have B1:=hid (And.intro (Bx.new w1 [.string nm,.string ⟨#[]⟩,.string ⟨#[]⟩] 119) (S1.out.step ((Q.refl _).alloc (.cells #[.string nm,.string ⟨#[]⟩,.string ⟨#[]⟩] 119))))
 generalize (w1.alloc (.cells #[.string nm,.string ⟨#[]⟩,.string ⟨#[]⟩] 119))=W at B1 ⊢
 generalize w1.heap.size=g at B1 z0 ⊢
 clear e0 e1 e2 e3 f0 f1 f2 f3
 obtain⟨⟨b0,b1,b2⟩,_⟩:=B1.out.1.get3
 obtain⟨⟨e0,e1,e2,e3⟩,f0,f1,f2,f3⟩:=B1.out.2.get
 go_upto_region 15 with (fail)
 go_cut [8] (fun s8 wx=>C15 w W g n room fuse nm (l++[⟨nm,⟨#[]⟩,⟨#[]⟩⟩]) s8 wx)
 case first =>
  have W0:=hid (Q.refl W)
  refine wp_region_heldL 8 (Q W) (by kernel_rfl) ?szz0 (fun hHeld=>?rzz0)
  case szz0 =>
   exact(Q.refl W).drew
  refine takeL 1 ?v1 ?y1 ?_
  case y1=>intro w hSw;have x0:=box_ hSw e0;have x1:=box_ hSw b0;have x2:=box_ hSw b1;have x3:=box_ hSw b2;clear hSw;go_simp;try with_reducible rfl
  refine takeL 2 ?v2 ?y2 ?_
  case y2=>intro w hSw;have x0:=box_ hSw e0;have x1:=box_ hSw b0;have x2:=box_ hSw b1;have x3:=box_ hSw b2;clear hSw;go_simp;try with_reducible rfl
  refine takeL 4 ?v3 ?y3 ?_
  case y3=>intro w hSw;have x0:=box_ hSw e0;have x1:=box_ hSw b0;have x2:=box_ hSw b1;have x3:=box_ hSw b2;clear hSw;go_simp;try with_reducible rfl
  refine wpAnyL_ready (rs:=[0,5]) (by kernel_rfl) (by simp) ?_
  refine consL (fun K hK=>?kzz19) ?_
  case kzz19 =>
   go_simp
   refine hK.out _ _ ((by repeat (first | exact Q.refl _ | refine Q.drew ?_ | refine Q.alloc ?_ _))) (fun hHeld=>?_)
   clear hK K
   try simp only[Act.put,sA,sB,sC]
   refine wpAnyL_ready (rs:=[3,5]) (by kernel_rfl) (by simp) ?_
   refine consL (fun K hK=>?kzz12) ?_
   case kzz12 =>
    refine step_appF (by rfl) _ _ (by rfl) W.heap.size (some ⟨W.heap.size,0,none⟩) 0 0 [] (by rfl) ((own_lit0 W W.heap.size (Nat.le_refl _)).q (by repeat (first | exact Q.refl _ | refine Q.drew ?_ | refine Q.alloc ?_ _))) A n c l (by rfl) (HD.out.files.q (B1.out.2.q.trans (by repeat (first | exact Q.refl _ | refine Q.drew ?_ | refine Q.alloc ?_ _)))) HD.out.nil (by omega) (by simp;try omega) n (Nat.zero_add n) l rfl ?_
    intro A1 c1 w1 ho1 hg1 hb1
    refine hK.out _ _ ((show Q W _ from (by repeat (first | exact Q.refl _ | refine Q.drew ?_ | refine Q.alloc ?_ _))).below.trans hb1) (fun hHeld=>?_)
    clear hK K
    try simp only[Act.put,sA,sB,sC]
    have BW:=hHeld
    refine oneL 5 (fun K hK=>?_)
    go_simp
    refine hK.out _ _ (BW.alloc _) (fun hHeld=>?_)
    clear hK K
    try simp only[Act.put,sA,sB,sC]
    refine oneL 6 (fun K hK=>?_)
    refine step_appF (by rfl) _ _ (by rfl) W.heap.size A1 n c1 l (by rfl) (ho1.alloc _) (some ⟨w1.heap.size,0,none⟩) 1 1 [⟨nm,⟨#[]⟩,⟨#[]⟩⟩] (by rfl) (files_lit1 w1 ⟨nm,⟨#[]⟩,⟨#[]⟩⟩) (fun e=>by cases e) (by omega) (by have:=BW.size;(try simp only[World.size_alloc]);omega) (n+1) rfl (l++[⟨nm,⟨#[]⟩,⟨#[]⟩⟩]) rfl ?_
    intro A2 c2 w2 ho2 hg2 hb2
    refine hK.out _ _ ((BW.alloc _).below.trans hb2) (fun hHeld=>?_)
    clear hK K
    try simp only[Act.put,sA,sB,sC]
    refine takeL 7 ?v4 ?y4 ?_
    case y4=>intro w hSw;have x0:=box_ hSw e0;have x1:=box_ hSw b0;have x2:=box_ hSw b1;have x3:=box_ hSw b2;clear hSw;go_simp;try with_reducible rfl
    refine oneK (fun K hK=>?_)
    obtain⟨⟨x0,x1,x2,x3⟩,y0,y1,y2,y3⟩:=(B1.out.2.step hHeld).get
    go_simp
    refine hK.out _ _ ?_
    clear hK K
    try simp only[Act.put,sA,sB,sC]
    refine doneH ?_
    go_wp2_with fail
    go_meet
    exact leaf15 B1.out.1 B1.out.2 z0 hHeld ho2
   refine consL (fun K hK=>?_) AllReadyL.nil
   go_simp
   refine hK.out _ _ ((by repeat (first | exact Q.refl _ | refine Q.drew ?_ | refine Q.alloc ?_ _))) (fun hHeld=>?_)
   clear hK K
   try simp only[Act.put,sA,sB,sC]
   refine oneL 3 (fun K hK=>?_)
   refine step_appF (by rfl) _ _ (by rfl) W.heap.size (some ⟨W.heap.size,0,none⟩) 0 0 [] (by rfl) ((own_lit0 W W.heap.size (Nat.le_refl _)).q (by repeat (first | exact Q.refl _ | refine Q.drew ?_ | refine Q.alloc ?_ _))) A n c l (by rfl) (HD.out.files.q (B1.out.2.q.trans (by repeat (first | exact Q.refl _ | refine Q.drew ?_ | refine Q.alloc ?_ _)))) HD.out.nil (by omega) (by simp;try omega) n (Nat.zero_add n) l rfl ?_
   intro A1 c1 w1 ho1 hg1 hb1
   refine hK.out _ _ ((show Q W _ from (by repeat (first | exact Q.refl _ | refine Q.drew ?_ | refine Q.alloc ?_ _))).below.trans hb1) (fun hHeld=>?_)
   clear hK K
   try simp only[Act.put,sA,sB,sC]
   have BW:=hHeld
   refine oneL 6 (fun K hK=>?_)
   refine step_appF (by rfl) _ _ (by rfl) W.heap.size A1 n c1 l (by rfl) ho1 (some ⟨W.heap.size+1,0,none⟩) 1 1 [⟨nm,⟨#[]⟩,⟨#[]⟩⟩] (by rfl) (((show Files ((W.alloc (.cells #[] 119)).alloc (.cells #[.string nm,.string ⟨#[]⟩,.string ⟨#[]⟩] 119)) (some ⟨W.heap.size+1,0,none⟩) 1 [⟨nm,⟨#[]⟩,⟨#[]⟩⟩] by have:=files_lit1 (W.alloc (.cells #[] 119)) ⟨nm,⟨#[]⟩,⟨#[]⟩⟩;simpa using this).q (by repeat (first | exact Q.refl _ | refine Q.drew ?_ | refine Q.alloc ?_ _))).grown hg1 (fun ad e=>by injection e with e;subst e;simp[Value.ownBlock])) (fun e=>by cases e) (by omega) (by have:=BW.size;(try simp only[World.size_alloc]);omega) (n+1) rfl (l++[⟨nm,⟨#[]⟩,⟨#[]⟩⟩]) rfl ?_
   intro A2 c2 w2 ho2 hg2 hb2
   refine hK.out _ _ (BW.below.trans hb2) (fun hHeld=>?_)
   clear hK K
   try simp only[Act.put,sA,sB,sC]
   refine takeL 7 ?v8 ?y8 ?_
   case y8=>intro w hSw;have x0:=box_ hSw e0;have x1:=box_ hSw b0;have x2:=box_ hSw b1;have x3:=box_ hSw b2;clear hSw;go_simp;try with_reducible rfl
   refine oneK (fun K hK=>?_)
   obtain⟨⟨x0,x1,x2,x3⟩,y0,y1,y2,y3⟩:=(B1.out.2.step hHeld).get
   go_simp
   refine hK.out _ _ ?_
   clear hK K
   try simp only[Act.put,sA,sB,sC]
   refine doneH ?_
   go_wp2_with fail
   go_meet
   exact leaf15 B1.out.1 B1.out.2 z0 hHeld ho2
  refine consL (fun K hK=>?_) AllReadyL.nil
  go_simp
  refine hK.out _ _ ((by repeat (first | exact Q.refl _ | refine Q.drew ?_ | refine Q.alloc ?_ _))) (fun hHeld=>?_)
  clear hK K
  try simp only[Act.put,sA,sB,sC]
  refine oneL 0 (fun K hK=>?_)
  go_simp
  refine hK.out _ _ ((by repeat (first | exact Q.refl _ | refine Q.drew ?_ | refine Q.alloc ?_ _))) (fun hHeld=>?_)
  clear hK K
  try simp only[Act.put,sA,sB,sC]
  refine oneL 3 (fun K hK=>?_)
  refine step_appF (by rfl) _ _ (by rfl) W.heap.size (some ⟨W.heap.size+1,0,none⟩) 0 0 [] (by rfl) ((show Own ((W.alloc (.cells #[.string nm,.string ⟨#[]⟩,.string ⟨#[]⟩] 119)).alloc (.cells #[] 119)) W.heap.size (some ⟨W.heap.size+1,0,none⟩) 0 0 [] by have:=own_lit0 (W.alloc (.cells #[.string nm,.string ⟨#[]⟩,.string ⟨#[]⟩] 119)) W.heap.size (by simp);simpa using this).q (by repeat (first | exact Q.refl _ | refine Q.drew ?_ | refine Q.alloc ?_ _))) A n c l (by rfl) (HD.out.files.q (B1.out.2.q.trans (by repeat (first | exact Q.refl _ | refine Q.drew ?_ | refine Q.alloc ?_ _)))) HD.out.nil (by omega) (by simp;try omega) n (Nat.zero_add n) l rfl ?_
  intro A1 c1 w1 ho1 hg1 hb1
  refine hK.out _ _ ((show Q W _ from (by repeat (first | exact Q.refl _ | refine Q.drew ?_ | refine Q.alloc ?_ _))).below.trans hb1) (fun hHeld=>?_)
  clear hK K
  try simp only[Act.put,sA,sB,sC]
  have BW:=hHeld
  refine oneL 6 (fun K hK=>?_)
  refine step_appF (by rfl) _ _ (by rfl) W.heap.size A1 n c1 l (by rfl) ho1 (some ⟨W.heap.size,0,none⟩) 1 1 [⟨nm,⟨#[]⟩,⟨#[]⟩⟩] (by rfl) ((((files_lit1 W ⟨nm,⟨#[]⟩,⟨#[]⟩⟩).q ((Q.refl _).alloc (.cells #[] 119))).q (by repeat (first | exact Q.refl _ | refine Q.drew ?_ | refine Q.alloc ?_ _))).grown hg1 (fun ad e=>by injection e with e;subst e;simp[Value.ownBlock])) (fun e=>by cases e) (by omega) (by have:=BW.size;(try simp only[World.size_alloc]);omega) (n+1) rfl (l++[⟨nm,⟨#[]⟩,⟨#[]⟩⟩]) rfl ?_
  intro A2 c2 w2 ho2 hg2 hb2
  refine hK.out _ _ (BW.below.trans hb2) (fun hHeld=>?_)
  clear hK K
  try simp only[Act.put,sA,sB,sC]
  refine takeL 7 ?v14 ?y14 ?_
  case y14=>intro w hSw;have x0:=box_ hSw e0;have x1:=box_ hSw b0;have x2:=box_ hSw b1;have x3:=box_ hSw b2;clear hSw;go_simp;try with_reducible rfl
  refine oneK (fun K hK=>?_)
  obtain⟨⟨x0,x1,x2,x3⟩,y0,y1,y2,y3⟩:=(B1.out.2.step hHeld).get
  go_simp
  refine hK.out _ _ ?_
  clear hK K
  try simp only[Act.put,sA,sB,sC]
  refine doneH ?_
  go_wp2_with fail
  go_meet
  exact leaf15 B1.out.1 B1.out.2 z0 hHeld ho2
 case rest =>
 obtain⟨A2,c2,rfl,vS,vO,vB⟩:=hcut
 have n48:(n+1)*48≤140737488355328:=by omega
 have HNE:=hid (own_ne vO (g:=g) B1.out.1.lt)
 have O1:=hid (vO.dsk n48)
 have B2:=hid (And.intro vB vS)
 clear vS vO vB B1 HD e0 e1 e2 e3 f0 f1 f2 f3 b0 b1 b2
 have B1:=B2
 clear B2
 have qk:n<n+1:=by omega
 go_upto_region 16 with (fail)
 obtain⟨⟨b0,b1,b2⟩,_⟩:=B1.out.1.get3
 obtain⟨⟨e0,e1,e2,e3⟩,f0,f1,f2,f3⟩:=B1.out.2.get
 clear b0 b1 b2 e0 e1 e2 e3 f0 f1 f2 f3
 obtain⟨⟨b0,b1,b2⟩,y0,y1,y2⟩:=B1.out.1.get3
 obtain⟨⟨e0,e1,e2,e3⟩,f0,f1,f2,f3⟩:=B1.out.2.get
 have v0:¬ 0≤fuse:=by omega
 go_upto_region 19 with (fail)
 go_region
 all_goals
   go_upto_region 20 with (fail)
   have B2:=hid (And.intro ((B1.out.1.set (k:=2) (by simp) (.string (⟨#[]⟩++s))).q (Q.refl _).drew) ((B1.out.2.far1 z0 2 (.string (⟨#[]⟩++s))).step (Q.refl _).drew))
   have O2:=hid ((O1.out.away HNE.out 2 (.string (⟨#[]⟩++s))).q (Q.refl _).drew)
   clear b0 b1 b2 y0 y1 y2 e0 e1 e2 e3 f0 f1 f2 f3 B1 O1 HNE
   generalize (wc.setCell ⟨g,2,none⟩ (.string (⟨#[]⟩++s))).drew=V at B2 O2 ⊢
   obtain⟨⟨b0,b1,b2⟩,_⟩:=B2.out.1.get3
   obtain⟨⟨e0,e1,e2,e3⟩,_⟩:=B2.out.2.get
   go_wp2_with fail
   refine(ref_with A2 (n+1) c2 room fuse false n ⟨nm,⟨#[]⟩,⟨#[]⟩++s⟩ (l++[(⟨nm,⟨#[]⟩,⟨#[]⟩⟩:Fil)]) _ O2.out qk).mono ?_
   rintro e w5 ⟨A5,c5,rfl,ho5,q5⟩
   have D1:=hid (Sd.new B2.out.2 q5 ho5)
   have P1:=B2.out.2.step q5
   have hn5:(n+1)*48≤140737488355328:=O2.out.few
   clear b0 b1 b2 e0 e1 e2 e3 B2 O2 ho5 q5
   obtain⟨⟨e0,e1,e2,e3⟩,f0,f1,f2,f3⟩:=P1.get
   clear P1
   go_upto_region 21 with (fail)
   generalize ((((w5.setCell ⟨w.heap.size,0,none⟩ (.slice A5 (n+1) c5)).setCell ⟨w.heap.size,1,none⟩ (.int .i64 room)).setCell ⟨w.heap.size,2,none⟩ (.int .i64 fuse)).setCell ⟨w.heap.size,3,none⟩ (.bool false))=V1 at D1 ⊢
   clear e0 e1 e2 e3 f0 f1 f2 f3
   obtain⟨⟨e0,e1,e2,e3⟩,f0,f1,f2,f3⟩:=D1.out.sb.get
   go_upto_region 22 with (fail)
   have D2:=hid (D1.out.setRoom (room - (s.size:Nat)))
   clear e0 e1 e2 e3 f0 f1 f2 f3 D1
   generalize (V1.setCell ⟨w.heap.size,1,none⟩ (.int .i64 (room - (s.size:Nat))))=V2 at D2 ⊢
   obtain⟨⟨e0,e1,e2,e3⟩,f0,f1,f2,f3⟩:=D2.out.sb.get
   go_upto_region 24 with (fail)
   obtain⟨⟨s0,s1,s2,s3⟩,h0',h1,h2,h3⟩:=D2.out.sb.getR
   go_wp2
   refine bodyPost_ret (v:=.tuple #[dkv A5 (n+1) c5 (room - (s.size:Nat)) fuse false,.int .i64 0]) (by simp[results,Tryz.results98,go_sem,s0,s1,s2,s3]) rfl ?_
   exact D2.out.endK hn5 0 _ _ _ _
theorem ref_app_none_fits (nm s:ByteArray)(A:Option Addr)(n c:Nat)(room fuse:Int)(l:List Fil)(w:World)(hd:Dsk w A n c l)(hk:nmOk nm=true)(p:Int)(hp:plc nm l 0=p)(h0:p<0)(hn64:n<64)(hr:(s.size:Int)≤room)(hs:s.size≤2305843009213693952)(hfu:(s.size:Int)≤fuse)(hfm:fuse≤9223372036854775807)(hrm:room≤9223372036854775807)(hsum:s.size≤65536) :
  Calls Tryz.prog 98 #[dkv A n c room fuse false,.string nm,.string s] w fun e w'=>RetDK w A n ⟨(l++[(⟨nm,⟨#[]⟩,⟨#[]⟩⟩:Fil)]).set n ⟨nm,⟨#[]⟩,⟨#[]⟩++s⟩,room - (s.size:Nat),fuse - (s.size:Nat),false⟩ 0 e w':=by
 have hnm:=hd.max
 unfold maxLen at hnm
 have hfew:=hd.few
 have HD:=hid hd
 have HP:=hid hp
 clear hd hp
 obtain⟨o1,o2⟩:=nmOk_yes hk
 have o3:¬ (nm.size:Int)<1:=by omega
 have o4:¬ room<(s.size:Int):=by omega
 clear hk
 have S0:=hid (Sb.new w A n c room fuse false)
 have q4:¬ (64:Int)≤(n:Int):=by omega
 go_enter Tryz.func98,Tryz.ntmps98
 go_wp2_with fail
 refine(ref_at nm A n c room fuse false l _ (HD.out.files.q S0.out.q) HD.out.max).mono ?_
 rw[HP.out]
 rintro e w1 ⟨rfl,q1⟩
 have S1:=hid (S0.out.step q1)
 clear S0 q1
 obtain⟨⟨e0,e1,e2,e3⟩,f0,f1,f2,f3⟩:=S1.out.get
 have z0:w.heap.size+1<w1.heap.size:=S1.out.res.lt
 go_upto_region 11 with (fail)
 have B1:=hid (And.intro (Bx.new w1 [.string nm,.string ⟨#[]⟩,.string ⟨#[]⟩] 119) (S1.out.step ((Q.refl _).alloc (.cells #[.string nm,.string ⟨#[]⟩,.string ⟨#[]⟩] 119))))
 generalize (w1.alloc (.cells #[.string nm,.string ⟨#[]⟩,.string ⟨#[]⟩] 119))=W at B1 ⊢
 generalize w1.heap.size=g at B1 z0 ⊢
 clear e0 e1 e2 e3 f0 f1 f2 f3
 obtain⟨⟨b0,b1,b2⟩,_⟩:=B1.out.1.get3
 obtain⟨⟨e0,e1,e2,e3⟩,f0,f1,f2,f3⟩:=B1.out.2.get
 go_upto_region 15 with (fail)
 go_cut [8] (fun s8 wx=>C15 w W g n room fuse nm (l++[⟨nm,⟨#[]⟩,⟨#[]⟩⟩]) s8 wx)
 case first =>
  have W0:=hid (Q.refl W)
  refine wp_region_heldL 8 (Q W) (by kernel_rfl) ?szz21 (fun hHeld=>?rzz21)
  case szz21 =>
   exact(Q.refl W).drew
  refine takeL 1 ?v22 ?y22 ?_
  case y22=>intro w hSw;have x0:=box_ hSw e0;have x1:=box_ hSw b0;have x2:=box_ hSw b1;have x3:=box_ hSw b2;clear hSw;go_simp;try with_reducible rfl
  refine takeL 2 ?v23 ?y23 ?_
  case y23=>intro w hSw;have x0:=box_ hSw e0;have x1:=box_ hSw b0;have x2:=box_ hSw b1;have x3:=box_ hSw b2;clear hSw;go_simp;try with_reducible rfl
  refine takeL 4 ?v24 ?y24 ?_
  case y24=>intro w hSw;have x0:=box_ hSw e0;have x1:=box_ hSw b0;have x2:=box_ hSw b1;have x3:=box_ hSw b2;clear hSw;go_simp;try with_reducible rfl
  refine wpAnyL_ready (rs:=[0,5]) (by kernel_rfl) (by simp) ?_
  refine consL (fun K hK=>?kzz40) ?_
  case kzz40 =>
   go_simp
   refine hK.out _ _ ((by repeat (first | exact Q.refl _ | refine Q.drew ?_ | refine Q.alloc ?_ _))) (fun hHeld=>?_)
   clear hK K
   try simp only[Act.put,sA,sB,sC]
   refine wpAnyL_ready (rs:=[3,5]) (by kernel_rfl) (by simp) ?_
   refine consL (fun K hK=>?kzz33) ?_
   case kzz33 =>
    refine step_appF (by rfl) _ _ (by rfl) W.heap.size (some ⟨W.heap.size,0,none⟩) 0 0 [] (by rfl) ((own_lit0 W W.heap.size (Nat.le_refl _)).q (by repeat (first | exact Q.refl _ | refine Q.drew ?_ | refine Q.alloc ?_ _))) A n c l (by rfl) (HD.out.files.q (B1.out.2.q.trans (by repeat (first | exact Q.refl _ | refine Q.drew ?_ | refine Q.alloc ?_ _)))) HD.out.nil (by omega) (by simp;try omega) n (Nat.zero_add n) l rfl ?_
    intro A1 c1 w1 ho1 hg1 hb1
    refine hK.out _ _ ((show Q W _ from (by repeat (first | exact Q.refl _ | refine Q.drew ?_ | refine Q.alloc ?_ _))).below.trans hb1) (fun hHeld=>?_)
    clear hK K
    try simp only[Act.put,sA,sB,sC]
    have BW:=hHeld
    refine oneL 5 (fun K hK=>?_)
    go_simp
    refine hK.out _ _ (BW.alloc _) (fun hHeld=>?_)
    clear hK K
    try simp only[Act.put,sA,sB,sC]
    refine oneL 6 (fun K hK=>?_)
    refine step_appF (by rfl) _ _ (by rfl) W.heap.size A1 n c1 l (by rfl) (ho1.alloc _) (some ⟨w1.heap.size,0,none⟩) 1 1 [⟨nm,⟨#[]⟩,⟨#[]⟩⟩] (by rfl) (files_lit1 w1 ⟨nm,⟨#[]⟩,⟨#[]⟩⟩) (fun e=>by cases e) (by omega) (by have:=BW.size;(try simp only[World.size_alloc]);omega) (n+1) rfl (l++[⟨nm,⟨#[]⟩,⟨#[]⟩⟩]) rfl ?_
    intro A2 c2 w2 ho2 hg2 hb2
    refine hK.out _ _ ((BW.alloc _).below.trans hb2) (fun hHeld=>?_)
    clear hK K
    try simp only[Act.put,sA,sB,sC]
    refine takeL 7 ?v25 ?y25 ?_
    case y25=>intro w hSw;have x0:=box_ hSw e0;have x1:=box_ hSw b0;have x2:=box_ hSw b1;have x3:=box_ hSw b2;clear hSw;go_simp;try with_reducible rfl
    refine oneK (fun K hK=>?_)
    obtain⟨⟨x0,x1,x2,x3⟩,y0,y1,y2,y3⟩:=(B1.out.2.step hHeld).get
    go_simp
    refine hK.out _ _ ?_
    clear hK K
    try simp only[Act.put,sA,sB,sC]
    refine doneH ?_
    go_wp2_with fail
    go_meet
    exact leaf15 B1.out.1 B1.out.2 z0 hHeld ho2
   refine consL (fun K hK=>?_) AllReadyL.nil
   go_simp
   refine hK.out _ _ ((by repeat (first | exact Q.refl _ | refine Q.drew ?_ | refine Q.alloc ?_ _))) (fun hHeld=>?_)
   clear hK K
   try simp only[Act.put,sA,sB,sC]
   refine oneL 3 (fun K hK=>?_)
   refine step_appF (by rfl) _ _ (by rfl) W.heap.size (some ⟨W.heap.size,0,none⟩) 0 0 [] (by rfl) ((own_lit0 W W.heap.size (Nat.le_refl _)).q (by repeat (first | exact Q.refl _ | refine Q.drew ?_ | refine Q.alloc ?_ _))) A n c l (by rfl) (HD.out.files.q (B1.out.2.q.trans (by repeat (first | exact Q.refl _ | refine Q.drew ?_ | refine Q.alloc ?_ _)))) HD.out.nil (by omega) (by simp;try omega) n (Nat.zero_add n) l rfl ?_
   intro A1 c1 w1 ho1 hg1 hb1
   refine hK.out _ _ ((show Q W _ from (by repeat (first | exact Q.refl _ | refine Q.drew ?_ | refine Q.alloc ?_ _))).below.trans hb1) (fun hHeld=>?_)
   clear hK K
   try simp only[Act.put,sA,sB,sC]
   have BW:=hHeld
   refine oneL 6 (fun K hK=>?_)
   refine step_appF (by rfl) _ _ (by rfl) W.heap.size A1 n c1 l (by rfl) ho1 (some ⟨W.heap.size+1,0,none⟩) 1 1 [⟨nm,⟨#[]⟩,⟨#[]⟩⟩] (by rfl) (((show Files ((W.alloc (.cells #[] 119)).alloc (.cells #[.string nm,.string ⟨#[]⟩,.string ⟨#[]⟩] 119)) (some ⟨W.heap.size+1,0,none⟩) 1 [⟨nm,⟨#[]⟩,⟨#[]⟩⟩] by have:=files_lit1 (W.alloc (.cells #[] 119)) ⟨nm,⟨#[]⟩,⟨#[]⟩⟩;simpa using this).q (by repeat (first | exact Q.refl _ | refine Q.drew ?_ | refine Q.alloc ?_ _))).grown hg1 (fun ad e=>by injection e with e;subst e;simp[Value.ownBlock])) (fun e=>by cases e) (by omega) (by have:=BW.size;(try simp only[World.size_alloc]);omega) (n+1) rfl (l++[⟨nm,⟨#[]⟩,⟨#[]⟩⟩]) rfl ?_
   intro A2 c2 w2 ho2 hg2 hb2
   refine hK.out _ _ (BW.below.trans hb2) (fun hHeld=>?_)
   clear hK K
   try simp only[Act.put,sA,sB,sC]
   refine takeL 7 ?v29 ?y29 ?_
   case y29=>intro w hSw;have x0:=box_ hSw e0;have x1:=box_ hSw b0;have x2:=box_ hSw b1;have x3:=box_ hSw b2;clear hSw;go_simp;try with_reducible rfl
   refine oneK (fun K hK=>?_)
   obtain⟨⟨x0,x1,x2,x3⟩,y0,y1,y2,y3⟩:=(B1.out.2.step hHeld).get
   go_simp
   refine hK.out _ _ ?_
   clear hK K
   try simp only[Act.put,sA,sB,sC]
   refine doneH ?_
   go_wp2_with fail
   go_meet
   exact leaf15 B1.out.1 B1.out.2 z0 hHeld ho2
  refine consL (fun K hK=>?_) AllReadyL.nil
  go_simp
  refine hK.out _ _ ((by repeat (first | exact Q.refl _ | refine Q.drew ?_ | refine Q.alloc ?_ _))) (fun hHeld=>?_)
  clear hK K
  try simp only[Act.put,sA,sB,sC]
  refine oneL 0 (fun K hK=>?_)
  go_simp
  refine hK.out _ _ ((by repeat (first | exact Q.refl _ | refine Q.drew ?_ | refine Q.alloc ?_ _))) (fun hHeld=>?_)
  clear hK K
  try simp only[Act.put,sA,sB,sC]
  refine oneL 3 (fun K hK=>?_)
  refine step_appF (by rfl) _ _ (by rfl) W.heap.size (some ⟨W.heap.size+1,0,none⟩) 0 0 [] (by rfl) ((show Own ((W.alloc (.cells #[.string nm,.string ⟨#[]⟩,.string ⟨#[]⟩] 119)).alloc (.cells #[] 119)) W.heap.size (some ⟨W.heap.size+1,0,none⟩) 0 0 [] by have:=own_lit0 (W.alloc (.cells #[.string nm,.string ⟨#[]⟩,.string ⟨#[]⟩] 119)) W.heap.size (by simp);simpa using this).q (by repeat (first | exact Q.refl _ | refine Q.drew ?_ | refine Q.alloc ?_ _))) A n c l (by rfl) (HD.out.files.q (B1.out.2.q.trans (by repeat (first | exact Q.refl _ | refine Q.drew ?_ | refine Q.alloc ?_ _)))) HD.out.nil (by omega) (by simp;try omega) n (Nat.zero_add n) l rfl ?_
  intro A1 c1 w1 ho1 hg1 hb1
  refine hK.out _ _ ((show Q W _ from (by repeat (first | exact Q.refl _ | refine Q.drew ?_ | refine Q.alloc ?_ _))).below.trans hb1) (fun hHeld=>?_)
  clear hK K
  try simp only[Act.put,sA,sB,sC]
  have BW:=hHeld
  refine oneL 6 (fun K hK=>?_)
  refine step_appF (by rfl) _ _ (by rfl) W.heap.size A1 n c1 l (by rfl) ho1 (some ⟨W.heap.size,0,none⟩) 1 1 [⟨nm,⟨#[]⟩,⟨#[]⟩⟩] (by rfl) ((((files_lit1 W ⟨nm,⟨#[]⟩,⟨#[]⟩⟩).q ((Q.refl _).alloc (.cells #[] 119))).q (by repeat (first | exact Q.refl _ | refine Q.drew ?_ | refine Q.alloc ?_ _))).grown hg1 (fun ad e=>by injection e with e;subst e;simp[Value.ownBlock])) (fun e=>by cases e) (by omega) (by have:=BW.size;(try simp only[World.size_alloc]);omega) (n+1) rfl (l++[⟨nm,⟨#[]⟩,⟨#[]⟩⟩]) rfl ?_
  intro A2 c2 w2 ho2 hg2 hb2
  refine hK.out _ _ (BW.below.trans hb2) (fun hHeld=>?_)
  clear hK K
  try simp only[Act.put,sA,sB,sC]
  refine takeL 7 ?v35 ?y35 ?_
  case y35=>intro w hSw;have x0:=box_ hSw e0;have x1:=box_ hSw b0;have x2:=box_ hSw b1;have x3:=box_ hSw b2;clear hSw;go_simp;try with_reducible rfl
  refine oneK (fun K hK=>?_)
  obtain⟨⟨x0,x1,x2,x3⟩,y0,y1,y2,y3⟩:=(B1.out.2.step hHeld).get
  go_simp
  refine hK.out _ _ ?_
  clear hK K
  try simp only[Act.put,sA,sB,sC]
  refine doneH ?_
  go_wp2_with fail
  go_meet
  exact leaf15 B1.out.1 B1.out.2 z0 hHeld ho2
 case rest =>
 obtain⟨A2,c2,rfl,vS,vO,vB⟩:=hcut
 have n48:(n+1)*48≤140737488355328:=by omega
 have HNE:=hid (own_ne vO (g:=g) B1.out.1.lt)
 have O1:=hid (vO.dsk n48)
 have B2:=hid (And.intro vB vS)
 clear vS vO vB B1 HD e0 e1 e2 e3 f0 f1 f2 f3 b0 b1 b2
 have B1:=B2
 clear B2
 have qk:n<n+1:=by omega
 go_upto_region 16 with (fail)
 obtain⟨⟨b0,b1,b2⟩,_⟩:=B1.out.1.get3
 obtain⟨⟨e0,e1,e2,e3⟩,f0,f1,f2,f3⟩:=B1.out.2.get
 clear b0 b1 b2 e0 e1 e2 e3 f0 f1 f2 f3
 obtain⟨⟨b0,b1,b2⟩,y0,y1,y2⟩:=B1.out.1.get3
 obtain⟨⟨e0,e1,e2,e3⟩,f0,f1,f2,f3⟩:=B1.out.2.get
 have v0:0≤fuse:=by omega
 have v1:¬ fuse<(s.size:Int):=by omega
 go_upto_region 19 with (fail)
 go_region
 all_goals
   go_upto_region 20 with (fail)
   have B2:=hid (And.intro ((B1.out.1.set (k:=2) (by simp) (.string (⟨#[]⟩++s))).q (Q.refl _).drew) ((B1.out.2.far1 z0 2 (.string (⟨#[]⟩++s))).step (Q.refl _).drew))
   have O2:=hid ((O1.out.away HNE.out 2 (.string (⟨#[]⟩++s))).q (Q.refl _).drew)
   clear b0 b1 b2 y0 y1 y2 e0 e1 e2 e3 f0 f1 f2 f3 B1 O1 HNE
   generalize (wc.setCell ⟨g,2,none⟩ (.string (⟨#[]⟩++s))).drew=V at B2 O2 ⊢
   obtain⟨⟨b0,b1,b2⟩,_⟩:=B2.out.1.get3
   obtain⟨⟨e0,e1,e2,e3⟩,_⟩:=B2.out.2.get
   go_wp2_with fail
   refine(ref_with A2 (n+1) c2 room fuse false n ⟨nm,⟨#[]⟩,⟨#[]⟩++s⟩ (l++[(⟨nm,⟨#[]⟩,⟨#[]⟩⟩:Fil)]) _ O2.out qk).mono ?_
   rintro e w5 ⟨A5,c5,rfl,ho5,q5⟩
   have D1:=hid (Sd.new B2.out.2 q5 ho5)
   have P1:=B2.out.2.step q5
   have hn5:(n+1)*48≤140737488355328:=O2.out.few
   clear b0 b1 b2 e0 e1 e2 e3 B2 O2 ho5 q5
   obtain⟨⟨e0,e1,e2,e3⟩,f0,f1,f2,f3⟩:=P1.get
   clear P1
   go_upto_region 21 with (fail)
   generalize ((((w5.setCell ⟨w.heap.size,0,none⟩ (.slice A5 (n+1) c5)).setCell ⟨w.heap.size,1,none⟩ (.int .i64 room)).setCell ⟨w.heap.size,2,none⟩ (.int .i64 fuse)).setCell ⟨w.heap.size,3,none⟩ (.bool false))=V1 at D1 ⊢
   clear e0 e1 e2 e3 f0 f1 f2 f3
   obtain⟨⟨e0,e1,e2,e3⟩,f0,f1,f2,f3⟩:=D1.out.sb.get
   go_upto_region 22 with (fail)
   have D2:=hid (D1.out.setRoom (room - (s.size:Nat)))
   clear e0 e1 e2 e3 f0 f1 f2 f3 D1
   generalize (V1.setCell ⟨w.heap.size,1,none⟩ (.int .i64 (room - (s.size:Nat))))=V2 at D2 ⊢
   obtain⟨⟨e0,e1,e2,e3⟩,f0,f1,f2,f3⟩:=D2.out.sb.get
   go_upto_region 24 with (fail)
   have D3:=hid (D2.out.setFuse (fuse - (s.size:Nat)))
   clear e0 e1 e2 e3 f0 f1 f2 f3 D2
   generalize (V2.setCell ⟨w.heap.size,2,none⟩ (.int .i64 (fuse - (s.size:Nat))))=V3 at D3 ⊢
   obtain⟨⟨e0,e1,e2,e3⟩,f0,f1,f2,f3⟩:=D3.out.sb.get
   obtain⟨⟨s0,s1,s2,s3⟩,h0',h1,h2,h3⟩:=D3.out.sb.getR
   go_wp2
   refine bodyPost_ret (v:=.tuple #[dkv A5 (n+1) c5 (room - (s.size:Nat)) (fuse - (s.size:Nat)) false,.int .i64 0]) (by simp[results,Tryz.results98,go_sem,s0,s1,s2,s3]) rfl ?_
   exact D3.out.endK hn5 0 _ _ _ _
theorem ref_app_none_short (nm s:ByteArray)(A:Option Addr)(n c:Nat)(room:Int)(fz:Nat)(l:List Fil)(w:World)(hd:Dsk w A n c l)(hk:nmOk nm=true)(p:Int)(hp:plc nm l 0=p)(h0:p<0)(hn64:n<64)(hr:(s.size:Int)≤room)(hs:s.size≤2305843009213693952)(hfu:fz<s.size)(hrm:room≤9223372036854775807)(hsum:s.size≤65536) :
  Calls Tryz.prog 98 #[dkv A n c room (fz:Int) false,.string nm,.string s] w fun e w'=>RetDK w A n ⟨(l++[(⟨nm,⟨#[]⟩,⟨#[]⟩⟩:Fil)]).set n ⟨nm,⟨#[]⟩,⟨#[]⟩++s.extract 0 fz⟩,room - (fz:Nat),0,true⟩ 6 e w':=by
 have hnm:=hd.max
 unfold maxLen at hnm
 have hfew:=hd.few
 have HD:=hid hd
 have HP:=hid hp
 clear hd hp
 obtain⟨o1,o2⟩:=nmOk_yes hk
 have o3:¬ (nm.size:Int)<1:=by omega
 have o4:¬ room<(s.size:Int):=by omega
 clear hk
 have S0:=hid (Sb.new w A n c room (fz:Int) false)
 have q4:¬ (64:Int)≤(n:Int):=by omega
 go_enter Tryz.func98,Tryz.ntmps98
 go_wp2_with fail
 refine(ref_at nm A n c room (fz:Int) false l _ (HD.out.files.q S0.out.q) HD.out.max).mono ?_
 rw[HP.out]
 rintro e w1 ⟨rfl,q1⟩
 have S1:=hid (S0.out.step q1)
 clear S0 q1
 obtain⟨⟨e0,e1,e2,e3⟩,f0,f1,f2,f3⟩:=S1.out.get
 have z0:w.heap.size+1<w1.heap.size:=S1.out.res.lt
 go_upto_region 11 with (fail)
 have B1:=hid (And.intro (Bx.new w1 [.string nm,.string ⟨#[]⟩,.string ⟨#[]⟩] 119) (S1.out.step ((Q.refl _).alloc (.cells #[.string nm,.string ⟨#[]⟩,.string ⟨#[]⟩] 119))))
 generalize (w1.alloc (.cells #[.string nm,.string ⟨#[]⟩,.string ⟨#[]⟩] 119))=W at B1 ⊢
 generalize w1.heap.size=g at B1 z0 ⊢
 clear e0 e1 e2 e3 f0 f1 f2 f3
 obtain⟨⟨b0,b1,b2⟩,_⟩:=B1.out.1.get3
 obtain⟨⟨e0,e1,e2,e3⟩,f0,f1,f2,f3⟩:=B1.out.2.get
 go_upto_region 15 with (fail)
 go_cut [8] (fun s8 wx=>C15 w W g n room (fz:Int) nm (l++[⟨nm,⟨#[]⟩,⟨#[]⟩⟩]) s8 wx)
 case first =>
  have W0:=hid (Q.refl W)
  refine wp_region_heldL 8 (Q W) (by kernel_rfl) ?szz42 (fun hHeld=>?rzz42)
  case szz42 =>
   exact(Q.refl W).drew
  refine takeL 1 ?v43 ?y43 ?_
  case y43=>intro w hSw;have x0:=box_ hSw e0;have x1:=box_ hSw b0;have x2:=box_ hSw b1;have x3:=box_ hSw b2;clear hSw;go_simp;try with_reducible rfl
  refine takeL 2 ?v44 ?y44 ?_
  case y44=>intro w hSw;have x0:=box_ hSw e0;have x1:=box_ hSw b0;have x2:=box_ hSw b1;have x3:=box_ hSw b2;clear hSw;go_simp;try with_reducible rfl
  refine takeL 4 ?v45 ?y45 ?_
  case y45=>intro w hSw;have x0:=box_ hSw e0;have x1:=box_ hSw b0;have x2:=box_ hSw b1;have x3:=box_ hSw b2;clear hSw;go_simp;try with_reducible rfl
  refine wpAnyL_ready (rs:=[0,5]) (by kernel_rfl) (by simp) ?_
  refine consL (fun K hK=>?kzz61) ?_
  case kzz61 =>
   go_simp
   refine hK.out _ _ ((by repeat (first | exact Q.refl _ | refine Q.drew ?_ | refine Q.alloc ?_ _))) (fun hHeld=>?_)
   clear hK K
   try simp only[Act.put,sA,sB,sC]
   refine wpAnyL_ready (rs:=[3,5]) (by kernel_rfl) (by simp) ?_
   refine consL (fun K hK=>?kzz54) ?_
   case kzz54 =>
    refine step_appF (by rfl) _ _ (by rfl) W.heap.size (some ⟨W.heap.size,0,none⟩) 0 0 [] (by rfl) ((own_lit0 W W.heap.size (Nat.le_refl _)).q (by repeat (first | exact Q.refl _ | refine Q.drew ?_ | refine Q.alloc ?_ _))) A n c l (by rfl) (HD.out.files.q (B1.out.2.q.trans (by repeat (first | exact Q.refl _ | refine Q.drew ?_ | refine Q.alloc ?_ _)))) HD.out.nil (by omega) (by simp;try omega) n (Nat.zero_add n) l rfl ?_
    intro A1 c1 w1 ho1 hg1 hb1
    refine hK.out _ _ ((show Q W _ from (by repeat (first | exact Q.refl _ | refine Q.drew ?_ | refine Q.alloc ?_ _))).below.trans hb1) (fun hHeld=>?_)
    clear hK K
    try simp only[Act.put,sA,sB,sC]
    have BW:=hHeld
    refine oneL 5 (fun K hK=>?_)
    go_simp
    refine hK.out _ _ (BW.alloc _) (fun hHeld=>?_)
    clear hK K
    try simp only[Act.put,sA,sB,sC]
    refine oneL 6 (fun K hK=>?_)
    refine step_appF (by rfl) _ _ (by rfl) W.heap.size A1 n c1 l (by rfl) (ho1.alloc _) (some ⟨w1.heap.size,0,none⟩) 1 1 [⟨nm,⟨#[]⟩,⟨#[]⟩⟩] (by rfl) (files_lit1 w1 ⟨nm,⟨#[]⟩,⟨#[]⟩⟩) (fun e=>by cases e) (by omega) (by have:=BW.size;(try simp only[World.size_alloc]);omega) (n+1) rfl (l++[⟨nm,⟨#[]⟩,⟨#[]⟩⟩]) rfl ?_
    intro A2 c2 w2 ho2 hg2 hb2
    refine hK.out _ _ ((BW.alloc _).below.trans hb2) (fun hHeld=>?_)
    clear hK K
    try simp only[Act.put,sA,sB,sC]
    refine takeL 7 ?v46 ?y46 ?_
    case y46=>intro w hSw;have x0:=box_ hSw e0;have x1:=box_ hSw b0;have x2:=box_ hSw b1;have x3:=box_ hSw b2;clear hSw;go_simp;try with_reducible rfl
    refine oneK (fun K hK=>?_)
    obtain⟨⟨x0,x1,x2,x3⟩,y0,y1,y2,y3⟩:=(B1.out.2.step hHeld).get
    go_simp
    refine hK.out _ _ ?_
    clear hK K
    try simp only[Act.put,sA,sB,sC]
    refine doneH ?_
    go_wp2_with fail
    go_meet
    exact leaf15 B1.out.1 B1.out.2 z0 hHeld ho2
   refine consL (fun K hK=>?_) AllReadyL.nil
   go_simp
   refine hK.out _ _ ((by repeat (first | exact Q.refl _ | refine Q.drew ?_ | refine Q.alloc ?_ _))) (fun hHeld=>?_)
   clear hK K
   try simp only[Act.put,sA,sB,sC]
   refine oneL 3 (fun K hK=>?_)
   refine step_appF (by rfl) _ _ (by rfl) W.heap.size (some ⟨W.heap.size,0,none⟩) 0 0 [] (by rfl) ((own_lit0 W W.heap.size (Nat.le_refl _)).q (by repeat (first | exact Q.refl _ | refine Q.drew ?_ | refine Q.alloc ?_ _))) A n c l (by rfl) (HD.out.files.q (B1.out.2.q.trans (by repeat (first | exact Q.refl _ | refine Q.drew ?_ | refine Q.alloc ?_ _)))) HD.out.nil (by omega) (by simp;try omega) n (Nat.zero_add n) l rfl ?_
   intro A1 c1 w1 ho1 hg1 hb1
   refine hK.out _ _ ((show Q W _ from (by repeat (first | exact Q.refl _ | refine Q.drew ?_ | refine Q.alloc ?_ _))).below.trans hb1) (fun hHeld=>?_)
   clear hK K
   try simp only[Act.put,sA,sB,sC]
   have BW:=hHeld
   refine oneL 6 (fun K hK=>?_)
   refine step_appF (by rfl) _ _ (by rfl) W.heap.size A1 n c1 l (by rfl) ho1 (some ⟨W.heap.size+1,0,none⟩) 1 1 [⟨nm,⟨#[]⟩,⟨#[]⟩⟩] (by rfl) (((show Files ((W.alloc (.cells #[] 119)).alloc (.cells #[.string nm,.string ⟨#[]⟩,.string ⟨#[]⟩] 119)) (some ⟨W.heap.size+1,0,none⟩) 1 [⟨nm,⟨#[]⟩,⟨#[]⟩⟩] by have:=files_lit1 (W.alloc (.cells #[] 119)) ⟨nm,⟨#[]⟩,⟨#[]⟩⟩;simpa using this).q (by repeat (first | exact Q.refl _ | refine Q.drew ?_ | refine Q.alloc ?_ _))).grown hg1 (fun ad e=>by injection e with e;subst e;simp[Value.ownBlock])) (fun e=>by cases e) (by omega) (by have:=BW.size;(try simp only[World.size_alloc]);omega) (n+1) rfl (l++[⟨nm,⟨#[]⟩,⟨#[]⟩⟩]) rfl ?_
   intro A2 c2 w2 ho2 hg2 hb2
   refine hK.out _ _ (BW.below.trans hb2) (fun hHeld=>?_)
   clear hK K
   try simp only[Act.put,sA,sB,sC]
   refine takeL 7 ?v50 ?y50 ?_
   case y50=>intro w hSw;have x0:=box_ hSw e0;have x1:=box_ hSw b0;have x2:=box_ hSw b1;have x3:=box_ hSw b2;clear hSw;go_simp;try with_reducible rfl
   refine oneK (fun K hK=>?_)
   obtain⟨⟨x0,x1,x2,x3⟩,y0,y1,y2,y3⟩:=(B1.out.2.step hHeld).get
   go_simp
   refine hK.out _ _ ?_
   clear hK K
   try simp only[Act.put,sA,sB,sC]
   refine doneH ?_
   go_wp2_with fail
   go_meet
   exact leaf15 B1.out.1 B1.out.2 z0 hHeld ho2
  refine consL (fun K hK=>?_) AllReadyL.nil
  go_simp
  refine hK.out _ _ ((by repeat (first | exact Q.refl _ | refine Q.drew ?_ | refine Q.alloc ?_ _))) (fun hHeld=>?_)
  clear hK K
  try simp only[Act.put,sA,sB,sC]
  refine oneL 0 (fun K hK=>?_)
  go_simp
  refine hK.out _ _ ((by repeat (first | exact Q.refl _ | refine Q.drew ?_ | refine Q.alloc ?_ _))) (fun hHeld=>?_)
  clear hK K
  try simp only[Act.put,sA,sB,sC]
  refine oneL 3 (fun K hK=>?_)
  refine step_appF (by rfl) _ _ (by rfl) W.heap.size (some ⟨W.heap.size+1,0,none⟩) 0 0 [] (by rfl) ((show Own ((W.alloc (.cells #[.string nm,.string ⟨#[]⟩,.string ⟨#[]⟩] 119)).alloc (.cells #[] 119)) W.heap.size (some ⟨W.heap.size+1,0,none⟩) 0 0 [] by have:=own_lit0 (W.alloc (.cells #[.string nm,.string ⟨#[]⟩,.string ⟨#[]⟩] 119)) W.heap.size (by simp);simpa using this).q (by repeat (first | exact Q.refl _ | refine Q.drew ?_ | refine Q.alloc ?_ _))) A n c l (by rfl) (HD.out.files.q (B1.out.2.q.trans (by repeat (first | exact Q.refl _ | refine Q.drew ?_ | refine Q.alloc ?_ _)))) HD.out.nil (by omega) (by simp;try omega) n (Nat.zero_add n) l rfl ?_
  intro A1 c1 w1 ho1 hg1 hb1
  refine hK.out _ _ ((show Q W _ from (by repeat (first | exact Q.refl _ | refine Q.drew ?_ | refine Q.alloc ?_ _))).below.trans hb1) (fun hHeld=>?_)
  clear hK K
  try simp only[Act.put,sA,sB,sC]
  have BW:=hHeld
  refine oneL 6 (fun K hK=>?_)
  refine step_appF (by rfl) _ _ (by rfl) W.heap.size A1 n c1 l (by rfl) ho1 (some ⟨W.heap.size,0,none⟩) 1 1 [⟨nm,⟨#[]⟩,⟨#[]⟩⟩] (by rfl) ((((files_lit1 W ⟨nm,⟨#[]⟩,⟨#[]⟩⟩).q ((Q.refl _).alloc (.cells #[] 119))).q (by repeat (first | exact Q.refl _ | refine Q.drew ?_ | refine Q.alloc ?_ _))).grown hg1 (fun ad e=>by injection e with e;subst e;simp[Value.ownBlock])) (fun e=>by cases e) (by omega) (by have:=BW.size;(try simp only[World.size_alloc]);omega) (n+1) rfl (l++[⟨nm,⟨#[]⟩,⟨#[]⟩⟩]) rfl ?_
  intro A2 c2 w2 ho2 hg2 hb2
  refine hK.out _ _ (BW.below.trans hb2) (fun hHeld=>?_)
  clear hK K
  try simp only[Act.put,sA,sB,sC]
  refine takeL 7 ?v56 ?y56 ?_
  case y56=>intro w hSw;have x0:=box_ hSw e0;have x1:=box_ hSw b0;have x2:=box_ hSw b1;have x3:=box_ hSw b2;clear hSw;go_simp;try with_reducible rfl
  refine oneK (fun K hK=>?_)
  obtain⟨⟨x0,x1,x2,x3⟩,y0,y1,y2,y3⟩:=(B1.out.2.step hHeld).get
  go_simp
  refine hK.out _ _ ?_
  clear hK K
  try simp only[Act.put,sA,sB,sC]
  refine doneH ?_
  go_wp2_with fail
  go_meet
  exact leaf15 B1.out.1 B1.out.2 z0 hHeld ho2
 case rest =>
 obtain⟨A2,c2,rfl,vS,vO,vB⟩:=hcut
 have n48:(n+1)*48≤140737488355328:=by omega
 have HNE:=hid (own_ne vO (g:=g) B1.out.1.lt)
 have O1:=hid (vO.dsk n48)
 have B2:=hid (And.intro vB vS)
 clear vS vO vB B1 HD e0 e1 e2 e3 f0 f1 f2 f3 b0 b1 b2
 have B1:=B2
 clear B2
 have qk:n<n+1:=by omega
 go_upto_region 16 with (fail)
 obtain⟨⟨b0,b1,b2⟩,_⟩:=B1.out.1.get3
 obtain⟨⟨e0,e1,e2,e3⟩,f0,f1,f2,f3⟩:=B1.out.2.get
 clear b0 b1 b2 e0 e1 e2 e3 f0 f1 f2 f3
 obtain⟨⟨b0,b1,b2⟩,y0,y1,y2⟩:=B1.out.1.get3
 obtain⟨⟨e0,e1,e2,e3⟩,f0,f1,f2,f3⟩:=B1.out.2.get
 have v0:0≤(fz:Int):=by omega
 have v1:(fz:Int)<(s.size:Int):=by omega
 go_upto_region 19 with (fail)
 go_region
 all_goals
   go_upto_region 20 with (fail)
   have B2:=hid (And.intro ((B1.out.1.set (k:=2) (by simp) (.string (⟨#[]⟩++s.extract 0 fz))).q (Q.refl _).drew) ((B1.out.2.far1 z0 2 (.string (⟨#[]⟩++s.extract 0 fz))).step (Q.refl _).drew))
   have O2:=hid ((O1.out.away HNE.out 2 (.string (⟨#[]⟩++s.extract 0 fz))).q (Q.refl _).drew)
   clear b0 b1 b2 y0 y1 y2 e0 e1 e2 e3 f0 f1 f2 f3 B1 O1 HNE
   generalize (wc.setCell ⟨g,2,none⟩ (.string (⟨#[]⟩++s.extract 0 fz))).drew=V at B2 O2 ⊢
   obtain⟨⟨b0,b1,b2⟩,_⟩:=B2.out.1.get3
   obtain⟨⟨e0,e1,e2,e3⟩,_⟩:=B2.out.2.get
   go_wp2_with fail
   refine(ref_with A2 (n+1) c2 room (fz:Int) false n ⟨nm,⟨#[]⟩,⟨#[]⟩++s.extract 0 fz⟩ (l++[(⟨nm,⟨#[]⟩,⟨#[]⟩⟩:Fil)]) _ O2.out qk).mono ?_
   rintro e w5 ⟨A5,c5,rfl,ho5,q5⟩
   have D1:=hid (Sd.new B2.out.2 q5 ho5)
   have P1:=B2.out.2.step q5
   have hn5:(n+1)*48≤140737488355328:=O2.out.few
   clear b0 b1 b2 e0 e1 e2 e3 B2 O2 ho5 q5
   obtain⟨⟨e0,e1,e2,e3⟩,f0,f1,f2,f3⟩:=P1.get
   clear P1
   go_upto_region 21 with (fail)
   generalize ((((w5.setCell ⟨w.heap.size,0,none⟩ (.slice A5 (n+1) c5)).setCell ⟨w.heap.size,1,none⟩ (.int .i64 room)).setCell ⟨w.heap.size,2,none⟩ (.int .i64 (fz:Int))).setCell ⟨w.heap.size,3,none⟩ (.bool false))=V1 at D1 ⊢
   clear e0 e1 e2 e3 f0 f1 f2 f3
   obtain⟨⟨e0,e1,e2,e3⟩,f0,f1,f2,f3⟩:=D1.out.sb.get
   go_upto_region 22 with (fail)
   have D2:=hid (D1.out.setRoom (room - (fz:Nat)))
   clear e0 e1 e2 e3 f0 f1 f2 f3 D1
   generalize (V1.setCell ⟨w.heap.size,1,none⟩ (.int .i64 (room - (fz:Nat))))=V2 at D2 ⊢
   obtain⟨⟨e0,e1,e2,e3⟩,f0,f1,f2,f3⟩:=D2.out.sb.get
   go_upto_region 24 with (fail)
   have D3:=hid (D2.out.setFuse 0)
   clear e0 e1 e2 e3 f0 f1 f2 f3 D2
   generalize (V2.setCell ⟨w.heap.size,2,none⟩ (.int .i64 0))=V3 at D3 ⊢
   obtain⟨⟨e0,e1,e2,e3⟩,f0,f1,f2,f3⟩:=D3.out.sb.get
   go_upto_region 26 with (fail)
   have D4:=hid (D3.out.setOff true)
   clear e0 e1 e2 e3 f0 f1 f2 f3 D3
   generalize (V3.setCell ⟨w.heap.size,3,none⟩ (.bool true))=V4 at D4 ⊢
   obtain⟨⟨e0,e1,e2,e3⟩,f0,f1,f2,f3⟩:=D4.out.sb.get
   obtain⟨⟨s0,s1,s2,s3⟩,h0',h1,h2,h3⟩:=D4.out.sb.getR
   go_wp2
   refine bodyPost_ret (v:=.tuple #[dkv A5 (n+1) c5 (room - (fz:Nat)) 0 true,.int .i64 6]) (by simp[results,Tryz.results98,go_sem,s0,s1,s2,s3]) rfl ?_
   exact D4.out.endK hn5 6 _ _ _ _
theorem ref_app_at_neg (nm s:ByteArray)(A:Option Addr)(n c:Nat)(room fuse:Int)(l:List Fil)(w:World)(hd:Dsk w A n c l)(hk:nmOk nm=true)(k:Nat)(hkl:k<l.length)(hkn:k<n)(hp:plc nm l 0=k)(hr:(s.size:Int)≤room)(hs:s.size≤2305843009213693952)(hz:l[k].sf.size+l[k].wt.size≤2305843009213693952)(hfu:fuse<0)(hrm:room≤9223372036854775807)(hsum:l[k].sf.size+l[k].wt.size+s.size≤65536) :
  Calls Tryz.prog 98 #[dkv A n c room fuse false,.string nm,.string s] w fun e w'=>RetDK w A n ⟨l.set k ⟨l[k].nm,l[k].sf,l[k].wt++s⟩,room - (s.size:Nat),fuse,false⟩ 0 e w':=by
 have hb2:¬ (65536:Int)<(l[k].sf.size:Int)+(l[k].wt.size:Int)+(s.size:Int):=by omega
 have hnm:=hd.max
 unfold maxLen at hnm
 have hfew:=hd.few
 have HD:=hid hd
 have HP:=hid hp
 clear hd hp
 obtain⟨o1,o2⟩:=nmOk_yes hk
 have o3:¬ (nm.size:Int)<1:=by omega
 have o4:¬ room<(s.size:Int):=by omega
 clear hk
 have S0:=hid (Sb.new w A n c room fuse false)
 have z8:(l[k].sf.size:Int)+(l[k].wt.size:Int)≤2305843009213693952:=by omega
 have q4:(k:Int)<(n:Int):=by omega
 have q5:0≤(k:Int):=by omega
 go_enter Tryz.func98,Tryz.ntmps98
 go_wp2_with fail
 refine(ref_at nm A n c room fuse false l _ (HD.out.files.q S0.out.q) HD.out.max).mono ?_
 rw[HP.out]
 rintro e w1 ⟨rfl,q1⟩
 have S1:=hid (S0.out.step q1)
 obtain⟨ad,rfl,_,_⟩:=(HD.out.files.q S1.out.q).load hkn hkl
 clear S0 q1
 obtain⟨⟨e0,e1,e2,e3⟩,f0,f1,f2,f3⟩:=S1.out.get
 have z0:w.heap.size+1<w1.heap.size:=S1.out.res.lt
 go_upto_region 10 with (fail)
 have B1:=hid (And.intro (Bx.new w1 [.string nm,.string ⟨#[]⟩,.string ⟨#[]⟩] 119) (S1.out.step ((Q.refl _).alloc (.cells #[.string nm,.string ⟨#[]⟩,.string ⟨#[]⟩] 119))))
 generalize (w1.alloc (.cells #[.string nm,.string ⟨#[]⟩,.string ⟨#[]⟩] 119))=W at B1 ⊢
 generalize w1.heap.size=g at B1 z0 ⊢
 clear e0 e1 e2 e3 f0 f1 f2 f3
 obtain⟨ad',hadd,hb,c0,c1,c3⟩:=(HD.out.files.q B1.out.2.q).load hkn hkl
 obtain rfl:ad=ad':=by injection hadd
 clear hadd
 obtain⟨⟨e0,e1,e2,e3⟩,f0,f1,f2,f3⟩:=B1.out.2.get
 obtain⟨⟨b0,b1,b2⟩,y0,y1,y2⟩:=B1.out.1.get3
 go_upto_region 11 with (fail)
 have B2:=hid (And.intro (B1.out.1.put3 (.string l[k].nm) (.string l[k].sf) (.string l[k].wt)) (B1.out.2.far3 z0 (.string l[k].nm) (.string l[k].sf) (.string l[k].wt)))
 clear e0 e1 e2 e3 f0 f1 f2 f3 b0 b1 b2 y0 y1 y2 c0 c1 c3 hb B1
 generalize (((W.setCell ⟨g,0,none⟩ (.string l[k].nm)).setCell ⟨g,1,none⟩ (.string l[k].sf)).setCell ⟨g,2,none⟩ (.string l[k].wt))=W1 at B2 ⊢
 have B1:=B2
 clear B2
 obtain⟨⟨b0,b1,b2⟩,_⟩:=B1.out.1.get3
 obtain⟨⟨e0,e1,e2,e3⟩,f0,f1,f2,f3⟩:=B1.out.2.get
 have O1:=hid (HD.out.q B1.out.2.q)
 have HNE:Hid (∀ ad',some ad=some ad'→ad'.block≠g):=hid (fun ad' e=>by
  obtain⟨a2,e2,hb2,_⟩:=HD.out.files.load hkn hkl
  injection e with e
  injection e2 with e2
  rw[←e]
  rw[←e2] at hb2
  omega)
 have qk:k<n:=hkn
 go_upto_region 16 with (fail)
 clear b0 b1 b2 e0 e1 e2 e3 f0 f1 f2 f3
 obtain⟨⟨b0,b1,b2⟩,y0,y1,y2⟩:=B1.out.1.get3
 obtain⟨⟨e0,e1,e2,e3⟩,f0,f1,f2,f3⟩:=B1.out.2.get
 have v0:¬ 0≤fuse:=by omega
 go_upto_region 19 with (fail)
 go_region
 all_goals
   go_upto_region 20 with (fail)
   have B2:=hid (And.intro ((B1.out.1.set (k:=2) (by simp) (.string (l[k].wt++s))).q (Q.refl _).drew) ((B1.out.2.far1 z0 2 (.string (l[k].wt++s))).step (Q.refl _).drew))
   have O2:=hid ((O1.out.away HNE.out 2 (.string (l[k].wt++s))).q (Q.refl _).drew)
   clear b0 b1 b2 y0 y1 y2 e0 e1 e2 e3 f0 f1 f2 f3 B1 O1 HNE
   generalize (W1.setCell ⟨g,2,none⟩ (.string (l[k].wt++s))).drew=V at B2 O2 ⊢
   obtain⟨⟨b0,b1,b2⟩,_⟩:=B2.out.1.get3
   obtain⟨⟨e0,e1,e2,e3⟩,_⟩:=B2.out.2.get
   go_wp2_with fail
   refine(ref_with (some ad) n c room fuse false k ⟨l[k].nm,l[k].sf,l[k].wt++s⟩ l _ O2.out qk).mono ?_
   rintro e w5 ⟨A5,c5,rfl,ho5,q5⟩
   have D1:=hid (Sd.new B2.out.2 q5 ho5)
   have P1:=B2.out.2.step q5
   have hn5:n*48≤140737488355328:=O2.out.few
   clear b0 b1 b2 e0 e1 e2 e3 B2 O2 ho5 q5
   obtain⟨⟨e0,e1,e2,e3⟩,f0,f1,f2,f3⟩:=P1.get
   clear P1
   go_upto_region 21 with (fail)
   generalize ((((w5.setCell ⟨w.heap.size,0,none⟩ (.slice A5 n c5)).setCell ⟨w.heap.size,1,none⟩ (.int .i64 room)).setCell ⟨w.heap.size,2,none⟩ (.int .i64 fuse)).setCell ⟨w.heap.size,3,none⟩ (.bool false))=V1 at D1 ⊢
   clear e0 e1 e2 e3 f0 f1 f2 f3
   obtain⟨⟨e0,e1,e2,e3⟩,f0,f1,f2,f3⟩:=D1.out.sb.get
   go_upto_region 22 with (fail)
   have D2:=hid (D1.out.setRoom (room - (s.size:Nat)))
   clear e0 e1 e2 e3 f0 f1 f2 f3 D1
   generalize (V1.setCell ⟨w.heap.size,1,none⟩ (.int .i64 (room - (s.size:Nat))))=V2 at D2 ⊢
   obtain⟨⟨e0,e1,e2,e3⟩,f0,f1,f2,f3⟩:=D2.out.sb.get
   go_upto_region 24 with (fail)
   obtain⟨⟨s0,s1,s2,s3⟩,h0',h1,h2,h3⟩:=D2.out.sb.getR
   go_wp2
   refine bodyPost_ret (v:=.tuple #[dkv A5 n c5 (room - (s.size:Nat)) fuse false,.int .i64 0]) (by simp[results,Tryz.results98,go_sem,s0,s1,s2,s3]) rfl ?_
   exact D2.out.endK hn5 0 _ _ _ _
theorem ref_app_at_fits (nm s:ByteArray)(A:Option Addr)(n c:Nat)(room fuse:Int)(l:List Fil)(w:World)(hd:Dsk w A n c l)(hk:nmOk nm=true)(k:Nat)(hkl:k<l.length)(hkn:k<n)(hp:plc nm l 0=k)(hr:(s.size:Int)≤room)(hs:s.size≤2305843009213693952)(hz:l[k].sf.size+l[k].wt.size≤2305843009213693952)(hfu:(s.size:Int)≤fuse)(hfm:fuse≤9223372036854775807)(hrm:room≤9223372036854775807)(hsum:l[k].sf.size+l[k].wt.size+s.size≤65536) :
  Calls Tryz.prog 98 #[dkv A n c room fuse false,.string nm,.string s] w fun e w'=>RetDK w A n ⟨l.set k ⟨l[k].nm,l[k].sf,l[k].wt++s⟩,room - (s.size:Nat),fuse - (s.size:Nat),false⟩ 0 e w':=by
 have hb2:¬ (65536:Int)<(l[k].sf.size:Int)+(l[k].wt.size:Int)+(s.size:Int):=by omega
 have hnm:=hd.max
 unfold maxLen at hnm
 have hfew:=hd.few
 have HD:=hid hd
 have HP:=hid hp
 clear hd hp
 obtain⟨o1,o2⟩:=nmOk_yes hk
 have o3:¬ (nm.size:Int)<1:=by omega
 have o4:¬ room<(s.size:Int):=by omega
 clear hk
 have S0:=hid (Sb.new w A n c room fuse false)
 have z8:(l[k].sf.size:Int)+(l[k].wt.size:Int)≤2305843009213693952:=by omega
 have q4:(k:Int)<(n:Int):=by omega
 have q5:0≤(k:Int):=by omega
 go_enter Tryz.func98,Tryz.ntmps98
 go_wp2_with fail
 refine(ref_at nm A n c room fuse false l _ (HD.out.files.q S0.out.q) HD.out.max).mono ?_
 rw[HP.out]
 rintro e w1 ⟨rfl,q1⟩
 have S1:=hid (S0.out.step q1)
 obtain⟨ad,rfl,_,_⟩:=(HD.out.files.q S1.out.q).load hkn hkl
 clear S0 q1
 obtain⟨⟨e0,e1,e2,e3⟩,f0,f1,f2,f3⟩:=S1.out.get
 have z0:w.heap.size+1<w1.heap.size:=S1.out.res.lt
 go_upto_region 10 with (fail)
 have B1:=hid (And.intro (Bx.new w1 [.string nm,.string ⟨#[]⟩,.string ⟨#[]⟩] 119) (S1.out.step ((Q.refl _).alloc (.cells #[.string nm,.string ⟨#[]⟩,.string ⟨#[]⟩] 119))))
 generalize (w1.alloc (.cells #[.string nm,.string ⟨#[]⟩,.string ⟨#[]⟩] 119))=W at B1 ⊢
 generalize w1.heap.size=g at B1 z0 ⊢
 clear e0 e1 e2 e3 f0 f1 f2 f3
 obtain⟨ad',hadd,hb,c0,c1,c3⟩:=(HD.out.files.q B1.out.2.q).load hkn hkl
 obtain rfl:ad=ad':=by injection hadd
 clear hadd
 obtain⟨⟨e0,e1,e2,e3⟩,f0,f1,f2,f3⟩:=B1.out.2.get
 obtain⟨⟨b0,b1,b2⟩,y0,y1,y2⟩:=B1.out.1.get3
 go_upto_region 11 with (fail)
 have B2:=hid (And.intro (B1.out.1.put3 (.string l[k].nm) (.string l[k].sf) (.string l[k].wt)) (B1.out.2.far3 z0 (.string l[k].nm) (.string l[k].sf) (.string l[k].wt)))
 clear e0 e1 e2 e3 f0 f1 f2 f3 b0 b1 b2 y0 y1 y2 c0 c1 c3 hb B1
 generalize (((W.setCell ⟨g,0,none⟩ (.string l[k].nm)).setCell ⟨g,1,none⟩ (.string l[k].sf)).setCell ⟨g,2,none⟩ (.string l[k].wt))=W1 at B2 ⊢
 have B1:=B2
 clear B2
 obtain⟨⟨b0,b1,b2⟩,_⟩:=B1.out.1.get3
 obtain⟨⟨e0,e1,e2,e3⟩,f0,f1,f2,f3⟩:=B1.out.2.get
 have O1:=hid (HD.out.q B1.out.2.q)
 have HNE:Hid (∀ ad',some ad=some ad'→ad'.block≠g):=hid (fun ad' e=>by
  obtain⟨a2,e2,hb2,_⟩:=HD.out.files.load hkn hkl
  injection e with e
  injection e2 with e2
  rw[←e]
  rw[←e2] at hb2
  omega)
 have qk:k<n:=hkn
 go_upto_region 16 with (fail)
 clear b0 b1 b2 e0 e1 e2 e3 f0 f1 f2 f3
 obtain⟨⟨b0,b1,b2⟩,y0,y1,y2⟩:=B1.out.1.get3
 obtain⟨⟨e0,e1,e2,e3⟩,f0,f1,f2,f3⟩:=B1.out.2.get
 have v0:0≤fuse:=by omega
 have v1:¬ fuse<(s.size:Int):=by omega
 go_upto_region 19 with (fail)
 go_region
 all_goals
   go_upto_region 20 with (fail)
   have B2:=hid (And.intro ((B1.out.1.set (k:=2) (by simp) (.string (l[k].wt++s))).q (Q.refl _).drew) ((B1.out.2.far1 z0 2 (.string (l[k].wt++s))).step (Q.refl _).drew))
   have O2:=hid ((O1.out.away HNE.out 2 (.string (l[k].wt++s))).q (Q.refl _).drew)
   clear b0 b1 b2 y0 y1 y2 e0 e1 e2 e3 f0 f1 f2 f3 B1 O1 HNE
   generalize (W1.setCell ⟨g,2,none⟩ (.string (l[k].wt++s))).drew=V at B2 O2 ⊢
   obtain⟨⟨b0,b1,b2⟩,_⟩:=B2.out.1.get3
   obtain⟨⟨e0,e1,e2,e3⟩,_⟩:=B2.out.2.get
   go_wp2_with fail
   refine(ref_with (some ad) n c room fuse false k ⟨l[k].nm,l[k].sf,l[k].wt++s⟩ l _ O2.out qk).mono ?_
   rintro e w5 ⟨A5,c5,rfl,ho5,q5⟩
   have D1:=hid (Sd.new B2.out.2 q5 ho5)
   have P1:=B2.out.2.step q5
   have hn5:n*48≤140737488355328:=O2.out.few
   clear b0 b1 b2 e0 e1 e2 e3 B2 O2 ho5 q5
   obtain⟨⟨e0,e1,e2,e3⟩,f0,f1,f2,f3⟩:=P1.get
   clear P1
   go_upto_region 21 with (fail)
   generalize ((((w5.setCell ⟨w.heap.size,0,none⟩ (.slice A5 n c5)).setCell ⟨w.heap.size,1,none⟩ (.int .i64 room)).setCell ⟨w.heap.size,2,none⟩ (.int .i64 fuse)).setCell ⟨w.heap.size,3,none⟩ (.bool false))=V1 at D1 ⊢
   clear e0 e1 e2 e3 f0 f1 f2 f3
   obtain⟨⟨e0,e1,e2,e3⟩,f0,f1,f2,f3⟩:=D1.out.sb.get
   go_upto_region 22 with (fail)
   have D2:=hid (D1.out.setRoom (room - (s.size:Nat)))
   clear e0 e1 e2 e3 f0 f1 f2 f3 D1
   generalize (V1.setCell ⟨w.heap.size,1,none⟩ (.int .i64 (room - (s.size:Nat))))=V2 at D2 ⊢
   obtain⟨⟨e0,e1,e2,e3⟩,f0,f1,f2,f3⟩:=D2.out.sb.get
   go_upto_region 24 with (fail)
   have D3:=hid (D2.out.setFuse (fuse - (s.size:Nat)))
   clear e0 e1 e2 e3 f0 f1 f2 f3 D2
   generalize (V2.setCell ⟨w.heap.size,2,none⟩ (.int .i64 (fuse - (s.size:Nat))))=V3 at D3 ⊢
   obtain⟨⟨e0,e1,e2,e3⟩,f0,f1,f2,f3⟩:=D3.out.sb.get
   obtain⟨⟨s0,s1,s2,s3⟩,h0',h1,h2,h3⟩:=D3.out.sb.getR
   go_wp2
   refine bodyPost_ret (v:=.tuple #[dkv A5 n c5 (room - (s.size:Nat)) (fuse - (s.size:Nat)) false,.int .i64 0]) (by simp[results,Tryz.results98,go_sem,s0,s1,s2,s3]) rfl ?_
   exact D3.out.endK hn5 0 _ _ _ _
theorem ref_app_at_short (nm s:ByteArray)(A:Option Addr)(n c:Nat)(room:Int)(fz:Nat)(l:List Fil)(w:World)(hd:Dsk w A n c l)(hk:nmOk nm=true)(k:Nat)(hkl:k<l.length)(hkn:k<n)(hp:plc nm l 0=k)(hr:(s.size:Int)≤room)(hs:s.size≤2305843009213693952)(hz:l[k].sf.size+l[k].wt.size≤2305843009213693952)(hfu:fz<s.size)(hrm:room≤9223372036854775807)(hsum:l[k].sf.size+l[k].wt.size+s.size≤65536) :
  Calls Tryz.prog 98 #[dkv A n c room (fz:Int) false,.string nm,.string s] w fun e w'=>RetDK w A n ⟨l.set k ⟨l[k].nm,l[k].sf,l[k].wt++s.extract 0 fz⟩,room - (fz:Nat),0,true⟩ 6 e w':=by
 have hb2:¬ (65536:Int)<(l[k].sf.size:Int)+(l[k].wt.size:Int)+(s.size:Int):=by omega
 have hnm:=hd.max
 unfold maxLen at hnm
 have hfew:=hd.few
 have HD:=hid hd
 have HP:=hid hp
 clear hd hp
 obtain⟨o1,o2⟩:=nmOk_yes hk
 have o3:¬ (nm.size:Int)<1:=by omega
 have o4:¬ room<(s.size:Int):=by omega
 clear hk
 have S0:=hid (Sb.new w A n c room (fz:Int) false)
 have z8:(l[k].sf.size:Int)+(l[k].wt.size:Int)≤2305843009213693952:=by omega
 have q4:(k:Int)<(n:Int):=by omega
 have q5:0≤(k:Int):=by omega
 go_enter Tryz.func98,Tryz.ntmps98
 go_wp2_with fail
 refine(ref_at nm A n c room (fz:Int) false l _ (HD.out.files.q S0.out.q) HD.out.max).mono ?_
 rw[HP.out]
 rintro e w1 ⟨rfl,q1⟩
 have S1:=hid (S0.out.step q1)
 obtain⟨ad,rfl,_,_⟩:=(HD.out.files.q S1.out.q).load hkn hkl
 clear S0 q1
 obtain⟨⟨e0,e1,e2,e3⟩,f0,f1,f2,f3⟩:=S1.out.get
 have z0:w.heap.size+1<w1.heap.size:=S1.out.res.lt
 go_upto_region 10 with (fail)
 have B1:=hid (And.intro (Bx.new w1 [.string nm,.string ⟨#[]⟩,.string ⟨#[]⟩] 119) (S1.out.step ((Q.refl _).alloc (.cells #[.string nm,.string ⟨#[]⟩,.string ⟨#[]⟩] 119))))
 generalize (w1.alloc (.cells #[.string nm,.string ⟨#[]⟩,.string ⟨#[]⟩] 119))=W at B1 ⊢
 generalize w1.heap.size=g at B1 z0 ⊢
 clear e0 e1 e2 e3 f0 f1 f2 f3
 obtain⟨ad',hadd,hb,c0,c1,c3⟩:=(HD.out.files.q B1.out.2.q).load hkn hkl
 obtain rfl:ad=ad':=by injection hadd
 clear hadd
 obtain⟨⟨e0,e1,e2,e3⟩,f0,f1,f2,f3⟩:=B1.out.2.get
 obtain⟨⟨b0,b1,b2⟩,y0,y1,y2⟩:=B1.out.1.get3
 go_upto_region 11 with (fail)
 have B2:=hid (And.intro (B1.out.1.put3 (.string l[k].nm) (.string l[k].sf) (.string l[k].wt)) (B1.out.2.far3 z0 (.string l[k].nm) (.string l[k].sf) (.string l[k].wt)))
 clear e0 e1 e2 e3 f0 f1 f2 f3 b0 b1 b2 y0 y1 y2 c0 c1 c3 hb B1
 generalize (((W.setCell ⟨g,0,none⟩ (.string l[k].nm)).setCell ⟨g,1,none⟩ (.string l[k].sf)).setCell ⟨g,2,none⟩ (.string l[k].wt))=W1 at B2 ⊢
 have B1:=B2
 clear B2
 obtain⟨⟨b0,b1,b2⟩,_⟩:=B1.out.1.get3
 obtain⟨⟨e0,e1,e2,e3⟩,f0,f1,f2,f3⟩:=B1.out.2.get
 have O1:=hid (HD.out.q B1.out.2.q)
 have HNE:Hid (∀ ad',some ad=some ad'→ad'.block≠g):=hid (fun ad' e=>by
  obtain⟨a2,e2,hb2,_⟩:=HD.out.files.load hkn hkl
  injection e with e
  injection e2 with e2
  rw[←e]
  rw[←e2] at hb2
  omega)
 have qk:k<n:=hkn
 go_upto_region 16 with (fail)
 clear b0 b1 b2 e0 e1 e2 e3 f0 f1 f2 f3
 obtain⟨⟨b0,b1,b2⟩,y0,y1,y2⟩:=B1.out.1.get3
 obtain⟨⟨e0,e1,e2,e3⟩,f0,f1,f2,f3⟩:=B1.out.2.get
 have v0:0≤(fz:Int):=by omega
 have v1:(fz:Int)<(s.size:Int):=by omega
 go_upto_region 19 with (fail)
 go_region
 all_goals
   go_upto_region 20 with (fail)
   have B2:=hid (And.intro ((B1.out.1.set (k:=2) (by simp) (.string (l[k].wt++s.extract 0 fz))).q (Q.refl _).drew) ((B1.out.2.far1 z0 2 (.string (l[k].wt++s.extract 0 fz))).step (Q.refl _).drew))
   have O2:=hid ((O1.out.away HNE.out 2 (.string (l[k].wt++s.extract 0 fz))).q (Q.refl _).drew)
   clear b0 b1 b2 y0 y1 y2 e0 e1 e2 e3 f0 f1 f2 f3 B1 O1 HNE
   generalize (W1.setCell ⟨g,2,none⟩ (.string (l[k].wt++s.extract 0 fz))).drew=V at B2 O2 ⊢
   obtain⟨⟨b0,b1,b2⟩,_⟩:=B2.out.1.get3
   obtain⟨⟨e0,e1,e2,e3⟩,_⟩:=B2.out.2.get
   go_wp2_with fail
   refine(ref_with (some ad) n c room (fz:Int) false k ⟨l[k].nm,l[k].sf,l[k].wt++s.extract 0 fz⟩ l _ O2.out qk).mono ?_
   rintro e w5 ⟨A5,c5,rfl,ho5,q5⟩
   have D1:=hid (Sd.new B2.out.2 q5 ho5)
   have P1:=B2.out.2.step q5
   have hn5:n*48≤140737488355328:=O2.out.few
   clear b0 b1 b2 e0 e1 e2 e3 B2 O2 ho5 q5
   obtain⟨⟨e0,e1,e2,e3⟩,f0,f1,f2,f3⟩:=P1.get
   clear P1
   go_upto_region 21 with (fail)
   generalize ((((w5.setCell ⟨w.heap.size,0,none⟩ (.slice A5 n c5)).setCell ⟨w.heap.size,1,none⟩ (.int .i64 room)).setCell ⟨w.heap.size,2,none⟩ (.int .i64 (fz:Int))).setCell ⟨w.heap.size,3,none⟩ (.bool false))=V1 at D1 ⊢
   clear e0 e1 e2 e3 f0 f1 f2 f3
   obtain⟨⟨e0,e1,e2,e3⟩,f0,f1,f2,f3⟩:=D1.out.sb.get
   go_upto_region 22 with (fail)
   have D2:=hid (D1.out.setRoom (room - (fz:Nat)))
   clear e0 e1 e2 e3 f0 f1 f2 f3 D1
   generalize (V1.setCell ⟨w.heap.size,1,none⟩ (.int .i64 (room - (fz:Nat))))=V2 at D2 ⊢
   obtain⟨⟨e0,e1,e2,e3⟩,f0,f1,f2,f3⟩:=D2.out.sb.get
   go_upto_region 24 with (fail)
   have D3:=hid (D2.out.setFuse 0)
   clear e0 e1 e2 e3 f0 f1 f2 f3 D2
   generalize (V2.setCell ⟨w.heap.size,2,none⟩ (.int .i64 0))=V3 at D3 ⊢
   obtain⟨⟨e0,e1,e2,e3⟩,f0,f1,f2,f3⟩:=D3.out.sb.get
   go_upto_region 26 with (fail)
   have D4:=hid (D3.out.setOff true)
   clear e0 e1 e2 e3 f0 f1 f2 f3 D3
   generalize (V3.setCell ⟨w.heap.size,3,none⟩ (.bool true))=V4 at D4 ⊢
   obtain⟨⟨e0,e1,e2,e3⟩,f0,f1,f2,f3⟩:=D4.out.sb.get
   obtain⟨⟨s0,s1,s2,s3⟩,h0',h1,h2,h3⟩:=D4.out.sb.getR
   go_wp2
   refine bodyPost_ret (v:=.tuple #[dkv A5 n c5 (room - (fz:Nat)) 0 true,.int .i64 6]) (by simp[results,Tryz.results98,go_sem,s0,s1,s2,s3]) rfl ?_
   exact D4.out.endK hn5 6 _ _ _ _
end
end Go.Proofs.YtccoknaaofmbcaaGreatDoor
