/- BatchHand, BatchTake, Frame, Flat, KindIn, TableShown, PairIn, MergeMath, RunFold, BatchIn, WalPut, WalPut2: merged. -/
import Derived.Test.YtccoknaaofmbcaaGreatDoorO9
import Derived.Test.YtccoknaaofmbcaaGreatDoorO1
import Derived.Laws.EntriesVeiled
import Derived.Test.YtccoknaaofmbcaaGreatDoorO5
import Derived.Deep.DeepCutAuto
import Derived.SizedLaws
import Derived.Carry
import Derived.Deep.Slices
import Derived.ChangeMaps5
import Derived.Test.YtccoknaaofmbcaaGreatDoorO6
import Derived.Test.YtccoknaaofmbcaaGreatDoorO7
import Derived.Test.YtccoknaaofmbcaaGreatDoorO4
import Derived.Laws.StructEq
import Derived.Test.YtccoknaaofmbcaaGreatDoorO8
import Derived.Test.YtccoknaaofmbcaaGreatDoorO2
import Derived.Test.YtccoknaaofmbcaaGreatDoorO3
import Derived.Deep.RegionHeld3
set_option linter.unusedVariables false
set_option linter.unusedSimpArgs false
set_option maxRecDepth 100000
set_option maxHeartbeats 16000000
open Go.Lib (hid)
namespace Go.Proofs.YtccoknaaofmbcaaGreatDoor
section
open Go.RowKit Prm
structure Tw (bs br:Nat) (w w':World):Prop where
 low:Below 0 w w'
 blk:∀ b,b<w.heap.size→b≠bs→b≠br→w'.heap[b]? = w.heap[b]?
section
variable {bs br:Nat} {w w' w2:World}
theorem Tw.refl (bs br:Nat)(w:World):Tw bs br w w:=⟨Below.refl _ _,fun _ _ _ _=>rfl⟩
theorem Tw.trans (h:Tw bs br w w')(k:Tw bs br w' w2):Tw bs br w w2:=
 ⟨h.low.trans k.low,fun b hb h1 h2=>(k.blk b (Nat.lt_of_lt_of_le hb h.low.size) h1 h2).trans (h.blk b hb h1 h2)⟩
theorem Tw.ofQ (q:Q w w'):Tw bs br w w':=⟨q.below.mono (Nat.zero_le _),fun b hb _ _=>q.below.block b hb⟩
theorem Tw.q (h:Tw bs br w w')(q:Q w' w2):Tw bs br w w2:=h.trans (Tw.ofQ q)
theorem Tw.setCell (h:Tw bs br w w'){p:Addr}(hp:p.block=bs∨p.block=br)(u:Value):Tw bs br w (w'.setCell p u):=
 ⟨h.low.setCell (Nat.zero_le _) u,fun b hb h1 h2=>by rw[heap_setCell_other w' p b u (by rcases hp with e | e<;>(rw[e];assumption))];exact h.blk b hb h1 h2⟩
theorem Tw.far (h:Tw bs br w w'){p:Addr}(hp:w.heap.size≤p.block)(u:Value):Tw bs br w (w'.setCell p u):=
 ⟨h.low.setCell (Nat.zero_le _) u,fun b hb h1 h2=>by rw[heap_setCell_other w' p b u (by omega)];exact h.blk b hb h1 h2⟩
theorem Tw.size (h:Tw bs br w w'):w.heap.size≤w'.heap.size:=h.low.size
theorem Tw.below (h:Tw bs br w w'){B:Nat}(h1:B≤bs)(h2:B≤br)(h3:B≤w.heap.size):Below B w w':=
 ⟨h.low.os,h.low.tape,h.low.output,h.low.size,fun b hb=>h.blk b (by omega) (by omega) (by omega)⟩
theorem Tw.bx (h:Tw bs br w w'){b:Nat}{vs:List Value}(hx:Bx w b vs)(hb:b<w.heap.size)(h1:b≠bs)(h2:b≠br):Bx w' b vs:=fun j v hj =>
 ⟨(World.cell?_of_block (w:=w) (h.blk b hb h1 h2)).trans (hx j v hj).1,(World.frozen?_of_block (w:=w) (h.blk b hb h1 h2)).trans (hx j v hj).2⟩
theorem Tw.own {α:Type}{K:Kind α}{base n c:Nat}{A:Option Addr}{l:List α}(h:Tw bs br w w')(ho:OwnK K w base A n c l)(h1:bs<base)(h2:br<base):OwnK K w' base A n c l:=by
 refine⟨ho.1,?_⟩
 rcases ho.2 with ⟨e,h0⟩ | ⟨g,cap,cur,e,hg,hh,r⟩
 · exact .inl ⟨e,h0⟩
 · exact .inr ⟨g,cap,cur,e,hg,(h.blk g (heap_lt hh) (by omega) (by omega)).trans hh,r⟩
end
structure Hd (w:World) (bs br:Nat) (x:Bm.Hs):Prop where
 s:Bx w bs [.string ⟨x.1.toArray⟩]
 r:Bx w br [.bool x.2]
 ne:bs≠br
theorem Hd.q {w w':World}{bs br:Nat}{x:Bm.Hs}(h:Hd w bs br x)(q:Q w w'):Hd w' bs br x:=⟨h.s.q q,h.r.q q,h.ne⟩
theorem Hd.lt {w:World}{bs br:Nat}{x:Bm.Hs}(h:Hd w bs br x):bs<w.heap.size∧br<w.heap.size:=⟨h.s.lt,h.r.lt⟩
theorem Hd.setS {w:World}{bs br:Nat}{x:Bm.Hs}(h:Hd w bs br x)(s:List UInt8):Hd (w.setCell ⟨bs,0,none⟩ (.string ⟨s.toArray⟩)) bs br (s,x.2):=
 ⟨h.s.set (k:=0) (by simp) _,h.r.far (p:=⟨bs,0,none⟩) h.ne _,h.ne⟩
theorem Hd.setR {w:World}{bs br:Nat}{x:Bm.Hs}(h:Hd w bs br x)(r:Bool):Hd (w.setCell ⟨br,0,none⟩ (.bool r)) bs br (x.1,r):=
 ⟨h.s.far (p:=⟨br,0,none⟩) (fun e=>h.ne e.symm) _,h.r.set (k:=0) (by simp) _,h.ne⟩
theorem Hd.get {w:World}{bs br:Nat}{x:Bm.Hs}(h:Hd w bs br x):w.cell? ⟨bs,0,none⟩=some (.string ⟨x.1.toArray⟩)∧w.cell? ⟨br,0,none⟩=some (.bool x.2)∧w.frozen? ⟨bs,0,none⟩=false∧w.frozen? ⟨br,0,none⟩=false:=
 ⟨(h.s 0 _ rfl).1,(h.r 0 _ rfl).1,(h.s 0 _ rfl).2,(h.r 0 _ rfl).2⟩
theorem Hd.far {w:World}{bs br:Nat}{x:Bm.Hs}(h:Hd w bs br x){p:Addr}(h1:p.block≠bs)(h2:p.block≠br)(u:Value):Hd (w.setCell p u) bs br x:=⟨h.s.far h1 u,h.r.far h2 u,h.ne⟩
abbrev ptr0 (b:Nat):Value:=.pointer (some ⟨b,0,none⟩)
abbrev numF (bs br:Nat):Value:=.func (.func 189) #[] #[ptr0 bs,ptr0 br]
abbrev textF (bs br:Nat):Value:=.func (.func 190) #[] #[ptr0 bs,ptr0 br]
abbrev doneF (bs br:Nat):Value:=.func (.func 191) #[] #[ptr0 br,ptr0 bs]
abbrev handV (bs br:Nat):Value:=.agg #[numF bs br,textF bs br,doneF bs br]
def RetH (bs br:Nat)(w:World)(v:Value)(x:Bm.Hs)(e:Ending)(w':World):Prop:=e=.returned v∧Hd w' bs br x∧Tw bs br w w'
theorem hnum_any (most:Nat)(bs br:Nat)(x:Bm.Hs)(w:World)(h:Hd w bs br x)(hs:x.1.length≤maxLen)(hm:most≤18446744073709551615) :
  Calls Tryz.prog 189 #[.int .u64 (most:Int),ptr0 bs,ptr0 br] w (RetH bs br w (.int .u64 ((Bm.tkN most x).1:Nat)) (Bm.tkN most x).2):=by
 obtain⟨s,o⟩:=x
 have K:=takeNum_any ⟨s.toArray⟩ w (by show s.toArray.size≤_;simpa using hs)
 have hT:Bm.tkN most (s,o)=if (Dm.tnum s).2.2≠0∨most<(Dm.tnum s).1 then (0,(Dm.tnum s).2.1,false) else ((Dm.tnum s).1,(Dm.tnum s).2.1,o):=rfl
 have hle:=Dm.tnum_le s
 generalize Bm.tkN most (s,o)=T at hT ⊢
 simp only at K
 generalize Dm.tnum s=x at K hT hle
 obtain⟨v,r,er⟩:=x
 unfold tnR at K
 simp only at K hT hle
 obtain⟨g0,g1,g2,g3⟩:=h.get
 simp only at g0 g1
 generalize (⟨s.toArray⟩:ByteArray)=S at K g0
 have HC:=hid K
 have HH:=hid h
 have hn1:bs≠br:=h.ne
 have hn2:br≠bs:=fun e=>h.ne e.symm
 have hv:(v:Int)≤18446744073709551615:=by unfold Dm.maxU at hle;omega
 have hm':(most:Int)≤18446744073709551615:=by omega
 clear K hs h hle hm
 by_cases c1:er=0
 · subst c1
   have hz0:((0:Int) != 0)=false:=by decide
   by_cases c2:(most:Int)<(v:Int)
   · have HT:=hid (hT.trans (if_pos (.inr (by omega))))
     clear hT
     go_enter Tryz.func189,Tryz.ntmps189
     go_wp2_with fail
     refine HC.out.mono ?_
     rintro e w1 ⟨rfl,q1⟩
     have H1:=hid (HH.out.q q1)
     have Q1:=hid (Tw.ofQ (bs:=bs) (br:=br) q1)
     clear q1 g0 g1 g2 g3
     obtain⟨g0,g1,g2,g3⟩:=H1.out.get
     simp only at g0 g1
     go_wp2
     go_ret
     exact⟨by rw[HT.out];rfl,by rw[HT.out];exact(H1.out.setR false).setS r,(Q1.out.setCell (p:=⟨br,0,none⟩) (.inr rfl) _).setCell (p:=⟨bs,0,none⟩) (.inl rfl) _⟩
   · have HT:=hid (hT.trans (if_neg (by simp;omega)))
     clear hT
     go_enter Tryz.func189,Tryz.ntmps189
     go_wp2_with fail
     refine HC.out.mono ?_
     rintro e w1 ⟨rfl,q1⟩
     have H1:=hid (HH.out.q q1)
     have Q1:=hid (Tw.ofQ (bs:=bs) (br:=br) q1)
     clear q1 g0 g1 g2 g3
     obtain⟨g0,g1,g2,g3⟩:=H1.out.get
     simp only at g0 g1
     go_wp2
     go_ret
     exact⟨by rw[HT.out];rfl,by rw[HT.out];exact H1.out.setS r,Q1.out.setCell (p:=⟨bs,0,none⟩) (.inl rfl) _⟩
 · have HT:=hid (hT.trans (if_pos (.inl c1)))
   have hne:((er:Int) != 0)=true:=by simp;omega
   clear hT c1
   go_enter Tryz.func189,Tryz.ntmps189
   go_wp2_with fail
   refine HC.out.mono ?_
   rintro e w1 ⟨rfl,q1⟩
   have H1:=hid (HH.out.q q1)
   have Q1:=hid (Tw.ofQ (bs:=bs) (br:=br) q1)
   clear q1 g0 g1 g2 g3
   obtain⟨g0,g1,g2,g3⟩:=H1.out.get
   simp only at g0 g1
   go_wp2
   go_ret
   exact⟨by rw[HT.out];rfl,by rw[HT.out];exact(H1.out.setR false).setS r,(Q1.out.setCell (p:=⟨br,0,none⟩) (.inr rfl) _).setCell (p:=⟨bs,0,none⟩) (.inl rfl) _⟩
theorem htext_any (most:Int)(bs br:Nat)(x:Bm.Hs)(w:World)(h:Hd w bs br x)(hs:x.1.length≤maxLen)(hm0:-9223372036854775808≤most)(hm1:most≤9223372036854775807) :
  Calls Tryz.prog 190 #[.int .i64 most,ptr0 bs,ptr0 br] w (RetH bs br w (.string ⟨(Bm.tkT most x).1.toArray⟩) (Bm.tkT most x).2):=by
 obtain⟨s,o⟩:=x
 have K:=takeText_any ⟨s.toArray⟩ most w (by show s.toArray.size≤_;simpa using hs) hm0 hm1
 have hT:Bm.tkT most (s,o)=((Dm.ttext s most).1,(Dm.ttext s most).2.1,o&&decide ((Dm.ttext s most).2.2=0)):=rfl
 generalize Bm.tkT most (s,o)=T at hT ⊢
 simp only at K
 generalize Dm.ttext s most=x at K hT
 obtain⟨v,r,er⟩:=x
 unfold ttR at K
 simp only at K hT
 obtain⟨g0,g1,g2,g3⟩:=h.get
 simp only at g0 g1
 generalize (⟨s.toArray⟩:ByteArray)=S at K g0
 have HC:=hid K
 have HH:=hid h
 have hn1:bs≠br:=h.ne
 have hn2:br≠bs:=fun e=>h.ne e.symm
 clear K hs h
 cases o
 · have HT:=hid hT
   clear hT
   go_enter Tryz.func190,Tryz.ntmps190
   go_wp2_with fail
   refine HC.out.mono ?_
   rintro e w1 ⟨rfl,q1⟩
   have H1:=hid (HH.out.q q1)
   have Q1:=hid (Tw.ofQ (bs:=bs) (br:=br) q1)
   clear q1 g0 g1 g2 g3
   obtain⟨g0,g1,g2,g3⟩:=H1.out.get
   simp only at g0 g1
   go_wp2
   go_ret
   exact⟨by rw[HT.out];rfl,by rw[HT.out];exact(H1.out.setR false).setS r,(Q1.out.setCell (p:=⟨br,0,none⟩) (.inr rfl) _).setCell (p:=⟨bs,0,none⟩) (.inl rfl) _⟩
 · by_cases c1:er=0
   · subst c1
     have HT:=hid hT
     clear hT
     go_enter Tryz.func190,Tryz.ntmps190
     go_wp2_with fail
     refine HC.out.mono ?_
     rintro e w1 ⟨rfl,q1⟩
     have H1:=hid (HH.out.q q1)
     have Q1:=hid (Tw.ofQ (bs:=bs) (br:=br) q1)
     clear q1 g0 g1 g2 g3
     obtain⟨g0,g1,g2,g3⟩:=H1.out.get
     simp only at g0 g1
     go_wp2
     go_ret
     exact⟨by rw[HT.out];rfl,by rw[HT.out];exact(H1.out.setR true).setS r,(Q1.out.setCell (p:=⟨br,0,none⟩) (.inr rfl) _).setCell (p:=⟨bs,0,none⟩) (.inl rfl) _⟩
   · have HT:=hid (show T=(v,r,false) by rw[hT];simp[c1])
     have hne:((er:Int) == 0)=false:=by simp;omega
     clear hT c1
     go_enter Tryz.func190,Tryz.ntmps190
     go_wp2_with fail
     refine HC.out.mono ?_
     rintro e w1 ⟨rfl,q1⟩
     have H1:=hid (HH.out.q q1)
     have Q1:=hid (Tw.ofQ (bs:=bs) (br:=br) q1)
     clear q1 g0 g1 g2 g3
     obtain⟨g0,g1,g2,g3⟩:=H1.out.get
     simp only at g0 g1
     go_wp2
     go_ret
     exact⟨by rw[HT.out];rfl,by rw[HT.out];exact(H1.out.setR false).setS r,(Q1.out.setCell (p:=⟨br,0,none⟩) (.inr rfl) _).setCell (p:=⟨bs,0,none⟩) (.inl rfl) _⟩
theorem hdone_any (bs br:Nat)(x:Bm.Hs)(w:World)(h:Hd w bs br x) :
  Calls Tryz.prog 191 #[ptr0 br,ptr0 bs] w fun e w'=>e=.returned (.bool (x.2&&decide (x.1=[])))∧Q w w':=by
 obtain⟨s,o⟩:=x
 obtain⟨g0,g1,g2,g3⟩:=h.get
 simp only at g0 g1
 have HX:=hid h
 clear h
 cases o
 · go_enter Tryz.func191,Tryz.ntmps191
   go_wp2
   go_ret
   exact⟨rfl,Q.refl _⟩
 · cases s with
    | nil =>
      go_enter Tryz.func191,Tryz.ntmps191
      go_wp2
      go_ret
      exact⟨ret_bool (by simp),Q.refl _⟩
    | cons a s =>
      have hd:(⟨(a :: s).toArray⟩:ByteArray).toList≠[]:=by rw[ByteArray.toList_eq];simp
      have hd2:(⟨(a :: s).toArray⟩:ByteArray).toList.isEmpty=false:=by rw[ByteArray.toList_eq];simp
      have hd3:((⟨(a :: s).toArray⟩:ByteArray).toList == [])=false:=by rw[ByteArray.toList_eq];simp
      generalize (⟨(a :: s).toArray⟩:ByteArray)=S at g0 hd hd2 hd3
      go_enter Tryz.func191,Tryz.ntmps191
      go_wp2
      go_ret
      exact⟨ret_bool (by simp[hd,hd2,hd3]),Q.refl _⟩
theorem Bx.set3 {w:World}{b:Nat}{x y z:Value}(h:Bx w b [x,y,z])(x' y' z':Value):Bx (((w.setCell ⟨b,0,none⟩ x').setCell ⟨b,1,none⟩ y').setCell ⟨b,2,none⟩ z') b [x',y',z']:=
 ((h.set (k:=0) (by simp) x').set (k:=1) (by simp) y').set (k:=2) (by simp) z'
theorem Bx.far3h {w:World}{b c:Nat}{vs:List Value}(h:Bx w b vs)(hc:c≠b)(x' y' z':Value):Bx (((w.setCell ⟨c,0,none⟩ x').setCell ⟨c,1,none⟩ y').setCell ⟨c,2,none⟩ z') b vs:=
 ((h.far (p:=⟨c,0,none⟩) hc x').far (p:=⟨c,1,none⟩) hc y').far (p:=⟨c,2,none⟩) hc z'
theorem over_any (s:ByteArray)(w:World) :
  Calls Tryz.prog 161 #[.string s] w fun e w'=>e=.returned (handV w.heap.size (w.heap.size+1+1))∧Hd w' w.heap.size (w.heap.size+1+1) (s.data.toList,true)∧Q w w':=by
 go_enter Tryz.func161,Tryz.ntmps161
 go_upto_region 2 with (fail)
 have X:Hid (Bx (((w.alloc (.cells #[.string s] 9)).alloc (.cells #[.nilFunc,.nilFunc,.nilFunc] 226)).alloc (.cells #[.bool true] 4)) w.heap.size [.string s] ∧
     Bx (((w.alloc (.cells #[.string s] 9)).alloc (.cells #[.nilFunc,.nilFunc,.nilFunc] 226)).alloc (.cells #[.bool true] 4)) (w.heap.size+1) [.nilFunc,.nilFunc,.nilFunc] ∧
     Bx (((w.alloc (.cells #[.string s] 9)).alloc (.cells #[.nilFunc,.nilFunc,.nilFunc] 226)).alloc (.cells #[.bool true] 4)) (w.heap.size+1+1) [.bool true] ∧
     Q w (((w.alloc (.cells #[.string s] 9)).alloc (.cells #[.nilFunc,.nilFunc,.nilFunc] 226)).alloc (.cells #[.bool true] 4))):=by
   refine hid ⟨((Bx.new w [.string s] 9).alloc _).alloc _,?_,?_,(((Q.refl w).alloc _).alloc _).alloc _⟩
   · have:=(Bx.new (w.alloc (.cells #[.string s] 9)) [.nilFunc,.nilFunc,.nilFunc] 226).alloc (.cells #[.bool true] 4)
     simpa using this
   · have:=Bx.new ((w.alloc (.cells #[.string s] 9)).alloc (.cells #[.nilFunc,.nilFunc,.nilFunc] 226)) [.bool true] 4
     simpa using this
 generalize (((w.alloc (.cells #[.string s] 9)).alloc (.cells #[.nilFunc,.nilFunc,.nilFunc] 226)).alloc (.cells #[.bool true] 4))=w2 at X ⊢
 obtain⟨⟨c0,c1,c2⟩,f0,f1,f2⟩:=X.out.2.1.get3
 go_wp2
 obtain⟨⟨d0,d1,d2⟩,_⟩:=(X.out.2.1.set3 (numF w.heap.size (w.heap.size+1+1)) (textF w.heap.size (w.heap.size+1+1)) (doneF w.heap.size (w.heap.size+1+1))).get3
 refine bodyPost_ret (v:=handV w.heap.size (w.heap.size+1+1)) (by simp[results,Tryz.results161,go_sem,d0,d1,d2]) rfl ?_
 exact⟨rfl,⟨by have:=X.out.1.far3h (c:=w.heap.size+1) (by omega) (numF w.heap.size (w.heap.size+1+1)) (textF w.heap.size (w.heap.size+1+1)) (doneF w.heap.size (w.heap.size+1+1));simpa using this,X.out.2.2.1.far3h (by omega) _ _ _,by omega⟩,X.out.2.2.2.set3 (by omega) _ _ _⟩
theorem tkN_len (m:Nat)(x:Bm.Hs):(Bm.tkN m x).2.1.length≤x.1.length:=by
 have:=Dm.tnum_len x.1
 unfold Bm.tkN;split<;>exact this
theorem tkT_len (m:Int)(x:Bm.Hs):(Bm.tkT m x).2.1.length≤x.1.length:=by
 obtain⟨s,o⟩:=x
 unfold Bm.tkT Dm.ttext
 have:=Dm.tnum_len s
 split
 · simp
 · split
   · simp
   · split
     · simp
     · simp only[List.length_drop];omega
theorem tkN_le (m:Nat)(x:Bm.Hs):(Bm.tkN m x).1≤m:=by unfold Bm.tkN;split<;>simp only<;>omega
structure Wb (bs br:Nat) (w:World) (x:Bm.Hs) (k v:ByteArray) (d:Bool) (wi:World):Prop where
 b1:Bx wi w.heap.size [numF bs br,textF bs br,doneF bs br]
 b2:Bx wi (w.heap.size+1) [.string ⟨#[]⟩,.string ⟨#[]⟩,.bool false]
 b3:Bx wi (w.heap.size+1+1) [.string k,.string v,.bool d]
 h:Hd wi bs br x
 t:Tw bs br w wi
 l1:bs<w.heap.size
 l2:br<w.heap.size
section
variable {bs br:Nat} {w wi wj:World} {x y:Bm.Hs} {k v:ByteArray} {d:Bool}
theorem Wb.step (h:Wb bs br w x k v d wi)(hh:Hd wj bs br y)(ht:Tw bs br wi wj):Wb bs br w y k v d wj:=by
 have h1:=h.l1;have h2:=h.l2;have h3:=h.b3.lt
 exact⟨ht.bx h.b1 (by omega) (by omega) (by omega),ht.bx h.b2 (by omega) (by omega) (by omega),ht.bx h.b3 (by omega) (by omega) (by omega),hh,h.t.trans ht,h1,h2⟩
theorem Wb.setK (h:Wb bs br w x k v d wi)(a:ByteArray):Wb bs br w x a v d (wi.setCell ⟨w.heap.size+1+1,0,none⟩ (.string a)):=by
 have h1:=h.l1;have h2:=h.l2
 exact⟨h.b1.far (by simp only;omega) _,h.b2.far (by simp only;omega) _,h.b3.set (k:=0) (by simp) _,h.h.far (by simp only;omega) (by simp only;omega) _,h.t.far (by simp only;omega) _,h1,h2⟩
theorem Wb.setV (h:Wb bs br w x k v d wi)(a:ByteArray):Wb bs br w x k a d (wi.setCell ⟨w.heap.size+1+1,1,none⟩ (.string a)):=by
 have h1:=h.l1;have h2:=h.l2
 exact⟨h.b1.far (by simp only;omega) _,h.b2.far (by simp only;omega) _,h.b3.set (k:=1) (by simp) _,h.h.far (by simp only;omega) (by simp only;omega) _,h.t.far (by simp only;omega) _,h1,h2⟩
theorem Wb.setD (h:Wb bs br w x k v d wi)(a:Bool):Wb bs br w x k v a (wi.setCell ⟨w.heap.size+1+1,2,none⟩ (.bool a)):=by
 have h1:=h.l1;have h2:=h.l2
 exact⟨h.b1.far (by simp only;omega) _,h.b2.far (by simp only;omega) _,h.b3.set (k:=2) (by simp) _,h.h.far (by simp only;omega) (by simp only;omega) _,h.t.far (by simp only;omega) _,h1,h2⟩
end
theorem hwrite_any (bs br:Nat)(x:Bm.Hs)(w:World)(h:Hd w bs br x)(hs:x.1.length≤maxLen) :
  Calls Tryz.prog 162 #[handV bs br] w (RetH bs br w (Bm.tkW x).1.v (Bm.tkW x).2):=by
 have hT:Bm.tkW x=(⟨⟨(Bm.tkT 32 (Bm.tkN 1 x).2).1.toArray⟩,⟨(Bm.tkT 64 (Bm.tkT 32 (Bm.tkN 1 x).2).2).1.toArray⟩,decide ((Bm.tkN 1 x).1=1)⟩,(Bm.tkT 64 (Bm.tkT 32 (Bm.tkN 1 x).2).2).2):=rfl
 have n1:=tkN_le 1 x
 have l1:=tkN_len 1 x
 have l2:=tkT_len 32 (Bm.tkN 1 x).2
 have KN:=hid (fun W (h:Hd W bs br x)=>hnum_any 1 bs br x W h hs (by omega))
 have KT:=hid (fun W (h:Hd W bs br (Bm.tkN 1 x).2)=>htext_any 32 bs br (Bm.tkN 1 x).2 W h (by omega) (by omega) (by omega))
 have KU:=hid (fun W (h:Hd W bs br (Bm.tkT 32 (Bm.tkN 1 x).2).2)=>htext_any 64 bs br (Bm.tkT 32 (Bm.tkN 1 x).2).2 W h (by omega) (by omega) (by omega))
 generalize Bm.tkW x=T at hT ⊢
 generalize Bm.tkN 1 x=y at hT n1 KN KT KU
 obtain⟨v,y⟩:=y
 simp only at hT n1 KN KT KU
 generalize Bm.tkT 32 y=z at hT KT KU
 obtain⟨s1,z⟩:=z
 simp only at hT KT KU
 generalize Bm.tkT 64 z=u at hT KU
 obtain⟨s2,u⟩:=u
 simp only at hT KU
 generalize (⟨s1.toArray⟩:ByteArray)=S1 at hT KT
 generalize (⟨s2.toArray⟩:ByteArray)=S2 at hT KU
 have hv:decide (v=1)=((v:Int) == 1):=by
  rcases(by omega:v=0∨v=1) with rfl | rfl<;>rfl
 rw[hv] at hT
 have HT:=hid hT
 have HH:=hid h
 have hlt:=h.lt
 have hb1:bs<w.heap.size:=hlt.1
 have hb2:br<w.heap.size:=hlt.2
 clear hT hv n1 l1 l2 h hs hlt
 go_enter Tryz.func162,Tryz.ntmps162
 go_upto_region 2 with (fail)
 have X:Hid (Wb bs br w x ⟨#[]⟩ ⟨#[]⟩ false (((w.alloc (.cells #[numF bs br,textF bs br,doneF bs br] 226)).alloc (.cells #[.string ⟨#[]⟩,.string ⟨#[]⟩,.bool false] 73)).alloc (.cells #[.string ⟨#[]⟩,.string ⟨#[]⟩,.bool false] 73))):=by
  refine hid ⟨((Bx.new w [numF bs br,textF bs br,doneF bs br] 226).alloc _).alloc _,?_,?_,HH.out.q ((((Q.refl w).alloc _).alloc _).alloc _),Tw.ofQ ((((Q.refl w).alloc _).alloc _).alloc _),hb1,hb2⟩
  · have:=(Bx.new (w.alloc (.cells #[numF bs br,textF bs br,doneF bs br] 226)) [.string ⟨#[]⟩,.string ⟨#[]⟩,.bool false] 73).alloc (.cells #[.string ⟨#[]⟩,.string ⟨#[]⟩,.bool false] 73)
    simpa using this
  · have:=Bx.new ((w.alloc (.cells #[numF bs br,textF bs br,doneF bs br] 226)).alloc (.cells #[.string ⟨#[]⟩,.string ⟨#[]⟩,.bool false] 73)) [.string ⟨#[]⟩,.string ⟨#[]⟩,.bool false] 73
    simpa using this
 generalize (((w.alloc (.cells #[numF bs br,textF bs br,doneF bs br] 226)).alloc (.cells #[.string ⟨#[]⟩,.string ⟨#[]⟩,.bool false] 73)).alloc (.cells #[.string ⟨#[]⟩,.string ⟨#[]⟩,.bool false] 73))=w2 at X ⊢
 obtain⟨⟨c0,c1,c2⟩,_⟩:=X.out.b1.get3
 obtain⟨⟨d0,d1,d2⟩,f0,f1,f2⟩:=X.out.b3.get3
 go_wp2_with fail
 refine(KN.out _ X.out.h).mono ?_
 rintro e w3 ⟨rfl,h3,t3⟩
 have X2:=hid (X.out.step h3 t3)
 clear X h3 t3 c0 c1 c2 d0 d1 d2 f0 f1 f2
 obtain⟨⟨d0,d1,d2⟩,f0,f1,f2⟩:=X2.out.b3.get3
 go_upto_region 3 with (fail)
 have X:=hid (X2.out.setD ((v:Int) == 1))
 clear X2 d0 d1 d2 f0 f1 f2
 generalize w3.setCell ⟨w.heap.size+1+1,2,none⟩ (.bool ((v:Int) == 1))=w4 at X ⊢
 obtain⟨⟨c0,c1,c2⟩,_⟩:=X.out.b1.get3
 obtain⟨⟨d0,d1,d2⟩,f0,f1,f2⟩:=X.out.b3.get3
 go_wp2_with fail
 refine(KT.out _ X.out.h).mono ?_
 rintro e w5 ⟨rfl,h3,t3⟩
 have X2:=hid (X.out.step h3 t3)
 clear X h3 t3 c0 c1 c2 d0 d1 d2 f0 f1 f2
 obtain⟨⟨d0,d1,d2⟩,f0,f1,f2⟩:=X2.out.b3.get3
 go_upto_region 4 with (fail)
 have X:=hid (X2.out.setK S1)
 clear X2 d0 d1 d2 f0 f1 f2
 generalize w5.setCell ⟨w.heap.size+1+1,0,none⟩ (.string S1)=w6 at X ⊢
 obtain⟨⟨c0,c1,c2⟩,_⟩:=X.out.b1.get3
 obtain⟨⟨d0,d1,d2⟩,f0,f1,f2⟩:=X.out.b3.get3
 go_wp2_with fail
 refine(KU.out _ X.out.h).mono ?_
 rintro e w7 ⟨rfl,h3,t3⟩
 have X2:=hid (X.out.step h3 t3)
 clear X h3 t3 c0 c1 c2 d0 d1 d2 f0 f1 f2
 obtain⟨⟨d0,d1,d2⟩,f0,f1,f2⟩:=X2.out.b3.get3
 go_upto_region 5 with (fail)
 have X:=hid (X2.out.setV S2)
 clear X2 d0 d1 d2 f0 f1 f2
 generalize w7.setCell ⟨w.heap.size+1+1,1,none⟩ (.string S2)=w8 at X ⊢
 obtain⟨⟨c0,c1,c2⟩,_⟩:=X.out.b1.get3
 obtain⟨⟨d0,d1,d2⟩,f0,f1,f2⟩:=X.out.b3.get3
 obtain⟨⟨p0,p1,p2⟩,g0,g1,g2⟩:=X.out.b2.get3
 go_wp2
 obtain⟨⟨r0,r1,r2⟩,_⟩:=(X.out.b2.set3 (.string S1) (.string S2) (.bool ((v:Int) == 1))).get3
 refine bodyPost_ret (v:=.agg #[.string S1,.string S2,.bool ((v:Int) == 1)]) (by simp[results,Tryz.results162,go_sem,r0,r1,r2]) rfl ?_
 refine⟨by rw[HT.out],by rw[HT.out];exact((X.out.h.far (p:=⟨w.heap.size+1,0,none⟩) (by simp only;omega) (by simp only;omega) _).far (p:=⟨w.heap.size+1,1,none⟩) (by simp only;omega) (by simp only;omega) _).far (p:=⟨w.heap.size+1,2,none⟩) (by simp only;omega) (by simp only;omega) _,((X.out.t.far (p:=⟨w.heap.size+1,0,none⟩) (by simp only;omega) _).far (p:=⟨w.heap.size+1,1,none⟩) (by simp only;omega) _).far (p:=⟨w.heap.size+1,2,none⟩) (by simp only;omega) _⟩
end
section
open Go.RowKit Prm
variable {α:Type}
theorem step_appKD (K:Kind α){ops:Array Oper}{o:Oper}{a:Act}{w:World}{X:Act→World→Prop}{R:Exit→Act→World→Prop}{E:Prop}(hgd:o.guard=none)(s x:Operand)(t:TypeId)(ht:t=K.S)
  (ho:o.op=.call { callee:=.builtin .append,args:=#[s,x],argTypes:=#[t,t] }) (base:Nat) (A:Option Addr) (n c:Nat) (l:List α) (hs:a.eval s=.slice A n c) (h:OwnK K w base A n c l) (A2:Option Addr) (m c2:Nat) (l2:List α) (hx:a.eval x=.slice A2 m c2) (h2:Lst K w A2 m l2) (hnil:A2=none→m=0∧c2=0)
  (hb:(n+m)*K.bs≤140737488355328) (hbase:base≤w.heap.size)
  (hk:∀ A' c' w',OwnK K w' base A' (n+m) c' (l++l2)→Below base w w'→X (a.put o.dst (.slice A' (n+m) c')) w'):if Region.wanted o (yielded ops a.tmps)=true then Oper.wp Tryz.prog o a w X R else E:=by
 subst ht
 have hw:Region.wanted o (yielded ops a.tmps)=true:=by simp[Region.wanted,hgd]
 rw[if_pos hw]
 obtain⟨A',c',w',hr,h3,h4⟩:=run_appK K w base A n c l h A2 m c2 l2 h2 hnil hb hbase o.type
 unfold Oper.wp execOp
 simp only[ho,resolve,invoke,builtin,Sem.run_bind,Sem.run_pure,Result.andThen_ok,List.map_toArray,List.map_cons,List.map_nil,hs,hx,hr]
 exact hk A' c' w' h3 h4
def RetTB (w:World)(x:Bm.Bt×Nat)(e:Ending)(w':World):Prop:=
 ∃ A c,e=.returned (.tuple #[batV x.1.kind x.1.tok A x.1.ws.length c,.int .i64 (x.2:Int)])∧OwnK writeK w' w.heap.size A x.1.ws.length c x.1.ws∧Q w w'
structure Tk (bs br:Nat) (w w2:World) (x:Bm.Hs) (kind:Int) (tok:ByteArray) (A:Option Addr) (n c:Nat) (ws:List Wr) (wi:World):Prop where
 res:Bx wi w.heap.size [.int .i64 0,.string ⟨#[]⟩,.slice none 0 0]
 bh:Bx wi w2.heap.size [numF bs br,textF bs br,doneF bs br]
 bb:Bx wi (w2.heap.size+1) [.int .i64 kind,.string tok,.slice A n c]
 own:OwnK writeK wi (w2.heap.size+1+1) A n c ws
 h:Hd wi bs br x
 q:Q w wi
 g1:w.heap.size<bs
 g2:w.heap.size<br
 l1:bs<w2.heap.size
 l2:br<w2.heap.size
 l3:w2.heap.size+1+1≤wi.heap.size
section
variable {bs br:Nat} {w w2 wi wj:World} {x y:Bm.Hs} {kind:Int} {tok:ByteArray} {A:Option Addr} {n c:Nat} {ws:List Wr}
theorem Tk.step (h:Tk bs br w w2 x kind tok A n c ws wi)(hh:Hd wj bs br y)(ht:Tw bs br wi wj):Tk bs br w w2 y kind tok A n c ws wj:=by
 have h1:=h.g1;have h2:=h.g2;have h3:=h.l1;have h4:=h.l2;have h5:=h.l3
 exact⟨ht.bx h.res (by omega) (by omega) (by omega),ht.bx h.bh (by omega) (by omega) (by omega),ht.bx h.bb (by omega) (by omega) (by omega),ht.own h.own (by omega) (by omega),hh,h.q.below.trans (ht.below (by omega) (by omega) (by omega)),h1,h2,h3,h4,Nat.le_trans h5 ht.size⟩
theorem Tk.drew (h:Tk bs br w w2 x kind tok A n c ws wi):Tk bs br w w2 x kind tok A n c ws wi.drew:=h.step (h.h.q (Q.refl _).drew) (Tw.ofQ (Q.refl _).drew)
theorem Tk.ofQ (h:Tk bs br w w2 x kind tok A n c ws wi)(q:Q wi wj):Tk bs br w w2 x kind tok A n c ws wj:=h.step (h.h.q q) (Tw.ofQ q)
theorem Tk.setKind (h:Tk bs br w w2 x kind tok A n c ws wi)(k:Int):Tk bs br w w2 x k tok A n c ws (wi.setCell ⟨w2.heap.size+1,0,none⟩ (.int .i64 k)):=by
 have h1:=h.g1;have h2:=h.g2;have h3:=h.l1;have h4:=h.l2;have h5:=h.l3
 exact⟨h.res.far (by simp only;omega) _,h.bh.far (by simp only;omega) _,h.bb.set (k:=0) (by simp) _,h.own.setCell (by simp only;omega) _,h.h.far (by simp only;omega) (by simp only;omega) _,h.q.setCell (by simp only;omega) _,h1,h2,h3,h4,by simpa using h5⟩
theorem Tk.setTok (h:Tk bs br w w2 x kind tok A n c ws wi)(k:ByteArray):Tk bs br w w2 x kind k A n c ws (wi.setCell ⟨w2.heap.size+1,1,none⟩ (.string k)):=by
 have h1:=h.g1;have h2:=h.g2;have h3:=h.l1;have h4:=h.l2;have h5:=h.l3
 exact⟨h.res.far (by simp only;omega) _,h.bh.far (by simp only;omega) _,h.bb.set (k:=1) (by simp) _,h.own.setCell (by simp only;omega) _,h.h.far (by simp only;omega) (by simp only;omega) _,h.q.setCell (by simp only;omega) _,h1,h2,h3,h4,by simpa using h5⟩
theorem Tk.setWs (h:Tk bs br w w2 x kind tok A n c ws wi)(hb:Below (w2.heap.size+1+1) wi wj){A':Option Addr}{n' c':Nat}{ws':List Wr}(ho:OwnK writeK wj (w2.heap.size+1+1) A' n' c' ws'):Tk bs br w w2 x kind tok A' n' c' ws' (wj.setCell ⟨w2.heap.size+1,2,none⟩ (.slice A' n' c')):=by
 have h1:=h.g1;have h2:=h.g2;have h3:=h.l1;have h4:=h.l2;have h5:=h.l3
 exact⟨(h.res.below hb (by omega)).far (by simp only;omega) _,(h.bh.below hb (by omega)).far (by simp only;omega) _,(h.bb.below hb (by omega)).set (k:=2) (by simp) _,ho.setCell (by simp only;omega) _,(⟨h.h.s.below hb (by omega),h.h.r.below hb (by omega),h.h.ne⟩:Hd wj bs br x).far (by simp only;omega) (by simp only;omega) _,
   Q.setCell (a:=w) (h.q.below.trans (hb.mono (by omega))) (by simp only;omega) _,h1,h2,h3,h4,by have:=hb.size;simp only[World.size_setCell];omega⟩
end
theorem tkW_len (x:Bm.Hs):(Bm.tkW x).2.1.length≤x.1.length:=Nat.le_trans (tkT_len _ _) (Nat.le_trans (tkT_len _ _) (tkN_len _ _))
theorem tkWs_fold {v j:Nat}(h:j<v)(acc:List Wr)(x:Bm.Hs):Bm.tkWs (v - j) acc x=Bm.tkWs (v - (j+1)) (acc++[(Bm.tkW x).1]) (Bm.tkW x).2:=by
 obtain⟨m,hm⟩:∃ m,v - j=m+1:=⟨v - j - 1,by omega⟩
 rw[hm,show v - (j+1)=m by omega];rfl
theorem btake_core (s:ByteArray)(w:World)(kd v:Nat)(y1 y2 y3:Bm.Hs)(TK:ByteArray)(T:Bm.Bt×Nat)
  (K1:∀ bs br W,Hd W bs br (s.data.toList,true)→Calls Tryz.prog 189 #[.int .u64 2,ptr0 bs,ptr0 br] W (RetH bs br W (.int .u64 (kd:Int)) y1))
  (K2:∀ bs br W,Hd W bs br y1→Calls Tryz.prog 190 #[.int .i64 16,ptr0 bs,ptr0 br] W (RetH bs br W (.string TK) y2))
  (K3:∀ bs br W,Hd W bs br y2→Calls Tryz.prog 189 #[.int .u64 24,ptr0 bs,ptr0 br] W (RetH bs br W (.int .u64 (v:Int)) y3))
  (hT:T=Bm.fin (⟨(kd:Int),TK,(Bm.tkWs v [] y3).1⟩,(Bm.tkWs v [] y3).2)) (hkd:(kd:Int)≤2) (hv:(v:Int)≤24) (hl3:y3.1.length≤maxLen) :
  Calls Tryz.prog 124 #[.string s] w (RetTB w T):=by
 have KA:=hid K1
 have KB:=hid K2
 have KC:=hid K3
 have HT:=hid hT
 have HL3:=hid hl3
 clear K1 K2 K3 hT hl3
 go_enter Tryz.func124,Tryz.ntmps124
 go_wp2_with fail
 refine(over_any s _).mono ?_
 rintro e w2 ⟨rfl,h2,q2⟩
 simp only[World.size_alloc] at h2
 have H2:=hid h2
 have Q2:=hid q2
 have hsz:w.heap.size+1+1+1<w2.heap.size:=h2.lt.2
 simp only[World.size_alloc]
 clear h2 q2
 generalize hbs:w.heap.size+1=bs at H2 ⊢
 generalize hbr:bs+1+1=br at H2 ⊢
 have g1:w.heap.size<bs:=by omega
 have g2:w.heap.size<br:=by omega
 have g3:bs<w2.heap.size:=by omega
 have g4:br<w2.heap.size:=by omega
 clear hsz hbs hbr
 go_upto_region 3 with (fail)
 have X:Hid (Tk bs br w w2 (s.data.toList,true) 0 ⟨#[]⟩ none 0 0 [] ((w2.alloc (.cells #[numF bs br,textF bs br,doneF bs br] 226)).alloc (.cells #[.int .i64 0,.string ⟨#[]⟩,.slice none 0 0] 48))):=by
  refine hid ⟨?_,(Bx.new w2 [numF bs br,textF bs br,doneF bs br] 226).alloc _,?_,OwnK.nil_ _ _ _,(H2.out.q ((Q.refl _).alloc _)).q ((Q.refl _).alloc _),(((((Q.refl w).alloc _).trans Q2.out).alloc _).alloc _),g1,g2,g3,g4,by simp⟩
  · exact((((Bx.new w [.int .i64 0,.string ⟨#[]⟩,.slice none 0 0] 48).q Q2.out).alloc _).alloc _)
  · have:=Bx.new (w2.alloc (.cells #[numF bs br,textF bs br,doneF bs br] 226)) [.int .i64 0,.string ⟨#[]⟩,.slice none 0 0] 48
    simpa using this
 change Code.wp _ _ _ _ ((w2.alloc (.cells #[numF bs br,textF bs br,doneF bs br] 226)).alloc (.cells #[.int .i64 0,.string ⟨#[]⟩,.slice none 0 0] 48))
 generalize ((w2.alloc (.cells #[numF bs br,textF bs br,doneF bs br] 226)).alloc (.cells #[.int .i64 0,.string ⟨#[]⟩,.slice none 0 0] 48))=w3 at X ⊢
 clear Q2 H2
 obtain⟨⟨c0,c1,c2⟩,_⟩:=X.out.bh.get3
 obtain⟨⟨d0,d1,d2⟩,f0,f1,f2⟩:=X.out.bb.get3
 go_wp2_with fail
 refine(KA.out _ _ _ X.out.h).mono ?_
 rintro e w4 ⟨rfl,h3,t3⟩
 have X2:=hid (X.out.step h3 t3)
 clear X h3 t3 c0 c1 c2 d0 d1 d2 f0 f1 f2
 obtain⟨⟨d0,d1,d2⟩,f0,f1,f2⟩:=X2.out.bb.get3
 go_upto_region 4 with (fail)
 have X:=hid (X2.out.setKind (kd:Int))
 clear X2 d0 d1 d2 f0 f1 f2
 generalize w4.setCell ⟨w2.heap.size+1,0,none⟩ (.int .i64 (kd:Int))=w5 at X ⊢
 obtain⟨⟨c0,c1,c2⟩,_⟩:=X.out.bh.get3
 obtain⟨⟨d0,d1,d2⟩,f0,f1,f2⟩:=X.out.bb.get3
 go_wp2_with fail
 refine(KB.out _ _ _ X.out.h).mono ?_
 rintro e w6 ⟨rfl,h3,t3⟩
 have X2:=hid (X.out.step h3 t3)
 clear X h3 t3 c0 c1 c2 d0 d1 d2 f0 f1 f2
 obtain⟨⟨d0,d1,d2⟩,f0,f1,f2⟩:=X2.out.bb.get3
 go_upto_region 5 with (fail)
 have X:=hid (X2.out.setTok TK)
 clear X2 d0 d1 d2 f0 f1 f2
 generalize w6.setCell ⟨w2.heap.size+1,1,none⟩ (.string TK)=w7 at X ⊢
 obtain⟨⟨c0,c1,c2⟩,_⟩:=X.out.bh.get3
 obtain⟨⟨d0,d1,d2⟩,f0,f1,f2⟩:=X.out.bb.get3
 go_wp2_with fail
 refine(KC.out _ _ _ X.out.h).mono ?_
 rintro e w8 ⟨rfl,h3,t3⟩
 have X0:=hid (X.out.step h3 t3)
 clear X h3 t3 c0 c1 c2 d0 d1 d2 f0 f1 f2 KA KB KC
 go_wp2
 go_loopw [20] (fun i wr=>∃ (j:Nat) (x:Bm.Hs) (acc:List Wr) (A:Option Addr) (c:Nat),j≤v∧i=.int .u64 j∧acc.length=j∧Tk bs br w w2 x (kd:Int) TK A acc.length c acc wr∧Bm.tkWs v [] y3=Bm.tkWs (v - j) acc x∧x.1.length≤maxLen) (fun i _=>v - (intOf i).toNat)
 case atStart=>exact⟨0,y3,[],none,0,Nat.zero_le _,rfl,rfl,X0.out,rfl,HL3.out⟩
 case round =>
  obtain⟨j,x,acc,A,c,hj,rfl,hal,x1,hT,hxl⟩:=hrel
  have X:=hid x1
  have HAl:=hid hal
  have HTT:=hid hT
  have HX:=hid hxl
  clear x1 hT X0
  by_cases hlt:j<v
  · have hjv:(j:Int)<(v:Int):=by omega
    have HF:=hid (tkWs_fold hlt acc x)
    have HW:=hid (Nat.le_trans (tkW_len x) hxl)
    have KW:=hid (fun W (h:Hd W bs br x)=>hwrite_any bs br x W h HX.out)
    have hal2:acc.length≤24:=by omega
    clear hal hxl
    generalize Bm.tkW x=yy at HF HW KW
    obtain⟨⟨ka,va,da⟩,y4⟩:=yy
    dsimp only at HF HW KW
    obtain⟨⟨c0,c1,c2⟩,_⟩:=X.out.bh.get3
    obtain⟨⟨d0,d1,d2⟩,f0,f1,f2⟩:=X.out.bb.get3
    go_upto_region 7 with (fail)
    refine wp_region_heldL 7 (fun w'=>(w'.cell? ⟨w2.heap.size,0,none⟩=some (numF bs br)∧w'.cell? ⟨w2.heap.size,1,none⟩=some (textF bs br)∧w'.cell? ⟨w2.heap.size,2,none⟩=some (doneF bs br))∧w'.cell? ⟨w2.heap.size+1,2,none⟩=some (.slice A acc.length c)) (by kernel_rfl) ?szz0 (fun hHeld=>?rzz0)
    case szz0 =>
     exact⟨⟨c0,c1,c2⟩,d2⟩
    refine takeL 0 ?v1 ?y1 ?_
    case y1=>intro w hSw;obtain⟨⟨s0,s1,s2⟩,s3⟩:=hSw;go_simp;try with_reducible rfl
    refine takeL 1 ?v2 ?y2 ?_
    case y2=>intro w hSw;obtain⟨⟨s0,s1,s2⟩,s3⟩:=hSw;go_simp;try with_reducible rfl
    refine takeL 2 ?v3 ?y3 ?_
    case y3=>intro w hSw;obtain⟨⟨s0,s1,s2⟩,s3⟩:=hSw;go_simp;try with_reducible rfl
    refine oneL 3 (fun K hK=>?_)
    go_simp
    refine(KW.out _ X.out.drew.h).mono ?_
    rintro e w5 ⟨rfl,h5,t5⟩
    have X2:=hid (X.out.drew.step h5 t5)
    clear h5 t5
    go_wp2_with fail
    refine hK.out _ _ (⟨X2.out.bh.get3.1,X2.out.bb.get3.1.2.2⟩) (fun hHeld=>?_)
    clear hK K
    try simp only[Act.put,sA,sB,sC]
    refine oneL 4 (fun K hK=>?_)
    go_simp
    refine hK.out _ _ (⟨(X2.out.ofQ ((Q.refl _).alloc (.cells #[.string ka,.string va,.bool da] 73))).bh.get3.1,(X2.out.ofQ ((Q.refl _).alloc (.cells #[.string ka,.string va,.bool da] 73))).bb.get3.1.2.2⟩) (fun hHeld=>?_)
    clear hK K
    try simp only[Act.put,sA,sB,sC]
    refine oneL 5 (fun K hK=>?_)
    refine step_appKD writeK (by rfl) _ _ _ rfl (by rfl) (w2.heap.size+1+1) A acc.length c acc (by rfl) (X2.out.ofQ ((Q.refl _).alloc (.cells #[.string ka,.string va,.bool da] 73))).own (some ⟨w5.heap.size,0,none⟩) 1 1 [⟨ka,va,da⟩] (by rfl) (lit_write w5 ⟨ka,va,da⟩).lst (fun e=>by cases e) (by show (acc.length+1)*40≤_;omega) (X2.out.ofQ ((Q.refl _).alloc (.cells #[.string ka,.string va,.bool da] 73))).l3 ?_
    intro A6 c6 w6 o6 b6
    refine hK.out _ _ (⟨(((X2.out.ofQ ((Q.refl _).alloc (.cells #[.string ka,.string va,.bool da] 73))).bh.below b6 (by omega)).get3).1,(((X2.out.ofQ ((Q.refl _).alloc (.cells #[.string ka,.string va,.bool da] 73))).bb.below b6 (by omega)).get3).1.2.2⟩) (fun hHeld=>?_)
    clear hK K
    try simp only[Act.put,sA,sB,sC]
    refine takeL 6 ?v4 ?y4 ?_
    case y4=>intro w hSw;obtain⟨⟨s0,s1,s2⟩,s3⟩:=hSw;go_simp;try with_reducible rfl
    refine oneK (fun K hK=>?_)
    obtain⟨⟨p0,p1,p2⟩,p3,p4,p5⟩:=((X2.out.ofQ ((Q.refl _).alloc (.cells #[.string ka,.string va,.bool da] 73))).bb.below b6 (by omega)).get3
    go_simp
    refine hK.out _ _ ?_
    clear hK K
    try simp only[Act.put,sA,sB,sC]
    refine doneH ?_
    have X9:=hid ((X2.out.ofQ ((Q.refl _).alloc (.cells #[.string ka,.string va,.bool da] 73))).setWs b6 o6)
    go_wp2
    go_roundw
    case rel=>exact⟨j+1,y4,acc++[⟨ka,va,da⟩],A6,c6,by omega,by go_num,by rw[List.length_append,HAl.out];rfl,by rw[List.length_append];exact X9.out,by rw[HTT.out];exact HF.out,HW.out⟩
    case measure=>simp[intOf];omega
  · have hjv:j=v:=by omega
    have HTl:=hid (show Bm.tkWs v [] y3=(acc,x) by rw[HTT.out,hjv,Nat.sub_self];rfl)
    have HT2:=hid (show T=Bm.fin (⟨(kd:Int),TK,acc⟩,x) by rw[HT.out,HTl.out])
    have hal2:acc.length≤24:=by omega
    have hjn:¬((j:Int)<(v:Int)):=by omega
    clear hjv hal hxl HTl HTT HT HX
    obtain⟨⟨c0,c1,c2⟩,_⟩:=X.out.bh.get3
    obtain⟨⟨d0,d1,d2⟩,f0,f1,f2⟩:=X.out.bb.get3
    have KD:=hid (hdone_any bs br x wr X.out.h)
    have KM:=hid (fun W q=>may_any (kd:Int) TK A acc.length c acc W (X.out.own.lst.q q) (by unfold maxLen;omega))
    obtain⟨xl,xo⟩:=x
    simp only at KD
    by_cases hd:(xo&&decide (xl=[]))=true
    · rw[hd] at KD
      cases hm:Bm.may ⟨(kd:Int),TK,acc⟩ with
      | false =>
        rw[hm] at KM
        have HB:=hid (HT2.out.trans (show Bm.fin (⟨(kd:Int),TK,acc⟩,(xl,xo))=(⟨0,⟨#[]⟩,[]⟩,3) by unfold Bm.fin;rw[if_neg (by rw[hm];simp)]))
        clear hd hm
        go_wp2_with fail
        refine KD.out.mono ?_
        rintro e w9 ⟨rfl,q9⟩
        have Y:=hid (X.out.ofQ q9)
        have Q9:=hid q9
        clear q9 c0 c1 c2 d0 d1 d2 f0 f1 f2 X
        obtain⟨⟨d0,d1,d2⟩,f0,f1,f2⟩:=Y.out.bb.get3
        go_wp2_with fail
        refine(KM.out _ Q9.out).mono ?_
        rintro e w10 ⟨rfl,q10⟩
        have Y2:=hid (Y.out.ofQ q10)
        clear q10 d0 d1 d2 f0 f1 f2 Y Q9
        obtain⟨⟨p0,p1,p2⟩,p3,p4,p5⟩:=Y2.out.res.get3
        go_wp2
        obtain⟨⟨r0,r1,r2⟩,_⟩:=(Y2.out.res.set3 (.int .i64 0) (.string ⟨#[]⟩) (.slice none 0 0)).get3
        refine bodyPost_ret (v:=.tuple #[batV 0 ⟨#[]⟩ none 0 0,.int .i64 3]) (by simp[results,Tryz.results124,go_sem,r0,r1,r2]) rfl ?_
        rw[HB.out]
        exact⟨none,0,rfl,OwnK.nil_ _ _ _,Y2.out.q.set3 (Nat.le_refl _) _ _ _⟩
      | true =>
        rw[hm] at KM
        have HB:=hid (HT2.out.trans (show Bm.fin (⟨(kd:Int),TK,acc⟩,(xl,xo))=(⟨(kd:Int),TK,acc⟩,0) by unfold Bm.fin;rw[if_pos ⟨by simp at hd;exact hd.1,by simp at hd;exact hd.2,hm⟩]))
        clear hd hm
        go_wp2_with fail
        refine KD.out.mono ?_
        rintro e w9 ⟨rfl,q9⟩
        have Y:=hid (X.out.ofQ q9)
        have Q9:=hid q9
        clear q9 c0 c1 c2 d0 d1 d2 f0 f1 f2 X
        obtain⟨⟨d0,d1,d2⟩,f0,f1,f2⟩:=Y.out.bb.get3
        go_wp2_with fail
        refine(KM.out _ Q9.out).mono ?_
        rintro e w10 ⟨rfl,q10⟩
        have Y2:=hid (Y.out.ofQ q10)
        clear q10 d0 d1 d2 f0 f1 f2 Y Q9
        obtain⟨⟨d0,d1,d2⟩,f0,f1,f2⟩:=Y2.out.bb.get3
        obtain⟨⟨p0,p1,p2⟩,p3,p4,p5⟩:=Y2.out.res.get3
        go_wp2
        obtain⟨⟨r0,r1,r2⟩,_⟩:=(Y2.out.res.set3 (.int .i64 (kd:Int)) (.string TK) (.slice A acc.length c)).get3
        refine bodyPost_ret (v:=.tuple #[batV (kd:Int) TK A acc.length c,.int .i64 0]) (by simp[results,Tryz.results124,go_sem,r0,r1,r2]) rfl ?_
        rw[HB.out]
        exact⟨A,c,rfl,((((Y2.out.own.setCell (p:=⟨w.heap.size,0,none⟩) (by have:=Y2.out.g1;have:=Y2.out.l1;simp only;omega) _).setCell (p:=⟨w.heap.size,1,none⟩) (by have:=Y2.out.g1;have:=Y2.out.l1;simp only;omega) _).setCell (p:=⟨w.heap.size,2,none⟩) (by have:=Y2.out.g1;have:=Y2.out.l1;simp only;omega) _).lower (by have:=Y2.out.g1;have:=Y2.out.l1;omega)),Y2.out.q.set3 (Nat.le_refl _) _ _ _⟩
    · have hd':(xo&&decide (xl=[]))=false:=by simpa using hd
      rw[hd'] at KD
      have HB:=hid (HT2.out.trans (show Bm.fin (⟨(kd:Int),TK,acc⟩,(xl,xo))=(⟨0,⟨#[]⟩,[]⟩,3) by unfold Bm.fin;rw[if_neg (by rintro⟨h1,h2,_⟩;simp only at h1 h2;rw[h1,h2] at hd';simp at hd')]))
      clear hd hd'
      go_wp2_with fail
      refine KD.out.mono ?_
      rintro e w9 ⟨rfl,q9⟩
      have Y2:=hid (X.out.ofQ q9)
      clear q9 c0 c1 c2 d0 d1 d2 f0 f1 f2 X
      obtain⟨⟨p0,p1,p2⟩,p3,p4,p5⟩:=Y2.out.res.get3
      go_wp2
      obtain⟨⟨r0,r1,r2⟩,_⟩:=(Y2.out.res.set3 (.int .i64 0) (.string ⟨#[]⟩) (.slice none 0 0)).get3
      refine bodyPost_ret (v:=.tuple #[batV 0 ⟨#[]⟩ none 0 0,.int .i64 3]) (by simp[results,Tryz.results124,go_sem,r0,r1,r2]) rfl ?_
      rw[HB.out]
      exact⟨none,0,rfl,OwnK.nil_ _ _ _,Y2.out.q.set3 (Nat.le_refl _) _ _ _⟩
theorem btake_any (s:ByteArray)(w:World)(hs:s.size≤maxLen) :
  Calls Tryz.prog 124 #[.string s] w (RetTB w (Bm.take s.data.toList)):=by
 have n1:=tkN_le 2 (s.data.toList,true)
 have l1:=tkN_len 2 (s.data.toList,true)
 have l2:=tkT_len 16 (Bm.tkN 2 (s.data.toList,true)).2
 have n3:=tkN_le 24 (Bm.tkT 16 (Bm.tkN 2 (s.data.toList,true)).2).2
 have l3:=tkN_len 24 (Bm.tkT 16 (Bm.tkN 2 (s.data.toList,true)).2).2
 have hs0:s.data.toList.length≤maxLen:=by rw[Rn.size_data];exact hs
 exact btake_core s w (Bm.tkN 2 (s.data.toList,true)).1 (Bm.tkN 24 (Bm.tkT 16 (Bm.tkN 2 (s.data.toList,true)).2).2).1 (Bm.tkN 2 (s.data.toList,true)).2 (Bm.tkT 16 (Bm.tkN 2 (s.data.toList,true)).2).2 (Bm.tkN 24 (Bm.tkT 16 (Bm.tkN 2 (s.data.toList,true)).2).2).2 _ _
   (fun bs br W h=>hnum_any 2 bs br (s.data.toList,true) W h hs0 (by omega)) (fun bs br W h=>htext_any 16 bs br _ W h (Nat.le_trans l1 hs0) (by omega) (by omega)) (fun bs br W h=>hnum_any 24 bs br _ W h (Nat.le_trans l2 (Nat.le_trans l1 hs0)) (by omega))
   (by simp only[Bm.take,Bm.tkB,Bm.tkH]) (by omega) (by omega) (Nat.le_trans l3 (Nat.le_trans l2 (Nat.le_trans l1 hs0)))
end
section
open Go.ChangeShapes Go.WideShapes Go.ChangeAt Go.RowKit
def Rd (w:World)(t:TypeId)(cs:List Value):Prop:=
 ∃ (H:Type) (enc:TypeId×Value→H) (n:Nat) (d:DataW H) (ps:List MemPlace),DataW.trod enc Tryz.prog w 0 (fun _=>true) true n t cs=some (d,ps)∧∀ x∈d.weights Tryz.prog t,x≤140737488351232
theorem Rd.int {w:World}{t:TypeId}{cs:List Value}{k:IntKind}(h:Rd w t cs)(ht:Tryz.prog.underlying t=some (.int k)):∃ n,cs=[.int k n]∧(Lit.int k n).wf=true:=by
 obtain⟨H,enc,n,d,ps,ht',hw⟩:=h
 obtain⟨m,rfl,_,hm⟩:=DataW.trod_int ht ht'
 exact⟨m,rfl,hm⟩
theorem Rd.bool {w:World}{t:TypeId}{cs:List Value}(h:Rd w t cs)(ht:Tryz.prog.underlying t=some .bool):∃ b,cs=[.bool b]:=by
 obtain⟨H,enc,n,d,ps,ht',hw⟩:=h
 obtain⟨m,rfl,_⟩:=DataW.trod_bool ht ht'
 exact⟨m,rfl⟩
theorem Rd.string {w:World}{t:TypeId}{cs:List Value}(h:Rd w t cs)(ht:Tryz.prog.underlying t=some .string):∃ s:ByteArray,cs=[.string s]∧s.size≤140737488351232:=by
 obtain⟨H,enc,n,d,ps,ht',hw⟩:=h
 obtain⟨s,rfl,hx,hm⟩:=DataW.trod_string ht ht'
 injection hx with h1 h2
 subst h1
 have:=hw s.data.toList.length (by simp[DataW.weights])
 exact⟨s,rfl,by simpa using this⟩
theorem Rd.struct {w:World}{t:TypeId}{cs:List Value}{fs:Array Field}(h:Rd w t cs)(ht:Tryz.prog.underlying t=some (.struct fs)) :
  cs.length=Tryz.prog.cellsOf t∧∀ (i:Nat) (f:Field),fs[i]? = some f→Rd w f.type ((cs.drop f.offset).take (Tryz.prog.cellsOf f.type)):=by
 obtain⟨H,enc,n,d,ps,ht',hw⟩:=h
 obtain⟨xs,m,rfl,hx,hl,hlen,hg⟩:=DataW.trod_struct ht ht'
 injection hx with h1 h2
 subst h1
 refine⟨hl,fun i f hi=>?_⟩
 have hil:i<fs.size:=(Array.getElem?_eq_some_iff.1 hi).1
 have hxi:xs[i]? = some xs[i]:=List.getElem?_eq_getElem (by omega)
 refine⟨H,enc,m,xs[i].1,xs[i].2,(hg i f hi).trans hxi,fun x hx=>hw x ?_⟩
 simp only[DataW.weights,ht]
 exact DataW.weights_mem_each (j:=i) (t:=f.type) (d:=xs[i].1) (by simp[hi]) (by simp[hxi]) x hx
theorem Rd.field {w:World}{t:TypeId}{cs:List Value}{fs:Array Field}(h:Rd w t cs)(ht:Tryz.prog.underlying t=some (.struct fs))(i:Nat){ty:TypeId}(off k:Nat)(hi:(fs[i]?).map (fun f=>(f.type,f.offset))=some (ty,off))(hk:Tryz.prog.cellsOf ty=k) :
    Rd w ty ((cs.drop off).take k):=by
  obtain⟨f,hf,he⟩:=Option.map_eq_some_iff.1 hi
  injection he with e1 e2
  subst e1 e2 hk
  exact(h.struct ht).2 i f hf
theorem weightsAll_mem {H:Type}{P:Program}{e:TypeId}{d:DataW H}:∀ {l:List (DataW H)},d∈l→∀ x∈d.weights P e,x∈DataW.weightsAll P e l
 | d0 :: l,hd,x,hx=>by
   simp only[DataW.weightsAll,List.mem_append]
   rcases List.mem_cons.1 hd with rfl | hd
   · exact .inl hx
   · exact .inr (weightsAll_mem hd x hx)
theorem Rd.slice {w:World}{t e:TypeId}{cs:List Value}(h:Rd w t cs)(ht:Tryz.prog.underlying t=some (.slice e)) :
  cs=[.slice none 0 0]∨∃ (a:Addr) (len cap:Nat),cs=[.slice (some a) len cap]∧len≤cap∧cap≤maxLen∧cap * Tryz.prog.bytesOf e≤140737488351232 ∧
    ∀ i,i<cap→∃ cs',w.cells? 0 (a.add (i * Tryz.prog.cellsOf e)) (Tryz.prog.cellsOf e)=some cs'∧Rd w e cs':=by
 obtain⟨H,enc,n,d,ps,ht',hw⟩:=h
 rcases Deep.open_slice ht ht' with ⟨h0,_⟩ | ⟨a,len,cap,m,n',D,Pl,hcs,hb,hl,hm,hmm,hx,hi⟩
 · exact .inl h0
 · right
   simp only[if_true] at hmm
   subst hmm
   injection hx with h1 h2
   subst h1
   simp only[DataW.weights,ht] at hw
   refine⟨a,len,m,hcs,hl,hm,?_,fun i hi'=>?_⟩
   · have:=hw _ (List.mem_cons_self ..)
     simp only[List.length_map,List.length_range] at this
     rwa [show len+(m - len)=m by omega] at this
   · obtain⟨cs',hc,htr⟩:=hi i hi'
     refine⟨cs',hc,H,enc,n',D i,Pl i,htr,fun x hx=>hw x (List.mem_cons_of_mem _ (List.mem_append.2 ?_))⟩
     by_cases hlt:i<len
     · exact .inl (weightsAll_mem (List.mem_map.2 ⟨i,by simpa using hlt,rfl⟩) x hx)
     · exact .inr (weightsAll_mem (List.mem_map.2 ⟨i - len,by simp;omega,by rw[show len+(i - len)=i by omega]⟩) x hx)
def RdV (w:World)(t:TypeId)(v:Value):Prop:=(∃ base,Value.okWide Tryz.prog w .any base t v)∧Rd w t v.cells.toList
theorem RdV.int {w:World}{t:TypeId}{v:Value}{k:IntKind}(h:RdV w t v)(ht:Tryz.prog.underlying t=some (.int k)):∃ n,v=.int k n∧(Lit.int k n).wf=true:=by
 obtain⟨⟨b,ho⟩,hr⟩:=h
 obtain⟨n,rfl⟩:=okWide_int ht ho
 obtain⟨m,e,hm⟩:=hr.int ht
 simp[Value.cells] at e
 subst e
 exact⟨n,rfl,hm⟩
theorem RdV.bool {w:World}{t:TypeId}{v:Value}(h:RdV w t v)(ht:Tryz.prog.underlying t=some .bool):∃ b,v=.bool b:=by
 obtain⟨⟨b,ho⟩,hr⟩:=h
 obtain⟨n,rfl⟩:=okWide_bool ht ho
 exact⟨n,rfl⟩
theorem RdV.string {w:World}{t:TypeId}{v:Value}(h:RdV w t v)(ht:Tryz.prog.underlying t=some .string):∃ s:ByteArray,v=.string s∧s.size≤140737488351232:=by
 obtain⟨⟨b,ho⟩,hr⟩:=h
 obtain⟨n,rfl⟩:=okWide_string ht ho
 obtain⟨m,e,hm⟩:=hr.string ht
 simp[Value.cells] at e
 subst e
 exact⟨n,rfl,hm⟩
theorem RdV.struct {w:World}{t:TypeId}{v:Value}{fs:Array Field}(h:RdV w t v)(ht:Tryz.prog.underlying t=some (.struct fs)):∃ cs:List Value,v=.agg cs.toArray∧Rd w t cs:=by
 obtain⟨⟨b,ho⟩,hr⟩:=h
 obtain⟨cs,rfl,_⟩:=okWide_struct ht ho
 exact⟨cs.toList,rfl,hr⟩
theorem RdV.slice {w:World}{t e:TypeId}{v:Value}(h:RdV w t v)(ht:Tryz.prog.underlying t=some (.slice e)):∃ A n c,v=.slice A n c∧Rd w t [.slice A n c]:=by
 obtain⟨⟨b,ho⟩,hr⟩:=h
 obtain⟨A,n,c,rfl⟩:=okWide_slice ht ho
 exact⟨A,n,c,rfl,hr⟩
theorem args1 {a:Array Value}(h:a.size=1):∃ x,a=#[x]:=by
 obtain⟨l⟩:=a
 match l,h with
 | [x],_=>exact⟨x,rfl⟩
theorem laidOut_:laidOutB Tryz.prog=true:=by kernel_rfl
theorem ownKnob_:ownKnob Tryz.prog.godebug=none:=by kernel_rfl
theorem trodAll_keep {H:Type}{enc:TypeId×Value→H}{W W':World}(hb:Q W W'):∀ (ts:List TypeId) (vs:List Value) (ds:List (DataW H)) (ps:List MemPlace),(∀ t∈ts,Tryz.prog.readableRec t=true∧t < Tryz.prog.types.size) →
  DataW.TrodAll enc Tryz.prog W 0 (fun _=>true) true ts vs ds ps→(∀ x∈ps,x.block<W.heap.size)→DataW.TrodAll enc Tryz.prog W' 0 (fun b=>decide (b<W.heap.size)) true ts vs ds ps
 | [],vs,ds,ps,_,h,_=>by
   obtain⟨rfl,rfl,rfl⟩:=trodAll_nil h
   exact trodAll_mk0
 | t :: ts,vs,ds,ps,ht,h,hlt=>by
   obtain⟨v,vs',d,ds',p,q,rfl,rfl,rfl,h1,h2⟩:=trodAll_cons h
   exact⟨p,q,Below.trod laidOut_ (ht t (by simp)).1 (ht t (by simp)).2 h1 hb.below (fun x hx=>hlt x (by simp[hx])),trodAll_keep hb ts vs' ds' q (fun u hu=>ht u (by simp[hu])) h2 (fun x hx=>hlt x (by simp[hx])),rfl⟩
theorem trodAll_len {H:Type}{enc:TypeId×Value→H}{W:World}:∀ (ts:List TypeId) (vs:List Value) (ds:List (DataW H)) (ps:List MemPlace),DataW.TrodAll enc Tryz.prog W 0 (fun _=>true) true ts vs ds ps→vs.length=ts.length∧ds.length=ts.length ∧
    ∀ (j:Nat) t v,ts[j]? = some t→vs[j]? = some v→∃ d p,ds[j]? = some d∧DataW.Trod enc Tryz.prog W 0 (fun _=>true) true t v d p
  | [],vs,ds,ps,h=>by
    obtain⟨rfl,rfl,rfl⟩:=trodAll_nil h
    exact⟨rfl,rfl,fun j t v hj=>by simp at hj⟩
  | t :: ts,vs,ds,ps,h=>by
    obtain⟨v,vs',d,ds',p,q,rfl,rfl,rfl,h1,h2⟩:=trodAll_cons h
    obtain⟨e1,e2,h3⟩:=trodAll_len ts vs' ds' q h2
    refine⟨by simp[e1],by simp[e2],fun j t' v' hj hv=>?_⟩
    cases j with
    | zero =>
      simp only[List.getElem?_cons_zero,Option.some.injEq] at hj hv
      subst hj hv
      exact⟨d,p,rfl,h1⟩
    | succ j=>exact h3 j t' v' (by simpa using hj) (by simpa using hv)
end
section
open Go.ChangeShapes Go.WideShapes Go.RowKit
theorem choose_list {α:Type}{R:Nat→α→Prop}:∀ (n:Nat),(∀ i,i<n→∃ a,R i a)→∃ l:List α,l.length=n∧∀ i (hi:i<l.length),R i l[i]
 | 0,_=>⟨[],rfl,fun i hi=>by simp at hi⟩
 | n + 1,h=>by
   obtain⟨l,hl,hr⟩:=choose_list n (fun i hi=>h i (by omega))
   obtain⟨a,ha⟩:=h n (by omega)
   refine⟨l++[a],by simp[hl],fun i hi=>?_⟩
   by_cases hlt:i<l.length
   · rw[List.getElem_append_left hlt];exact hr i hlt
   · have e:i=l.length:=by simp at hi;omega
     subst e
     rw[List.getElem_append_right (Nat.le_refl _)]
     simpa [hl] using ha
theorem flat_at {α:Type}(g:α→List Value)(k:Nat)(hg:∀ a,(g a).length=k):∀ (l:List α) (j:Nat) (u:Value),(l.flatMap g)[j]? = some u→∃ i r,∃ hi:i<l.length,j=i*k+r∧r<k∧(g l[i])[r]? = some u
 | [],j,u,h=>by simp at h
 | a :: l,j,u,h=>by
   rw[List.flatMap_cons] at h
   by_cases hj:j<k
   · rw[List.getElem?_append_left (by rw[hg];exact hj)] at h
     exact⟨0,j,by simp,by omega,hj,by simpa using h⟩
   · rw[List.getElem?_append_right (by rw[hg];omega),hg] at h
     obtain⟨i,r,hi,he,hr,hu⟩:=flat_at g k hg l (j - k) u h
     refine⟨i+1,r,by simpa using hi,?_,hr,by simpa using hu⟩
     rw[Nat.succ_mul];omega
theorem flat_len {α:Type}(g:α→List Value)(k:Nat)(hg:∀ a,(g a).length=k):∀ (l:List α),(l.flatMap g).length=l.length*k
 | []=>by simp
 | a :: l=>by rw[List.flatMap_cons,List.length_append,hg,flat_len g k hg l,List.length_cons,Nat.succ_mul];omega
theorem holds_flat {α:Type}(g:α→List Value)(k:Nat)(hg:∀ a,(g a).length=k)(w:World)(ad:Addr)(l:List α)(h:∀ i (hi:i<l.length),w.cells? 0 (ad.add (i*k)) k=some (g l[i])) :
  Holds w w.heap.size k (some ad) l.length (l.flatMap g):=by
 refine⟨flat_len g k hg l,fun j u hu=>?_⟩
 obtain⟨i,r,hi,rfl,hr,hv⟩:=flat_at g k hg l j u hu
 obtain⟨_,_,hat⟩:=World.cells?_some (h i hi)
 have hc:=hat r hr
 rw[hv,addr_add] at hc
 refine⟨ad,rfl,?_,hc⟩
 have:=block_lt_of_cell hc
 rwa [addr_block] at this
theorem wf_i64 {x:Int}(h:(Lit.int .i64 x).wf=true):-9223372036854775808≤x∧x≤9223372036854775807:=by
 simp only[Lit.wf,Bool.and_eq_true,decide_eq_true_eq] at h
 have e1:IntKind.i64.min=-9223372036854775808:=by decide
 have e2:IntKind.i64.max=9223372036854775807:=by decide
 omega
end
section
open Go.ChangeShapes Go.WideShapes Go.RowKit
end
section
open Go.RowKit Prm
end
section
open Go.ChangeShapes Go.WideShapes Go.RowKit Prm
end
section
open Prm
namespace Mg
def lastw (k:ByteArray)(l:List Wr):Option Wr:=l.foldl (fun r w=>if w.key=k then some w else r) none
def Rise (l:List Wr):Prop:=l.Pairwise fun a b=>lt a.key b.key=true
def Is (ws l:List Wr):Prop:=Rise l∧∀ w,w∈l↔lastw w.key ws=some w
end Mg
end
section
open Go.RowKit Prm
end
section
open Go.ChangeShapes Go.WideShapes Go.RowKit Prm
theorem Bm.fin_len (x:Bm.Bt×Bm.Hs):(Bm.fin x).1.ws.length≤24:=by
 obtain⟨b,y,o⟩:=x
 unfold Bm.fin
 by_cases h:o=true∧y=[]∧Bm.may b=true
 · rw[if_pos h];exact Bm.may_len h.2.2
 · rw[if_neg h];simp
theorem Bm.take_len (s:List UInt8):(Bm.take s).1.ws.length≤24:=by
 unfold Bm.take
 generalize Bm.tkB (s,true)=x
 exact Bm.fin_len x
end
section
open Go.RowKit Dkm Wm
def RetW (w:World)(d:Dk)(vs:List Value)(e:Ending)(w':World):Prop:=
 ∃ A n c,e=.returned (.tuple (dkv A n c d.room d.fuse d.off :: vs).toArray)∧Dsk w' A n c d.fs∧(∀ ad,A=some ad→w.heap.size≤ad.block)∧Q w w'
theorem Sb.endW {w wr:World}{A:Option Addr}{n c:Nat}{room fuse:Int}{off:Bool}(h:Sb w A n c room fuse off wr){w2:World}(q:Q wr w2){A2:Option Addr}{n2 c2:Nat}{d:Dk}(ho:Own w2 wr.heap.size A2 n2 c2 d.fs)(hn:n2*48≤140737488355328)(vs:List Value)(x y z u:Value) :
  RetW w d vs (.returned (.tuple (dkv A2 n2 c2 d.room d.fuse d.off :: vs).toArray)) ((((w2.setCell ⟨w.heap.size+1,0,none⟩ x).setCell ⟨w.heap.size+1,1,none⟩ y).setCell ⟨w.heap.size+1,2,none⟩ z).setCell ⟨w.heap.size+1,3,none⟩ u):=
 ⟨A2,n2,c2,rfl,(ho.set4 h.res.lt _ _ _ _).dsk hn,fun ad e=>by have h1:=ho.far_ ad e;have h2:=h.q.size;omega,(h.q.trans q).set4 (b:=w.heap.size+1) (by omega) _ _ _ _⟩
theorem wsync_any (seg:Int)(A:Option Addr)(n c:Nat)(d:Dk)(w:World)(hT:Tab w)(hd:Dsk w A n c d.fs)(hs:∀ f∈d.fs,f.sf.size+f.wt.size≤maxLen) :
  Calls Tryz.prog 93 #[dkv A n c d.room d.fuse d.off,.int .i64 seg] w fun e w'=>RetW w (syncM d seg).1 [.int .i64 (syncM d seg).2] e w':=by
 obtain⟨l,room,fuse,off⟩:=d
 have HT:=hid hT
 have HD:=hid hd
 have HN:=hid hd.max
 have HS:=hid hs
 clear hT hd hs
 have hsl:=syn_len ⟨l,room,fuse,off⟩ (namB seg)
 have KS:=hid (fun w hd=>sync_any (namB seg) A n c ⟨l,room,fuse,off⟩ w hd HS.out)
 have KH:=hid (fun w hf hn=>has_any (namB seg) A n c room fuse off l w hf hn)
 unfold syncM
 generalize syn ⟨l,room,fuse,off⟩ (namB seg)=r at hsl KS ⊢
 generalize hit (namB seg) l=b at KH ⊢
 obtain⟨f,b⟩:=b
 have KN:=hid (name_any seg)
 cases b
 · simp only[Bool.false_eq_true,if_false]
   go_enter Tryz.func93,Tryz.ntmps93
   go_upto_region 1 with (fail)
   have X:=hid (Sb.new w A n c room fuse off)
   generalize ((w.alloc (.cells #[.slice A n c,.int .i64 room,.int .i64 fuse,.bool off] 24)).alloc (.cells #[.slice none 0 0,.int .i64 0,.int .i64 0,.bool false] 24))=W at X ⊢
   obtain⟨⟨e0,e1,e2,e3⟩,f0,f1,f2',f3⟩:=X.out.get
   go_region_held3 (fun w'=>w'.cell? ⟨w.heap.size,0,none⟩=some (.slice A n c)∧w'.cell? ⟨w.heap.size,1,none⟩=some (.int .i64 room)∧w'.cell? ⟨w.heap.size,2,none⟩=some (.int .i64 fuse)∧w'.cell? ⟨w.heap.size,3,none⟩=some (.bool off))
     (first
       | go_keep
       | (go_split_ands
          (repeat' apply And.intro)<;>exact box_ ‹Q _ _› (by assumption)))
     (first
       | (go_at_call 121
          (with_reducible refine(KN.out _ (HT.out.q (X.out.q.trans (Q.refl W).drew))).mono ?_)
          rintro e w2 ⟨rfl,q2⟩)
       | (go_at_call 148
          (with_reducible refine(KH.out _ (HD.out.files.q (X.out.q.trans ((Q.refl W).drew.trans q2))) HN.out).mono ?_)
          rintro e w3 ⟨rfl,q3⟩))
   have Y:=hid (X.out.step (((Q.refl W).drew.trans q2).trans q3))
   clear X q2 q3 e0 e1 e2 e3 f0 f1 f2' f3
   obtain⟨⟨e0,e1,e2,e3⟩,f0,f1,f2',f3⟩:=Y.out.get
   go_wp2_with fail
   refine(wown_any A n c room fuse off l _ (HD.out.q Y.out.q)).mono ?_
   rintro e w4 ⟨A4,c4,rfl,ho,q4⟩
   have Z:=hid (And.intro ho q4)
   obtain⟨⟨s0,s1,s2,s3⟩,h0,h1,h2,h3⟩:=(Y.out.step q4).getR
   clear ho q4 e0 e1 e2 e3 f0 f1 f2' f3
   go_wp2
   refine bodyPost_ret (v:=.tuple #[dkv A4 n c4 room fuse off,.int .i64 0]) (by simp[results,Tryz.results93,go_sem,s0,s1,s2,s3]) rfl ?_
   exact Y.out.endW Z.out.2 (d:=⟨l,room,fuse,off⟩) Z.out.1 HD.out.few [.int .i64 0] _ _ _ _
 · simp only[if_true]
   go_enter Tryz.func93,Tryz.ntmps93
   go_upto_region 1 with (fail)
   have X:=hid (Sb.new w A n c room fuse off)
   generalize ((w.alloc (.cells #[.slice A n c,.int .i64 room,.int .i64 fuse,.bool off] 24)).alloc (.cells #[.slice none 0 0,.int .i64 0,.int .i64 0,.bool false] 24))=W at X ⊢
   obtain⟨⟨e0,e1,e2,e3⟩,f0,f1,f2',f3⟩:=X.out.get
   go_region_held3 (fun w'=>w'.cell? ⟨w.heap.size,0,none⟩=some (.slice A n c)∧w'.cell? ⟨w.heap.size,1,none⟩=some (.int .i64 room)∧w'.cell? ⟨w.heap.size,2,none⟩=some (.int .i64 fuse)∧w'.cell? ⟨w.heap.size,3,none⟩=some (.bool off))
     (first
       | go_keep
       | (go_split_ands
          (repeat' apply And.intro)<;>exact box_ ‹Q _ _› (by assumption)))
     (first
       | (go_at_call 121
          (with_reducible refine(KN.out _ (HT.out.q (X.out.q.trans (Q.refl W).drew))).mono ?_)
          rintro e w2 ⟨rfl,q2⟩)
       | (go_at_call 148
          (with_reducible refine(KH.out _ (HD.out.files.q (X.out.q.trans ((Q.refl W).drew.trans q2))) HN.out).mono ?_)
          rintro e w3 ⟨rfl,q3⟩))
   have Y:=hid (X.out.step (((Q.refl W).drew.trans q2).trans q3))
   clear X q2 q3 e0 e1 e2 e3 f0 f1 f2' f3
   obtain⟨⟨e0,e1,e2,e3⟩,f0,f1,f2',f3⟩:=Y.out.get
   go_upto_region 3 with (fail)
   go_region_held3 (fun w'=>w'.cell? ⟨w.heap.size,0,none⟩=some (.slice A n c)∧w'.cell? ⟨w.heap.size,1,none⟩=some (.int .i64 room)∧w'.cell? ⟨w.heap.size,2,none⟩=some (.int .i64 fuse)∧w'.cell? ⟨w.heap.size,3,none⟩=some (.bool off))
     (first
       | go_keep
       | (go_split_ands
          (repeat' apply And.intro)<;>exact box_ ‹Q _ _› (by assumption)))
     (first
       | (go_at_call 121
          (with_reducible refine(KN.out _ (HT.out.q (Y.out.q.trans (Q.refl _).drew))).mono ?_)
          rintro e w4 ⟨rfl,q4⟩)
       | (go_at_call 146
          (with_reducible refine(KS.out _ (HD.out.q (Y.out.q.trans ((Q.refl _).drew.trans q4)))).mono ?_)
          rintro e w5 ⟨A5,n5,c5,rfl,ho,q5⟩
          obtain⟨⟨s0,s1,s2,s3⟩,h0,h1,h2,h3⟩:=((Y.out.step ((Q.refl _).drew.trans q4)).step q5).getR))
   have hn5:n5*48≤140737488355328:=by have h1:=ho.len;have h2:=HD.out.len;have h3:=HD.out.few;omega
   have Z:=hid (And.intro ho (And.intro q5 hn5))
   have Y4:=hid (Y.out.step ((Q.refl _).drew.trans q4))
   clear ho q4 q5 hn5 e0 e1 e2 e3 f0 f1 f2' f3 Y
   go_wp2
   refine bodyPost_ret (v:=.tuple #[dkv A5 n5 c5 r.1.room r.1.fuse r.1.off,.int .i64 r.2]) (by simp[results,Tryz.results93,go_sem,s0,s1,s2,s3]) rfl ?_
   exact Y4.out.endW Z.out.2.1 (d:=r.1) Z.out.1 Z.out.2.2 [.int .i64 r.2] _ _ _ _
end
section
open Go.RowKit Dkm Wm
theorem Sd.endW {w wr:World}{A:Option Addr}{n c:Nat}{room fuse:Int}{off:Bool}{L:List Fil}(h:Sd w A n c room fuse off L wr)(hn:n*48≤140737488355328)(vs:List Value)(x y z u:Value) :
  RetW w ⟨L,room,fuse,off⟩ vs (.returned (.tuple (dkv A n c room fuse off :: vs).toArray)) ((((wr.setCell ⟨w.heap.size+1,0,none⟩ x).setCell ⟨w.heap.size+1,1,none⟩ y).setCell ⟨w.heap.size+1,2,none⟩ z).setCell ⟨w.heap.size+1,3,none⟩ u):=
 ⟨A,n,c,rfl,(h.own.set4 (b:=w.heap.size+1) (by omega) _ _ _ _).dsk hn,fun ad e=>by have h1:=h.own.far_ ad e;omega,h.sb.q.set4 (b:=w.heap.size+1) (by omega) _ _ _ _⟩
theorem Sd.new2 {w wr w5:World}{A A0:Option Addr}{n c n0 c0:Nat}{room fuse room0 fuse0:Int}{off off0:Bool}{L:List Fil}(h:Sb w A0 n0 c0 room0 fuse0 off0 wr)(q:Q wr w5)(ho:Own w5 wr.heap.size A n c L) :
  Sd w A n c room fuse off L ((((w5.setCell ⟨w.heap.size,0,none⟩ (.slice A n c)).setCell ⟨w.heap.size,1,none⟩ (.int .i64 room)).setCell ⟨w.heap.size,2,none⟩ (.int .i64 fuse)).setCell ⟨w.heap.size,3,none⟩ (.bool off)):=
 ⟨(h.step q).put4 A n c room fuse off,(ho.lower (by have:=h.res.lt;omega)).set4 (b:=w.heap.size) (by omega) _ _ _ _⟩
theorem put_fit (seg:Int)(rec:ByteArray)(A:Option Addr)(n c:Nat)(d:Dk)(w:World)(hT:Tab w)(hd:Dsk w A n c d.fs)(hB:Bnd 2305843009213693952 d)(h1:segOk seg)(h2:rec.size≤2048)(h3:(redd (namB seg) d.fs).1.size<256) :
  Calls Tryz.prog 92 #[dkv A n c d.room d.fuse d.off,.int .i64 seg,.string rec] w fun e w'=>RetW w (putA d seg rec).1 [.int .i64 seg,.int .i64 (putA d seg rec).2.2] e w':=by
 obtain⟨l,room,fuse,off⟩:=d
 have HT:=hid hT
 have HD:=hid hd
 have HN:=hid hd.max
 have HB:=hid hB
 have hmx:∀ f∈l,f.sf.size+f.wt.size≤maxLen:=fun f hf=>Nat.le_trans (hB.sum f hf) (by unfold maxLen;omega)
 have hal:=appd_few ⟨l,room,fuse,off⟩ (namB seg) (sealB rec)
 have hsb:(sealB rec).size≤2305843009213693952:=by rw[sealB_size];have:=sld_length rec.data.toList (by rw[size_list];omega);rw[size_list] at this;omega
 have KA:=hid (fun w hd=>append_any (namB seg) (sealB rec) A n c ⟨l,room,fuse,off⟩ w hd HB.out.sum hsb HB.out.room.2 HB.out.fuse.2)
 have KL:=hid (fun w=>seal_any rec w (by omega))
 have KR:=hid (fun w hf=>read_any (namB seg) A n c room fuse off l w hf HN.out hmx)
 have KN:=hid (name_any seg)
 have KU:=hid (numbered_yes seg h1)
 unfold putA
 generalize appd ⟨l,room,fuse,off⟩ (namB seg) (sealB rec)=r at hal KA ⊢
 have h3':(redd (namB seg) l).1.size<256:=h3
 generalize redd (namB seg) l=b at KR h3'
 obtain⟨b,be⟩:=b
 have t3:¬ 256≤b.size:=by have:b.size<256:=h3';omega
 clear hT hd hB hmx h1 h3 h3' hsb
 change Hid (∀ w,Calls _ _ _ w fun e w'=>e=.returned (.string (sealB rec))∧Q w w') at KL
 generalize sealB rec=sr at KA KL
 go_enter Tryz.func92,Tryz.ntmps92
 go_wp2_with fail
 refine(KU.out _).mono ?_
 rintro e w1 ⟨rfl,q1⟩
 have X:=hid ((Sb.new w A n c room fuse off).step q1)
 clear q1
 go_upto_region 5 with (fail)
 obtain⟨⟨e0,e1,e2,e3⟩,f0,f1,f2',f3⟩:=X.out.get
 go_region_held3 (fun w'=>w'.cell? ⟨w.heap.size,0,none⟩=some (.slice A n c)∧w'.cell? ⟨w.heap.size,1,none⟩=some (.int .i64 room)∧w'.cell? ⟨w.heap.size,2,none⟩=some (.int .i64 fuse)∧w'.cell? ⟨w.heap.size,3,none⟩=some (.bool off))
   (first
     | go_keep
     | (go_split_ands
        (repeat' apply And.intro)<;>exact box_ ‹Q _ _› (by assumption)))
   (first
     | (go_at_call 121
        (with_reducible refine(KN.out _ (HT.out.q (X.out.q.trans (Q.refl w1).drew))).mono ?_)
        rintro e w2 ⟨rfl,q2⟩)
     | (go_at_call 115
        (with_reducible refine(KR.out _ (HD.out.files.q (X.out.q.trans ((Q.refl w1).drew.trans q2)))).mono ?_)
        rintro e w3 ⟨rfl,q3⟩))
 have Y:=hid (X.out.step (((Q.refl w1).drew.trans q2).trans q3))
 clear X q2 q3 e0 e1 e2 e3 f0 f1 f2' f3
 have DW:=hid (HD.out.q Y.out.q)
 obtain⟨⟨e0,e1,e2,e3⟩,f0,f1,f2',f3⟩:=Y.out.get
 go_upto_region 14 with (fail)
 generalize w3=W at Y DW e0 e1 e2 e3 f0 f1 f2' f3 ⊢
 have QW:=hid (Q.refl W)
 refine wp_region_heldL 9 (Q W) (by kernel_rfl) ?szz0 (fun hHeld=>?rzz0)
 case szz0 =>
  exact(Q.refl W).drew
 refine takeL 0 ?v1 ?y1 ?_
 case y1=>intro w hSw;have x0:=box_ hSw e0;have x1:=box_ hSw e1;have x2:=box_ hSw e2;have x3:=box_ hSw e3;clear hSw;go_simp;try with_reducible rfl
 refine takL 1 ?_
 refine takL 3 ?_
 refine oneL 2 (fun K hK=>?_)
 go_simp
 refine(KN.out _ (HT.out.q (Y.out.q.trans hHeld))).mono ?_
 rintro e w3 ⟨rfl,q3⟩
 go_wp2_with fail
 refine hK.out _ _ (hHeld.trans q3) (fun hHeld=>?_)
 clear hK K
 try simp only[Act.put,sA,sB,sC]
 refine oneL 4 (fun K hK=>?_)
 go_simp
 refine(KL.out _).mono ?_
 rintro e w4 ⟨rfl,q4⟩
 go_wp2_with fail
 refine hK.out _ _ (hHeld.trans q4) (fun hHeld=>?_)
 clear hK K
 try simp only[Act.put,sA,sB,sC]
 refine oneL 5 (fun K hK=>?_)
 go_simp
 refine(KA.out _ (DW.out.q hHeld)).mono ?_
 rintro e w5 ⟨A5,n5,c5,rfl,ho,q5⟩
 obtain⟨⟨x0,x1,x2,x3⟩,y0,y1,y2,y3⟩:=((Y.out.step hHeld).step q5).get
 have Z5:=hid (And.intro ho (And.intro hHeld q5))
 go_wp2_with fail
 refine hK.out _ _ (hHeld.trans q5) (fun hHeld=>?_)
 clear hK K
 try simp only[Act.put,sA,sB,sC]
 refine takL 6 ?_
 refine takL 7 ?_
 refine wpAnyL_ready (rs:=[8,9]) (by kernel_rfl) (by simp) ?_
 refine consL (fun K hK=>?kzz10) ?_
 case kzz10 =>
  go_simp
  refine hK.out _ _ (hHeld) (fun hHeld=>?_)
  clear hK K
  try simp only[Act.put,sA,sB,sC]
  refine oneK (fun K hK=>?_)
  go_simp
  refine hK.out _ _ ?_
  clear hK K
  try simp only[Act.put,sA,sB,sC]
  refine takH 10 ?_
  refine doneH ?_
  have hn5:n5*48≤140737488355328:=by have h1:=Z5.out.1.len;have h2:=HD.out.len;have h3:=HD.out.few;omega
  have D1:=hid (Sd.new2 (room:=r.1.room) (fuse:=r.1.fuse) (off:=r.1.off) (Y.out.step Z5.out.2.1) Z5.out.2.2 Z5.out.1)
  clear e0 e1 e2 e3 f0 f1 f2' f3 x0 x1 x2 x3 y0 y1 y2 y3
  generalize ((((w5.setCell ⟨w.heap.size,0,none⟩ (.slice A5 n5 c5)).setCell ⟨w.heap.size,1,none⟩ (.int .i64 r.1.room)).setCell ⟨w.heap.size,2,none⟩ (.int .i64 r.1.fuse)).setCell ⟨w.heap.size,3,none⟩ (.bool r.1.off))=V at D1 ⊢
  obtain⟨⟨e0,e1,e2,e3⟩,f0,f1,f2',f3⟩:=D1.out.sb.get
  obtain⟨⟨s0,s1,s2,s3⟩,h0,h1,h2,h3⟩:=D1.out.sb.getR
  go_wp2
  refine bodyPost_ret (v:=.tuple #[dkv A5 n5 c5 r.1.room r.1.fuse r.1.off,.int .i64 seg,.int .i64 r.2]) (by simp[results,Tryz.results92,go_sem,s0,s1,s2,s3]) rfl ?_
  exact D1.out.endW hn5 [.int .i64 seg,.int .i64 r.2] _ _ _ _
 refine consK (fun K hK=>?_) AllReadyL.nil
 go_simp
 refine hK.out _ _ ?_
 clear hK K
 try simp only[Act.put,sA,sB,sC]
 refine takH 8 ?_
 refine takH 10 ?_
 refine doneH ?_
 have hn5:n5*48≤140737488355328:=by have h1:=Z5.out.1.len;have h2:=HD.out.len;have h3:=HD.out.few;omega
 have D1:=hid (Sd.new2 (room:=r.1.room) (fuse:=r.1.fuse) (off:=r.1.off) (Y.out.step Z5.out.2.1) Z5.out.2.2 Z5.out.1)
 clear e0 e1 e2 e3 f0 f1 f2' f3 x0 x1 x2 x3 y0 y1 y2 y3
 generalize ((((w5.setCell ⟨w.heap.size,0,none⟩ (.slice A5 n5 c5)).setCell ⟨w.heap.size,1,none⟩ (.int .i64 r.1.room)).setCell ⟨w.heap.size,2,none⟩ (.int .i64 r.1.fuse)).setCell ⟨w.heap.size,3,none⟩ (.bool r.1.off))=V at D1 ⊢
 obtain⟨⟨e0,e1,e2,e3⟩,f0,f1,f2',f3⟩:=D1.out.sb.get
 obtain⟨⟨s0,s1,s2,s3⟩,h0,h1,h2,h3⟩:=D1.out.sb.getR
 go_wp2
 refine bodyPost_ret (v:=.tuple #[dkv A5 n5 c5 r.1.room r.1.fuse r.1.off,.int .i64 seg,.int .i64 r.2]) (by simp[results,Tryz.results92,go_sem,s0,s1,s2,s3]) rfl ?_
 exact D1.out.endW hn5 [.int .i64 seg,.int .i64 r.2] _ _ _ _
end
end Go.Proofs.YtccoknaaofmbcaaGreatDoor
