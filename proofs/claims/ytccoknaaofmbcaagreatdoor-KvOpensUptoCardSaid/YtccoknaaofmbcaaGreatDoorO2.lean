/- DiskFind, DiskOwn, Box, Boxes, DiskSync, DiskSame, DiskArm, DiskSt, DiskMath3, DiskDelete, DiskDrop, DiskDel: merged. -/
import Derived.Test.YtccoknaaofmbcaaGreatDoorO1
import Derived.Maps.AppendAt
import Derived.Laws.AppendOwnNone
import Derived.Laws.StructEq
import Derived.Lib.MinMax
import Derived.Deep.Cut
import Derived.Deep.RegionLaw
import Derived.Deep.RegionHeld3
set_option linter.unusedVariables false
set_option linter.unusedSimpArgs false
set_option maxRecDepth 100000
set_option maxHeartbeats 16000000
open Go.Lib (hid)
namespace Go.Proofs.YtccoknaaofmbcaaGreatDoor
section
open Go.RowKit Dkm
theorem place1 (f:Fil)(nm:ByteArray)(B:Nat)(w:World)(hB:B<w.heap.size)(hc:w.cell? ⟨B,0,none⟩=some (.string nm)) :
  Calls Tryz.prog 204 #[f.val,.pointer (some ⟨B,0,none⟩)] w fun e w'=>e=.returned (.bool (decide (f.nm=nm)))∧Q w w':=by
 obtain⟨a,b,c⟩:=f
 go_enter Tryz.func204,Tryz.ntmps204
 go_wp2
 go_ret
 exact⟨ret_bool (same_str a nm),(Q.refl _).alloc _⟩
theorem indexFunc (nm:ByteArray)(B:Nat)(A:Option Addr)(n c:Nat)(l:List Fil)(w:World)(hB:B<w.heap.size)(hc:w.cell? ⟨B,0,none⟩=some (.string nm))(hf:Files w A n l)(hn:n≤maxLen) :
  Calls Tryz.prog 203 #[.slice A n c,.func (.func 204) #[] #[.pointer (some ⟨B,0,none⟩)]] w fun e w'=>e=.returned (.int .i64 (plc nm l 0))∧Q w w':=by
 unfold maxLen at hn
 have HC:=hid hc
 have HF:=hid hf
 clear hc hf
 go_enter Tryz.func203,Tryz.ntmps203
 go_wp2
 go_loopw [8] (fun i wr=>∃ k:Nat,k≤n∧i=.int .i64 k∧Q w wr∧plc nm l 0=plc nm (l.drop k) k) (fun i _=>n - (intOf i).toNat)
 case atStart=>exact⟨0,Nat.zero_le _,rfl,Q.refl _,rfl⟩
 case round =>
  obtain⟨k,hk,rfl,hq,hp⟩:=hrel
  have HP:=hid hp
  clear hp
  by_cases hlt:k<n
  · have hlen:=HF.out.len
    have hkl:k<l.length:=by omega
    obtain⟨ad,rfl,hb,c0,c1,c2⟩:=(HF.out.q hq).load hlt hkl
    clear hlen
    have hcell:Hid (wr.cell? ⟨B,0,none⟩=some (.string nm)):=hid ((hq.below.cell (p:=⟨B,0,none⟩) hB).trans HC.out)
    go_wp2_with fail
    refine(place1 l[k] nm B _ (Nat.lt_of_lt_of_le hB hq.size) hcell.out).mono ?_
    rintro e w1 ⟨rfl,q1⟩
    by_cases hh:l[k].nm=nm
    · have hd:decide (l[k].nm=nm)=true:=by simpa using hh
      go_wp2
      go_ret
      exact⟨ret_int (by rw[HP.out,plc_drop _ _ _ hkl,if_pos hh]),hq.trans q1⟩
    · have hd:decide (l[k].nm=nm)=false:=by simpa using hh
      go_wp2
      go_roundw
      case rel=>exact⟨k+1,by omega,by go_num,hq.trans q1,by rw[HP.out,plc_drop _ _ _ hkl,if_neg hh]⟩
      case measure=>simp[intOf];omega
  · have hlen:=HF.out.len
    have HL:=hid hlen
    clear hlen
    go_wp2
    go_ret
    exact⟨ret_int (by rw[HP.out,plc_end _ _ _ (by have:=HL.out;omega)]),hq⟩
abbrev dkv (A:Option Addr)(n c:Nat)(room fuse:Int)(off:Bool):Value:=.agg #[.slice A n c,.int .i64 room,.int .i64 fuse,.bool off]
theorem place (nm:ByteArray)(A:Option Addr)(n c:Nat)(room fuse:Int)(off:Bool)(l:List Fil)(w:World)(hf:Files w A n l)(hn:n≤maxLen) :
  Calls Tryz.prog 175 #[dkv A n c room fuse off,.string nm] w fun e w'=>e=.returned (.int .i64 (plc nm l 0))∧Q w w':=by
 have HF:=hid hf
 clear hf
 go_enter Tryz.func175,Tryz.ntmps175
 go_wp2_with fail
 refine(indexFunc nm (w.heap.size+1) A n c l _ (by simp) (by simp) (HF.out.q (((Q.refl _).alloc _).alloc _)) hn).mono ?_
 rintro e w1 ⟨rfl,q1⟩
 go_wp2
 go_ret
 exact⟨rfl,(((Q.refl _).alloc _).alloc _).trans q1⟩
theorem ref_at (nm:ByteArray)(A:Option Addr)(n c:Nat)(room fuse:Int)(off:Bool)(l:List Fil)(w:World)(hf:Files w A n l)(hn:n≤maxLen) :
  Calls Tryz.prog 105 #[dkv A n c room fuse off,.string nm] w fun e w'=>e=.returned (.int .i64 (plc nm l 0))∧Q w w':=by
 unfold maxLen at hn
 have HF:=hid hf
 clear hf
 go_enter Tryz.func105,Tryz.ntmps105
 go_wp2
 go_loop [5] (fun i=>∃ k:Nat,k≤n∧i=.int .i64 k∧plc nm l 0=plc nm (l.drop k) k) (fun i=>n - (intOf i).toNat)
 case atStart=>exact⟨0,Nat.zero_le _,rfl,rfl⟩
 case round =>
  obtain⟨k,hk,rfl,hp⟩:=hrel
  have HP:=hid hp
  have HL:=hid HF.out.len
  clear hp
  by_cases hlt:k<n
  · have hkl:k<l.length:=by have:=HL.out;omega
    obtain⟨ad,rfl,hb,c0,c1,c2⟩:=(HF.out.q ((Q.refl _).alloc (.cells #[.slice A n c,.int .i64 room,.int .i64 fuse,.bool off] 24))).load hlt hkl
    clear c1 c2
    by_cases hh:l[k].nm=nm
    · have hd:(l[k].nm.toList == nm.toList)=true:=by rw[same_str];simpa using hh
      have HH:=hid hh
      clear hh
      go_wp2
      go_ret
      exact⟨ret_int (by rw[HP.out,plc_drop _ _ _ hkl,if_pos HH.out]),(Q.refl _).alloc _⟩
    · have hd:(l[k].nm.toList == nm.toList)=false:=by rw[same_str];simpa using hh
      have HH:=hid hh
      clear hh
      go_wp2
      go_round
      case rel=>exact⟨k+1,by omega,by go_num,by rw[HP.out,plc_drop _ _ _ hkl,if_neg HH.out]⟩
      case measure=>simp[intOf];omega
  · go_wp2
    go_ret
    exact⟨ret_int (by rw[HP.out,plc_end _ _ _ (by have:=HL.out;omega)]),(Q.refl _).alloc _⟩
theorem named_any (nm:ByteArray)(w:World) :
  Calls Tryz.prog 177 #[.string nm] w fun e w'=>e=.returned (.bool (nmOk nm))∧w=w':=by
 by_cases h0:nm.size=0
 · obtain rfl:nm=⟨#[]⟩:=ByteArray.ext (by apply Array.eq_empty_of_size_eq_zero;simpa using h0)
   have h:nmOk ⟨#[]⟩=false:=by decide
   rw[h]
   go_enter Tryz.func177,Tryz.ntmps177
   go_wp2
   go_ret
   exact⟨rfl,rfl⟩
 · have h1:nm.toList≠[]:=by
     intro e
     have:nm.data.toList=[]:=by simpa [ByteArray.toList_eq] using e
     have e2:nm.data=#[]:=by simpa using this
     exact h0 (by show nm.data.size=0;rw[e2];rfl)
   have h2:nm.toList.isEmpty=false:=by simpa using h1
   have h3:(nm.toList == [])=false:=by simpa using h1
   by_cases h4:nm.size≤16
   · have h:nmOk nm=true:=by unfold nmOk;simp;omega
     rw[h];clear h
     go_enter Tryz.func177,Tryz.ntmps177
     go_wp2
     go_ret
     exact⟨ret_bool (by simp;omega),rfl⟩
   · have h:nmOk nm=false:=by unfold nmOk;simp;omega
     rw[h];clear h
     go_enter Tryz.func177,Tryz.ntmps177
     go_wp2
     go_ret
     exact⟨ret_bool (by simp;omega),rfl⟩
theorem size_any (f:Fil)(w:World)(h:f.sf.size+f.wt.size≤maxLen) :
  Calls Tryz.prog 178 #[f.val] w fun e w'=>e=.returned (.int .i64 ((f.sf.size+f.wt.size:Nat):Int))∧Q w w':=by
 unfold maxLen at h
 obtain⟨a,b,c⟩:=f
 simp only at h
 go_enter Tryz.func178,Tryz.ntmps178
 go_wp2
 go_ret
 exact⟨ret_int (by simp),(Q.refl _).alloc _⟩
theorem find_any (nm:ByteArray)(A:Option Addr)(n c:Nat)(room fuse:Int)(off:Bool)(l:List Fil)(w:World)(hf:Files w A n l)(hn:n≤maxLen) :
  Calls Tryz.prog 153 #[dkv A n c room fuse off,.string nm] w fun e w'=>e=.returned (.tuple #[(hit nm l).1.val,.bool (hit nm l).2])∧Q w w':=by
 have HF:=hid hf
 have HN:=hid hn
 unfold maxLen at hn
 clear hf
 rcases plc_cases nm l with ⟨hp,hall⟩ | ⟨k,hk,hp,hkn,hfirst⟩
 · rw[hit_none hall]
   have HP:=hid hp
   clear hp hall
   go_enter Tryz.func153,Tryz.ntmps153
   go_wp2_with fail
   refine(place nm A n c room fuse off l _ (HF.out.q (((Q.refl _).alloc _).alloc _)) HN.out).mono ?_
   rintro e w1 ⟨rfl,q1⟩
   rw[HP.out]
   obtain⟨hc,hz⟩:=bcell q1.below
   go_wp2
   exact bodyPost_ret (v:=.tuple #[Fil.val ⟨⟨#[]⟩,⟨#[]⟩,⟨#[]⟩⟩,.bool false]) (by simp[results,Tryz.results153,go_sem,hc]) rfl ⟨rfl,((((Q.refl _).alloc _).alloc _).trans q1).set3 (by simp) _ _ _⟩
 · rw[hit_at hk hkn hfirst]
   have HL:=hid HF.out.len
   have hkn':k<n:=by have:=HL.out;omega
   have HP:=hid hp
   clear hp hkn hfirst
   go_enter Tryz.func153,Tryz.ntmps153
   go_wp2_with fail
   refine(place nm A n c room fuse off l _ (HF.out.q (((Q.refl _).alloc _).alloc _)) HN.out).mono ?_
   rintro e w1 ⟨rfl,q1⟩
   rw[HP.out]
   obtain⟨ad,rfl,hb,c0,c1,c2⟩:=(HF.out.q ((((Q.refl _).alloc _).alloc _).trans q1)).load hkn' hk
   obtain⟨hc,hz⟩:=bcell q1.below
   go_wp2
   exact bodyPost_ret (v:=.tuple #[(l[k]).val,.bool true]) (by simp[results,Tryz.results153,go_sem,hc]) rfl ⟨rfl,((((Q.refl _).alloc _).alloc _).trans q1).set3 (by simp) _ _ _⟩
theorem ref_find (nm:ByteArray)(A:Option Addr)(n c:Nat)(room fuse:Int)(off:Bool)(l:List Fil)(w:World)(hf:Files w A n l)(hn:n≤maxLen) :
  Calls Tryz.prog 58 #[dkv A n c room fuse off,.string nm] w fun e w'=>e=.returned (.tuple #[(hit nm l).1.val,.bool (hit nm l).2])∧Q w w':=by
 have HF:=hid hf
 have HN:=hid hn
 unfold maxLen at hn
 clear hf
 rcases plc_cases nm l with ⟨hp,hall⟩ | ⟨k,hk,hp,hkn,hfirst⟩
 · rw[hit_none hall]
   have HP:=hid hp
   clear hp hall
   go_enter Tryz.func58,Tryz.ntmps58
   go_wp2_with fail
   refine(ref_at nm A n c room fuse off l _ (HF.out.q (((Q.refl _).alloc _).alloc _)) HN.out).mono ?_
   rintro e w1 ⟨rfl,q1⟩
   rw[HP.out]
   obtain⟨hc,hz⟩:=bcell q1.below
   go_wp2
   exact bodyPost_ret (v:=.tuple #[Fil.val ⟨⟨#[]⟩,⟨#[]⟩,⟨#[]⟩⟩,.bool false]) (by simp[results,Tryz.results58,go_sem,hc]) rfl ⟨rfl,((((Q.refl _).alloc _).alloc _).trans q1).set3 (by simp) _ _ _⟩
 · rw[hit_at hk hkn hfirst]
   have HL:=hid HF.out.len
   have hkn':k<n:=by have:=HL.out;omega
   have HP:=hid hp
   clear hp hkn hfirst
   go_enter Tryz.func58,Tryz.ntmps58
   go_wp2_with fail
   refine(ref_at nm A n c room fuse off l _ (HF.out.q (((Q.refl _).alloc _).alloc _)) HN.out).mono ?_
   rintro e w1 ⟨rfl,q1⟩
   rw[HP.out]
   obtain⟨ad,rfl,hb,c0,c1,c2⟩:=(HF.out.q ((((Q.refl _).alloc _).alloc _).trans q1)).load hkn' hk
   obtain⟨hc,hz⟩:=bcell q1.below
   go_wp2
   exact bodyPost_ret (v:=.tuple #[(l[k]).val,.bool true]) (by simp[results,Tryz.results58,go_sem,hc]) rfl ⟨rfl,((((Q.refl _).alloc _).alloc _).trans q1).set3 (by simp) _ _ _⟩
theorem read_any (nm:ByteArray)(A:Option Addr)(n c:Nat)(room fuse:Int)(off:Bool)(l:List Fil)(w:World)(hf:Files w A n l)(hn:n≤maxLen)(hs:∀ f∈l,f.sf.size+f.wt.size≤maxLen) :
  Calls Tryz.prog 115 #[dkv A n c room fuse off,.string nm] w fun e w'=>e=.returned (.tuple #[.string (redd nm l).1,.int .i64 (redd nm l).2])∧Q w w':=by
 have HF:=hid hf
 have HN:=hid hn
 unfold maxLen at hn
 clear hf
 rcases plc_cases nm l with ⟨hp,hall⟩ | ⟨k,hk,hp,hkn,hfirst⟩
 · have HH:=hid (hit_none hall)
   rw[redd_none hall]
   clear hp hall hs
   go_enter Tryz.func115,Tryz.ntmps115
   go_wp2_with fail
   refine(find_any nm A n c room fuse off l _ (HF.out.q ((Q.refl _).alloc _)) HN.out).mono ?_
   rintro e w1 ⟨rfl,q1⟩
   rw[HH.out]
   go_wp2
   go_ret2
   exact⟨rfl,(((Q.refl _).alloc _).trans q1).alloc _⟩
 · have HH:=hid (hit_at hk hkn hfirst)
   have hs1:=hs l[k] (List.getElem_mem hk)
   unfold maxLen at hs1
   rw[redd_at hk hkn hfirst]
   clear hp hkn hfirst hs
   go_enter Tryz.func115,Tryz.ntmps115
   go_wp2_with fail
   refine(find_any nm A n c room fuse off l _ (HF.out.q ((Q.refl _).alloc _)) HN.out).mono ?_
   rintro e w1 ⟨rfl,q1⟩
   rw[HH.out]
   go_wp2
   go_ret2
   exact⟨rfl,(((Q.refl _).alloc _).trans q1).alloc _⟩
theorem ref_read (nm:ByteArray)(A:Option Addr)(n c:Nat)(room fuse:Int)(off:Bool)(l:List Fil)(w:World)(hf:Files w A n l)(hn:n≤maxLen)(hs:∀ f∈l,f.sf.size+f.wt.size≤maxLen) :
  Calls Tryz.prog 31 #[dkv A n c room fuse off,.string nm] w fun e w'=>e=.returned (.tuple #[.string (redd nm l).1,.int .i64 (redd nm l).2])∧Q w w':=by
 have HF:=hid hf
 have HN:=hid hn
 unfold maxLen at hn
 clear hf
 rcases plc_cases nm l with ⟨hp,hall⟩ | ⟨k,hk,hp,hkn,hfirst⟩
 · have HH:=hid (hit_none hall)
   rw[redd_none hall]
   clear hp hall hs
   go_enter Tryz.func31,Tryz.ntmps31
   go_wp2_with fail
   refine(ref_find nm A n c room fuse off l _ (HF.out.q ((Q.refl _).alloc _)) HN.out).mono ?_
   rintro e w1 ⟨rfl,q1⟩
   rw[HH.out]
   go_wp2
   go_ret2
   exact⟨rfl,(((Q.refl _).alloc _).trans q1).alloc _⟩
 · have HH:=hid (hit_at hk hkn hfirst)
   have hs1:=hs l[k] (List.getElem_mem hk)
   unfold maxLen at hs1
   rw[redd_at hk hkn hfirst]
   clear hp hkn hfirst hs
   go_enter Tryz.func31,Tryz.ntmps31
   go_wp2_with fail
   refine(ref_find nm A n c room fuse off l _ (HF.out.q ((Q.refl _).alloc _)) HN.out).mono ?_
   rintro e w1 ⟨rfl,q1⟩
   rw[HH.out]
   go_wp2
   go_ret2
   exact⟨rfl,(((Q.refl _).alloc _).trans q1).alloc _⟩
end
section
open Go.RowKit Dkm
def Own (w:World)(base:Nat)(A:Option Addr)(n c:Nat)(l:List Fil):Prop:=w.ownsRow base 119 3 (.slice A n c) n (rows l)
structure Dsk (w:World) (A:Option Addr) (n c:Nat) (l:List Fil):Prop where
 files:Files w A n l
 nil:A=none→n=0∧c=0
 le:n≤c
 cap:c≤maxLen
 few:n*48≤140737488355328
theorem Dsk.len {w:World}{A:Option Addr}{n c:Nat}{l:List Fil}(h:Dsk w A n c l):l.length=n:=h.files.len
theorem Dsk.q {w w':World}{A:Option Addr}{n c:Nat}{l:List Fil}(h:Dsk w A n c l)(hq:Q w w'):Dsk w' A n c l:=⟨h.files.q hq,h.nil,h.le,h.cap,h.few⟩
theorem Dsk.max {w:World}{A:Option Addr}{n c:Nat}{l:List Fil}(h:Dsk w A n c l):n≤maxLen:=Nat.le_trans h.le h.cap
theorem Own.parts {w:World}{base:Nat}{A:Option Addr}{n c:Nat}{l:List Fil}(h:Own w base A n c l) :
  (A=none∧n=0∧c=0∧l=[])∨∃ g cur,A=some ⟨g,0,none⟩∧base≤g∧w.heap[g]? = some (.cells cur 119 (0,0))∧n≤c∧c≤maxLen∧cur.size=c*3∧cur.toList.take (n*3)=rows l:=by
 rcases h.2 with ⟨e,h0⟩ | ⟨g,cap,cur,e,hb,hh,hc,hm,hs,ht⟩
 · injection e with e1 e2 e3
   refine .inl ⟨e1,e2,e3,?_⟩
   have:=h.1;rw[rows_length] at this
   exact List.eq_nil_of_length_eq_zero (by omega)
 · injection e with e1 e2 e3
   subst e1 e3
   exact .inr ⟨g,cur,rfl,hb,hh,hc,hm,hs,ht⟩
theorem Own.len {w:World}{base:Nat}{A:Option Addr}{n c:Nat}{l:List Fil}(h:Own w base A n c l):l.length=n:=by
 have:=h.1;rw[rows_length] at this;omega
theorem Own.files {w:World}{base:Nat}{A:Option Addr}{n c:Nat}{l:List Fil}(h:Own w base A n c l):Files w A n l:=by
 refine⟨h.1,fun j u hu=>?_⟩
 rcases h.parts with ⟨rfl,rfl,rfl,rfl⟩ | ⟨g,cur,rfl,hb,hh,hc,hm,hs,ht⟩
 · simp[rows] at hu
 · have hj:j<n*3:=by
     have:=(List.getElem?_eq_some_iff.1 hu).1;rw[h.1] at this;exact this
   refine⟨_,rfl,?_,?_⟩
   · rcases Nat.lt_or_ge g w.heap.size with hlt | hge
     · exact hlt
     · rw[Array.getElem?_eq_none hge] at hh;cases hh
   · rw[Addr.add_mid,Nat.zero_add,World.ownsRow.cellAt h j hj];exact hu
theorem Own.dsk {w:World}{base:Nat}{A:Option Addr}{n c:Nat}{l:List Fil}(h:Own w base A n c l)(hn:n*48≤140737488355328):Dsk w A n c l:=by
 refine⟨h.files,?_,?_,?_,hn⟩<;>rcases h.parts with ⟨rfl,rfl,rfl,rfl⟩ | ⟨g,cur,rfl,hb,hh,hc,hm,hs,ht⟩
 · intro _;exact⟨rfl,rfl⟩
 · intro e;cases e
 · exact Nat.le_refl _
 · exact hc
 · exact Nat.zero_le _
 · exact hm
theorem Own.keep {w w':World}{base B:Nat}{A:Option Addr}{n c:Nat}{l:List Fil}(h:Own w base A n c l)(hb:Below B w w')(hB:w.heap.size≤B):Own w' base A n c l:=by
 refine⟨h.1,?_⟩
 rcases h.2 with ⟨e,h0⟩ | ⟨g,cap,cur,e,hg,hh,r⟩
 · exact .inl ⟨e,h0⟩
 · have hlt:g<w.heap.size:=by
     rcases Nat.lt_or_ge g w.heap.size with hlt | hge
     · exact hlt
     · rw[Array.getElem?_eq_none hge] at hh;cases hh
   exact .inr ⟨g,cap,cur,e,hg,(hb.block g (by omega)).trans hh,r⟩
theorem Own.q {w w':World}{base:Nat}{A:Option Addr}{n c:Nat}{l:List Fil}(h:Own w base A n c l)(hq:Q w w'):Own w' base A n c l:=h.keep hq.below (Nat.le_refl _)
theorem Own.setCell {w:World}{base:Nat}{A:Option Addr}{n c:Nat}{l:List Fil}(h:Own w base A n c l){p:Addr}(hp:p.block<base)(u:Value):Own (w.setCell p u) base A n c l:=by
 refine⟨h.1,?_⟩
 rcases h.2 with ⟨e,h0⟩ | ⟨g,cap,cur,e,hg,hh,r⟩
 · exact .inl ⟨e,h0⟩
 · exact .inr ⟨g,cap,cur,e,hg,(heap_setCell_other w p g u (by omega)).trans hh,r⟩
theorem Own.alloc {w:World}{base:Nat}{A:Option Addr}{n c:Nat}{l:List Fil}(h:Own w base A n c l)(o:Obj):Own (w.alloc o) base A n c l:=h.q ((Q.refl _).alloc o)
theorem Own.lower {w:World}{base b2:Nat}{A:Option Addr}{n c:Nat}{l:List Fil}(h:Own w base A n c l)(hb:b2≤base):Own w b2 A n c l:=by
 refine⟨h.1,?_⟩
 rcases h.2 with ⟨e,h0⟩ | ⟨g,cap,cur,e,hg,hh,r⟩
 · exact .inl ⟨e,h0⟩
 · exact .inr ⟨g,cap,cur,e,by omega,hh,r⟩
theorem file_info:(Tryz.prog.info? 119).map (fun i=>(i.zero,i.size,i.bytes))=some (some (.agg #[.string ⟨#[]⟩,.string ⟨#[]⟩,.string ⟨#[]⟩]),3,48):=by kernel_rfl
theorem run_app (w:World)(base:Nat)(A:Option Addr)(n c:Nat)(l:List Fil)(h:Own w base A n c l)(A2:Option Addr)(m c2:Nat)(l2:List Fil)(h2:Files w A2 m l2)(hnil:A2=none→m=0∧c2=0)
  (hb:(n+m)*48≤140737488355328) (hbase:base≤w.heap.size) (ty:TypeId) :
  ∃ A' c' w',(Builtin.append_ #[22, 22] ty #[.slice A n c,.slice A2 m c2]).run Tryz.prog w=.ok (.slice A' (n+m) c') w'∧Own w' base A' (n+m) c' (l++l2)∧Below base w w':=by
 obtain⟨i,hi,hz,hs,hy⟩:=info_parts file_info
 have hmax:n+m≤maxLen:=by unfold maxLen;omega
 cases A2 with
 | none =>
   obtain⟨rfl,rfl⟩:=hnil rfl
   have e2:l2=[]:=List.eq_nil_of_length_eq_zero h2.len
   subst e2
   refine⟨A,c,w,run_append_owned_none (P:=Tryz.prog) (w:=w) base _ ty 119 i 3 Tryz.underlying22 hi _ n (rows l) h,by simpa using h,Below.refl _ _⟩
 | some ad =>
   obtain⟨v',w',hr,ho,hg,hn,hat⟩:=run_append_own_at (P:=Tryz.prog) w base 22 ty 119 i _ 3 48 Tryz.underlying22 hi hz hs hy rfl (by omega) (.slice A n c) n (rows l) h ad m c2 (rows l2) h2.1
     (fun j u hu=>by obtain⟨a',e,_,hc⟩:=h2.2 j u hu;injection e with e;subst e;exact hc) (rows_one l2) hmax hb hbase
   rw[←rows_append] at ho
   have hbl:Below base w w':=(Below.refl _ _).grown hg hbase (fun k hk=>by
    rcases h.parts with ⟨rfl,_⟩ | ⟨g,cur,rfl,hb,_⟩
    · cases hk
    · simp only[Value.ownBlock,Option.some.injEq] at hk;omega)
   rcases ho.2 with ⟨e,h0⟩ | ⟨g,cap,cur,e,_⟩
   · have h00:Value.slice none 0 0=.slice none (n+m) 0:=by rw[h0]
     rw[h00] at e
     subst e
     exact⟨none,0,w',hr,ho,hbl⟩
   · subst e
     exact⟨_,cap,w',hr,ho,hbl⟩
theorem wpl_app {w:World}{ops:Array Oper}{rest:List Oper}{o:Oper}{a:Act}{R:Exit→Act→World→Prop}(hgd:o.guard=none)(s x:Operand)
  (ho:o.op=.call { callee:=.builtin .append,args:=#[s,x],argTypes:=#[22, 22] })
  (base:Nat) (A:Option Addr) (n c:Nat) (l:List Fil) (hs:a.eval s=.slice A n c) (h:Own w base A n c l) (A2:Option Addr) (m c2:Nat) (l2:List Fil) (hx:a.eval x=.slice A2 m c2) (h2:Files w A2 m l2) (hnil:A2=none→m=0∧c2=0)
  (hb:(n+m)*48≤140737488355328) (hbase:base≤w.heap.size)
  (hk:∀ A' c' w',Own w' base A' (n+m) c' (l++l2)→Below base w w'→wpList Tryz.prog ops R rest (a.put o.dst (.slice A' (n+m) c')) w'):wpList Tryz.prog ops R (o :: rest) a w:=by
 refine wpList_plain hgd fun K hK=>?_
 obtain⟨A',c',w',hr,h3,h4⟩:=run_app w base A n c l h A2 m c2 l2 h2 hnil hb hbase o.type
 unfold Oper.wp execOp
 simp only[ho,resolve,invoke,builtin,Sem.run_bind,Sem.run_pure,Result.andThen_ok,List.map_toArray,List.map_cons,List.map_nil,hs,hx,hr]
 exact hK _ _ (hk A' c' w' h3 h4)
def RetOwn (w:World)(n:Nat)(l:List Fil)(e:Ending)(w':World):Prop:=
 ∃ A' c',e=.returned (.slice A' n c')∧Own w' w.heap.size A' n c' l∧Q w w'
theorem own_lit0 (w:World)(base:Nat)(hb:base≤w.heap.size):Own (w.alloc (.cells #[] 119)) base (some ⟨w.heap.size,0,none⟩) 0 0 []:=
 World.ownsRow_lit w #[] 0 hb (Nat.zero_le _) rfl
theorem eql_nil (W:World)(A:Option Addr)(n c:Nat):(binOp .eql 22 (.slice A n c) (.slice none 0 0)).run Tryz.prog W=.ok (.bool A.isNone) W:=by
 have h:∀ d,(Op.equalIn (d+1) 22 (.slice A n c) (.slice none 0 0)).run Tryz.prog W=.ok A.isNone W:=by
  intro d
  cases A<;>simp[Op.equalIn,run_underlying Tryz.underlying22]
 have h2:(Op.equal 22 (.slice A n c) (.slice none 0 0)).run Tryz.prog W=.ok A.isNone W:=h 9999
 simp[binOp,h2]
theorem clone (A:Option Addr)(n c:Nat)(l:List Fil)(w:World)(hd:Dsk w A n c l) :
  Calls Tryz.prog 94 #[.slice A n c] w fun e w'=>RetOwn w n l e w':=by
 have HD:=hid hd
 clear hd
 cases A with
 | none =>
   obtain⟨h1,h2⟩:=HD.out.nil rfl
   subst h1 h2
   have hl:l=[]:=List.eq_nil_of_length_eq_zero HD.out.len
   subst hl
   have hnil:=fun W:World=>eql_nil W none 0 0
   go_enter Tryz.func94,Tryz.ntmps94
   go_wp2
   go_ret
   exact⟨none,0,rfl,⟨rfl,.inl ⟨rfl,rfl⟩⟩,Q.refl _⟩
 | some ad =>
   have hnil:=fun W:World=>eql_nil W (some ad) n c
   go_enter Tryz.func94,Tryz.ntmps94
   go_wp2_with (at_builtin
                refine wpl_app rfl (.tmp 5) (.tmp 6) rfl w.heap.size (some ⟨w.heap.size,0,none⟩) 0 0 [] rfl (own_lit0 w _ (Nat.le_refl _)) (some ad) n c l rfl (HD.out.files.q ((Q.refl _).alloc _)) (fun e=>by cases e) (by have:=HD.out.few;omega) (by simp) ?_
                intro A1 c1 w1 ho1 hb1)
   go_ret
   refine⟨A1,c1,by simp,by simpa using ho1,((Q.refl _).alloc _).below.trans hb1⟩
def RetOwnD (w:World)(n:Nat)(room fuse:Int)(off:Bool)(l:List Fil)(e:Ending)(w':World):Prop:=
 ∃ A' c',e=.returned (dkv A' n c' room fuse off)∧Own w' w.heap.size A' n c' l∧Q w w'
theorem own_any (A:Option Addr)(n c:Nat)(room fuse:Int)(off:Bool)(l:List Fil)(w:World)(hd:Dsk w A n c l) :
  Calls Tryz.prog 108 #[dkv A n c room fuse off] w fun e w'=>RetOwnD w n room fuse off l e w':=by
 have HD:=hid hd
 clear hd
 go_enter Tryz.func108,Tryz.ntmps108
 go_wp2_with fail
 refine(clone A n c l _ (HD.out.q (((Q.refl _).alloc _).alloc _))).mono ?_
 rintro e w1 ⟨A1,c1,rfl,ho,q1⟩
 have HO:=hid ho
 clear ho
 obtain⟨e0,e1,e2,e3⟩:=box4 q1 (b:=w.heap.size) (x:=.slice A n c) (y:=.int .i64 room) (z:=.int .i64 fuse) (u:=.bool off) (by simp) (by simp) (by simp) (by simp)
 obtain⟨r0,r1,r2,r3⟩:=box4 q1 (b:=w.heap.size+1) (x:=.slice none 0 0) (y:=.int .i64 0) (z:=.int .i64 0) (u:=.bool false) (by simp) (by simp) (by simp) (by simp)
 obtain⟨hc,hz⟩:=bcell q1.below
 clear hc
 go_wp2
 refine bodyPost_ret (v:=dkv A1 n c1 room fuse off) (by simp[results,Tryz.results108,go_sem,r0,r1,r2,r3]) rfl ⟨A1,c1,rfl,?_,?_⟩
 · exact(((((HO.out.setCell (p:=⟨_,_,none⟩) (by simp<;>omega) _).setCell (p:=⟨_,_,none⟩) (by simp<;>omega) _).setCell (p:=⟨_,_,none⟩) (by simp<;>omega) _).setCell (p:=⟨_,_,none⟩) (by simp<;>omega) _).setCell (p:=⟨_,_,none⟩) (by simp<;>omega) _).lower (by simp<;>omega)
 · exact((((Q.refl _).alloc _).alloc _).trans q1).setCell (by simp) _ |>.set4 (by simp) _ _ _ _
theorem rows_set (l:List Fil)(k:Nat)(h:k<l.length)(f:Fil):(((rows l).set (k*3) (.string f.nm)).set (k*3+1) (.string f.sf)).set (k*3+2) (.string f.wt)=rows (l.set k f):=by
 induction l generalizing k with
 | nil=>simp at h
 | cons g l ih =>
   cases k with
   | zero=>simp[rows,Fil.row]
   | succ k =>
     have e:=ih k (by simpa using h)
     have e0:(k+1)*3=k*3+3:=by omega
     simp only[rows,List.set_cons_succ,Fil.row,e0,List.cons_append,List.nil_append,←e]
theorem Own.set3 {w:World}{base g n c:Nat}{l:List Fil}(h:Own w base (some ⟨g,0,none⟩) n c l){k:Nat}(hk:k<n)(f:Fil) :
  Own (((w.setCell ⟨g,k*3,none⟩ (.string f.nm)).setCell ⟨g,k*3+1,none⟩ (.string f.sf)).setCell ⟨g,k*3+2,none⟩ (.string f.wt)) base (some ⟨g,0,none⟩) n c (l.set k f) ∧
  Below base w (((w.setCell ⟨g,k*3,none⟩ (.string f.nm)).setCell ⟨g,k*3+1,none⟩ (.string f.sf)).setCell ⟨g,k*3+2,none⟩ (.string f.wt)):=by
 have h1:=World.ownsRow.stored h (k*3) (.string f.nm)
 have h2:=World.ownsRow.stored h1.1 (k*3+1) (.string f.sf)
 have h3:=World.ownsRow.stored h2.1 (k*3+2) (.string f.wt)
 have hl:k<l.length:=by have:=h.len;omega
 have hg:base≤g:=by
  rcases h.parts with ⟨e,_⟩ | ⟨g',cur,e,hb,_⟩
  · cases e
  · injection e with e;injection e with e;omega
 refine⟨?_,(((Below.refl _ _).setCell (p:=⟨g,_,none⟩) hg _).setCell (p:=⟨g,_,none⟩) hg _).setCell (p:=⟨g,_,none⟩) hg _⟩
 have:=h3.1
 rw[rows_set l k hl f] at this
 exact this
theorem set_mid (base:Nat)(A:Option Addr)(n c:Nat)(k:Nat)(f:Fil)(l:List Fil)(w:World)(h:Own w base A n c l)(hk:k<n) :
  Calls Tryz.prog 109 #[.slice A n c,.int .i64 k,f.val] w fun e w'=>e=.returned (.slice A n c)∧Own w' base A n c (l.set k f)∧Below base w w':=by
 rcases h.parts with ⟨rfl,rfl,_⟩ | ⟨g,cur,rfl,hb,hh,hc,hm,hs,ht⟩
 · omega
 have hgw:g<w.heap.size:=by
  rcases Nat.lt_or_ge g w.heap.size with hlt | hge
  · exact hlt
  · rw[Array.getElem?_eq_none hge] at hh;cases hh
 have hkl:k<l.length:=by have:=h.len;omega
 have c0:w.cell? ⟨g,k*3,none⟩=some (.string l[k].nm):=by rw[World.ownsRow.cellAt h _ (by omega)];exact rows_at l k hkl 0 (by omega)
 have c1:w.cell? ⟨g,k*3+1,none⟩=some (.string l[k].sf):=by rw[World.ownsRow.cellAt h _ (by omega)];exact rows_at l k hkl 1 (by omega)
 have c2:w.cell? ⟨g,k*3+2,none⟩=some (.string l[k].wt):=by rw[World.ownsRow.cellAt h _ (by omega)];exact rows_at l k hkl 2 (by omega)
 have f0:w.frozen? ⟨g,k*3,none⟩=false:=World.ownsRow.frozenAt h _
 have f1:w.frozen? ⟨g,k*3+1,none⟩=false:=World.ownsRow.frozenAt h _
 have f2:w.frozen? ⟨g,k*3+2,none⟩=false:=World.ownsRow.frozenAt h _
 unfold maxLen at hm
 have HO:=hid h
 have hkn:((k:Int) == (n:Int))=false:=by simp;omega
 have hkn2:(k == n)=false:=by simp;omega
 clear h hh hs ht
 obtain⟨a,b,d⟩:=f
 go_enter Tryz.func109,Tryz.ntmps109
 go_wp2
 go_ret
 exact⟨rfl,(HO.out.set3 hk ⟨a,b,d⟩).1.alloc _,(HO.out.set3 hk ⟨a,b,d⟩).2.alloc (by simp<;>omega) _⟩
theorem files_lit1 (w:World)(f:Fil):Files (w.alloc (.cells #[.string f.nm,.string f.sf,.string f.wt] 119)) (some ⟨w.heap.size,0,none⟩) 1 [f]:=
 Own.files (base:=0) (c:=1) (World.ownsRow_lit w #[.string f.nm,.string f.sf,.string f.wt] 1 (Nat.zero_le _) (by unfold maxLen;omega) rfl)
def RetOwnB (w:World)(base n:Nat)(l:List Fil)(e:Ending)(w':World):Prop:=
 ∃ A' c',e=.returned (.slice A' n c')∧Own w' base A' n c' l∧Below base w w'
theorem set_end (base:Nat)(A:Option Addr)(n c:Nat)(f:Fil)(l:List Fil)(w:World)(h:Own w base A n c l)(hn:(n+1)*48≤140737488355328)(hbase:base≤w.heap.size) :
  Calls Tryz.prog 109 #[.slice A n c,.int .i64 n,f.val] w fun e w'=>RetOwnB w base (n+1) (l++[f]) e w':=by
 have HO:=hid h
 clear h
 obtain⟨a,b,d⟩:=f
 go_enter Tryz.func109,Tryz.ntmps109
 go_wp2_with (at_builtin
              refine wpl_app rfl (.tmp 11) (.tmp 13) rfl base A n c l rfl ((HO.out.alloc _).alloc _) (some ⟨w.heap.size+1,0,none⟩) 1 1 [⟨a,b,d⟩] rfl (by have:=files_lit1 (w.alloc (.cells #[.string a,.string b,.string d] 119)) ⟨a,b,d⟩;simpa using this) (fun e=>by cases e) hn (by simp<;>omega) ?_
              intro A1 c1 w1 ho1 hb1)
 go_ret
 exact⟨A1,c1,rfl,ho1,(((Below.refl _ _).alloc hbase _).alloc (by simp<;>omega) _).trans hb1⟩
end
section
open Go.RowKit
def Bx (w:World)(b:Nat)(vs:List Value):Prop:=∀ j v,vs[j]? = some v→w.cell? ⟨b,j,none⟩=some v∧w.frozen? ⟨b,j,none⟩=false
theorem Bx.new (w:World)(cs:List Value)(t:TypeId):Bx (w.alloc (.cells cs.toArray t)) w.heap.size cs:=fun j v h=>by
 have e:=heap_alloc_new w (.cells cs.toArray t)
 exact⟨(cell_of_row _ _ j _ t (0,0) e).trans (by simpa using h),frozen_of_row _ _ j _ t e⟩
theorem Bx.lt {w:World}{b:Nat}{v:Value}{vs:List Value}(h:Bx w b (v :: vs)):b<w.heap.size:=block_lt_of_cell (h 0 v rfl).1
theorem Bx.below {w w':World}{b B:Nat}{vs:List Value}(h:Bx w b vs)(hb:Below B w w')(hB:b<B):Bx w' b vs:=fun j v hj =>
 ⟨(hb.cell (p:=⟨b,j,none⟩) hB).trans (h j v hj).1,(hb.frozen (p:=⟨b,j,none⟩) hB).trans (h j v hj).2⟩
theorem Bx.q {w w':World}{b:Nat}{vs:List Value}(h:Bx w b vs)(hq:Q w w'):Bx w' b vs:=fun j v hj=>by
 have hb:b<w.heap.size:=block_lt_of_cell (h j v hj).1
 exact⟨(hq.below.cell (p:=⟨b,j,none⟩) hb).trans (h j v hj).1,(hq.below.frozen (p:=⟨b,j,none⟩) hb).trans (h j v hj).2⟩
theorem Bx.alloc {w:World}{b:Nat}{vs:List Value}(h:Bx w b vs)(o:Obj):Bx (w.alloc o) b vs:=h.q ((Q.refl _).alloc o)
theorem Bx.drew {w:World}{b:Nat}{vs:List Value}(h:Bx w b vs):Bx w.drew b vs:=h
theorem Bx.far {w:World}{b:Nat}{vs:List Value}(h:Bx w b vs){p:Addr}(hp:p.block≠b)(u:Value):Bx (w.setCell p u) b vs:=fun j v hj =>
 ⟨(World.cell?_setCell_other _ _ _ _ (by rintro rfl;exact hp rfl)).trans (h j v hj).1,by rw[World.frozen?_setCell];exact(h j v hj).2⟩
theorem Bx.set {w:World}{b:Nat}{vs:List Value}(h:Bx w b vs){k:Nat}(hk:k<vs.length)(u:Value):Bx (w.setCell ⟨b,k,none⟩ u) b (vs.set k u):=fun j v hj=>by
 rw[World.frozen?_setCell]
 by_cases e:k=j
 · subst e
   rw[World.cell?_setCell_same _ _ _ (h k _ (List.getElem?_eq_getElem hk)).1]
   simp only[List.getElem?_set_self hk] at hj
   exact⟨hj,(h k _ (List.getElem?_eq_getElem hk)).2⟩
 · rw[World.cell?_setCell_other _ _ _ _ (by intro he;injection he with _ he;exact e he)]
   rw[List.getElem?_set_ne e] at hj
   exact h j v hj
theorem Bx.put4 {w:World}{b:Nat}{x y z u:Value}(h:Bx w b [x,y,z,u])(x' y' z' u':Value):Bx ((((w.setCell ⟨b,0,none⟩ x').setCell ⟨b,1,none⟩ y').setCell ⟨b,2,none⟩ z').setCell ⟨b,3,none⟩ u') b [x',y',z',u']:=
 (((h.set (k:=0) (by simp) x').set (k:=1) (by simp) y').set (k:=2) (by simp) z').set (k:=3) (by simp) u'
theorem Bx.far4 {w:World}{b c:Nat}{vs:List Value}(h:Bx w b vs)(hc:c≠b)(x' y' z' u':Value):Bx ((((w.setCell ⟨c,0,none⟩ x').setCell ⟨c,1,none⟩ y').setCell ⟨c,2,none⟩ z').setCell ⟨c,3,none⟩ u') b vs:=
 (((h.far (p:=⟨c,0,none⟩) hc x').far (p:=⟨c,1,none⟩) hc y').far (p:=⟨c,2,none⟩) hc z').far (p:=⟨c,3,none⟩) hc u'
theorem Bx.get3 {w:World}{b:Nat}{x y z:Value}(h:Bx w b [x,y,z]):(w.cell? ⟨b,0,none⟩=some x∧w.cell? ⟨b,1,none⟩=some y∧w.cell? ⟨b,2,none⟩=some z)∧w.frozen? ⟨b,0,none⟩=false∧w.frozen? ⟨b,1,none⟩=false∧w.frozen? ⟨b,2,none⟩=false:=
 ⟨⟨(h 0 _ rfl).1,(h 1 _ rfl).1,(h 2 _ rfl).1⟩,(h 0 _ rfl).2,(h 1 _ rfl).2,(h 2 _ rfl).2⟩
theorem Bx.get4 {w:World}{b:Nat}{x y z u:Value}(h:Bx w b [x,y,z,u]):(w.cell? ⟨b,0,none⟩=some x∧w.cell? ⟨b,1,none⟩=some y∧w.cell? ⟨b,2,none⟩=some z∧w.cell? ⟨b,3,none⟩=some u) ∧
  w.frozen? ⟨b,0,none⟩=false∧w.frozen? ⟨b,1,none⟩=false∧w.frozen? ⟨b,2,none⟩=false∧w.frozen? ⟨b,3,none⟩=false:=
 ⟨⟨(h 0 _ rfl).1,(h 1 _ rfl).1,(h 2 _ rfl).1,(h 3 _ rfl).1⟩,(h 0 _ rfl).2,(h 1 _ rfl).2,(h 2 _ rfl).2,(h 3 _ rfl).2⟩
end
section
open Go.RowKit Dkm
theorem Own.set4 {w:World}{base:Nat}{A:Option Addr}{n c:Nat}{l:List Fil}(h:Own w base A n c l){b:Nat}(hp:b<base)(x y z u:Value):Own ((((w.setCell ⟨b,0,none⟩ x).setCell ⟨b,1,none⟩ y).setCell ⟨b,2,none⟩ z).setCell ⟨b,3,none⟩ u) base A n c l:=
 (((h.setCell (p:=⟨b,0,none⟩) hp x).setCell (p:=⟨b,1,none⟩) hp y).setCell (p:=⟨b,2,none⟩) hp z).setCell (p:=⟨b,3,none⟩) hp u
theorem two_new (w:World)(x y z u x' y' z' u':Value)(t:TypeId) :
  Bx ((w.alloc (.cells #[x,y,z,u] t)).alloc (.cells #[x',y',z',u'] t)) w.heap.size [x,y,z,u]∧Bx ((w.alloc (.cells #[x,y,z,u] t)).alloc (.cells #[x',y',z',u'] t)) (w.heap.size+1) [x',y',z',u']:=by
 refine⟨(Bx.new w [x,y,z,u] t).alloc _,?_⟩
 have:=Bx.new (w.alloc (.cells #[x,y,z,u] t)) [x',y',z',u'] t
 simpa using this
theorem size_two (w:World)(o o':Obj):((w.alloc o).alloc o').heap.size=w.heap.size+2:=by simp
end
section
open Go.RowKit Dkm
def RetDE (w:World)(d:Dk)(er:Int)(e:Ending)(w':World):Prop:=
 ∃ A' n' c',e=.returned (.tuple #[dkv A' n' c' d.room d.fuse d.off,.int .i64 er])∧Own w' w.heap.size A' n' c' d.fs∧Q w w'
theorem open_any (nm:ByteArray)(A:Option Addr)(n c:Nat)(room fuse:Int)(off:Bool)(l:List Fil)(w:World)(hf:Files w A n l)(hn:n≤maxLen) :
  Calls Tryz.prog 176 #[dkv A n c room fuse off,.string nm] w fun e w'=>e=.returned (.tuple #[(opn nm l).1.val,.int .i64 (opn nm l).2])∧Q w w':=by
 have HF:=hid hf
 have HN:=hid hn
 have HL:=hid hf.len
 unfold maxLen at hn
 clear hf
 rcases plc_cases nm l with ⟨hp,hall⟩ | ⟨k,hk,hp,hkn,hfirst⟩
 · rw[opn_none hall,HL.out]
   have HP:=hid hp
   clear hp hall
   go_enter Tryz.func176,Tryz.ntmps176
   go_wp2_with fail
   refine(place nm A n c room fuse off l _ (HF.out.q (((Q.refl _).alloc _).alloc _)) HN.out).mono ?_
   rintro e w1 ⟨rfl,q1⟩
   rw[HP.out]
   obtain⟨e0,e1,e2,e3⟩:=box4 q1 (b:=w.heap.size) (x:=.slice A n c) (y:=.int .i64 room) (z:=.int .i64 fuse) (u:=.bool off) (by simp) (by simp) (by simp) (by simp)
   obtain⟨r0,r1,r2⟩:=box3 q1 (b:=w.heap.size+1) (x:=.string ⟨#[]⟩) (y:=.string ⟨#[]⟩) (z:=.string ⟨#[]⟩) (by simp) (by simp) (by simp)
   obtain⟨hc,hz⟩:=bcell q1.below
   clear hc
   go_wp2
   go_region
   all_goals (try go_wp2)
   all_goals exact bodyPost_ret (v:=.tuple #[Fil.val ⟨nm,⟨#[]⟩,⟨#[]⟩⟩,.int .i64 n]) (by simp[results,Tryz.results176,go_sem,r0,r1,r2]) rfl ⟨rfl,((((Q.refl _).alloc _).alloc _).trans q1).drew.set3 (by simp) _ _ _⟩
 · rw[opn_at hk hkn hfirst]
   have hkn':k<n:=by have:=HL.out;omega
   have HP:=hid hp
   clear hp hkn hfirst
   go_enter Tryz.func176,Tryz.ntmps176
   go_wp2_with fail
   refine(place nm A n c room fuse off l _ (HF.out.q (((Q.refl _).alloc _).alloc _)) HN.out).mono ?_
   rintro e w1 ⟨rfl,q1⟩
   rw[HP.out]
   obtain⟨ad,rfl,hb,c0,c1,c2⟩:=(HF.out.q ((((Q.refl _).alloc _).alloc _).trans q1)).load hkn' hk
   obtain⟨e0,e1,e2,e3⟩:=box4 q1 (b:=w.heap.size) (x:=.slice (some ad) n c) (y:=.int .i64 room) (z:=.int .i64 fuse) (u:=.bool off) (by simp) (by simp) (by simp) (by simp)
   obtain⟨r0,r1,r2⟩:=box3 q1 (b:=w.heap.size+1) (x:=.string ⟨#[]⟩) (y:=.string ⟨#[]⟩) (z:=.string ⟨#[]⟩) (by simp) (by simp) (by simp)
   obtain⟨hc,hz⟩:=bcell q1.below
   clear hc
   go_wp2
   exact bodyPost_ret (v:=.tuple #[(l[k]).val,.int .i64 k]) (by simp[results,Tryz.results176,go_sem,r0,r1,r2]) rfl ⟨rfl,((((Q.refl _).alloc _).alloc _).trans q1).set3 (by simp) _ _ _⟩
theorem change_none (A:Option Addr)(n c:Nat)(room fuse at_:Int)(w:World)(h1:at_<0) :
  Calls Tryz.prog 183 #[dkv A n c room fuse false,.int .i64 at_] w fun e w'=>e=.returned (.tuple #[dkv A n c room (fuse) false,.int .i64 7])∧Q w w':=by
 go_enter Tryz.func183,Tryz.ntmps183
 go_wp2
 exact bodyPost_ret (v:=.tuple #[dkv A n c room (fuse) false,.int .i64 7]) (by simp[results,Tryz.results183,go_sem]) rfl ⟨rfl,((Q.refl _).alloc _).alloc _⟩
theorem change_zero (A:Option Addr)(n c:Nat)(room fuse at_:Int)(w:World)(h1:0≤at_)(h2:fuse=0) :
  Calls Tryz.prog 183 #[dkv A n c room fuse false,.int .i64 at_] w fun e w'=>e=.returned (.tuple #[dkv A n c room (0) true,.int .i64 6])∧Q w w':=by
 subst h2
 go_enter Tryz.func183,Tryz.ntmps183
 go_wp2
 exact bodyPost_ret (v:=.tuple #[dkv A n c room (0) true,.int .i64 6]) (by simp[results,Tryz.results183,go_sem]) rfl ⟨rfl,((Q.refl _).alloc _).alloc _⟩
theorem change_pos (A:Option Addr)(n c:Nat)(room fuse at_:Int)(w:World)(h1:0≤at_)(h2:0<fuse)(h3:fuse≤9223372036854775807) :
  Calls Tryz.prog 183 #[dkv A n c room fuse false,.int .i64 at_] w fun e w'=>e=.returned (.tuple #[dkv A n c room (fuse - 1) false,.int .i64 0])∧Q w w':=by
 have hz:(fuse == 0)=false:=by simp;omega
 go_enter Tryz.func183,Tryz.ntmps183
 go_wp2
 exact bodyPost_ret (v:=.tuple #[dkv A n c room (fuse - 1) false,.int .i64 0]) (by simp[results,Tryz.results183,go_sem]) rfl ⟨rfl,((Q.refl _).alloc _).alloc _⟩
theorem change_neg (A:Option Addr)(n c:Nat)(room fuse at_:Int)(w:World)(h1:0≤at_)(h2:fuse<0) :
  Calls Tryz.prog 183 #[dkv A n c room fuse false,.int .i64 at_] w fun e w'=>e=.returned (.tuple #[dkv A n c room (fuse) false,.int .i64 0])∧Q w w':=by
 have hz:(fuse == 0)=false:=by simp;omega
 go_enter Tryz.func183,Tryz.ntmps183
 go_wp2
 exact bodyPost_ret (v:=.tuple #[dkv A n c room (fuse) false,.int .i64 0]) (by simp[results,Tryz.results183,go_sem]) rfl ⟨rfl,((Q.refl _).alloc _).alloc _⟩
theorem change_off1 (A:Option Addr)(n c:Nat)(room fuse at_:Int)(w:World)(h1:at_<0) :
  Calls Tryz.prog 183 #[dkv A n c room fuse true,.int .i64 at_] w fun e w'=>e=.returned (.tuple #[dkv A n c room (fuse) true,.int .i64 6])∧Q w w':=by
 go_enter Tryz.func183,Tryz.ntmps183
 go_wp2
 exact bodyPost_ret (v:=.tuple #[dkv A n c room (fuse) true,.int .i64 6]) (by simp[results,Tryz.results183,go_sem]) rfl ⟨rfl,((Q.refl _).alloc _).alloc _⟩
theorem change_off2 (A:Option Addr)(n c:Nat)(room fuse at_:Int)(w:World)(h1:0≤at_) :
  Calls Tryz.prog 183 #[dkv A n c room fuse true,.int .i64 at_] w fun e w'=>e=.returned (.tuple #[dkv A n c room (fuse) true,.int .i64 6])∧Q w w':=by
 go_enter Tryz.func183,Tryz.ntmps183
 go_wp2
 exact bodyPost_ret (v:=.tuple #[dkv A n c room (fuse) true,.int .i64 6]) (by simp[results,Tryz.results183,go_sem]) rfl ⟨rfl,((Q.refl _).alloc _).alloc _⟩
theorem change_any (A:Option Addr)(n c:Nat)(room fuse:Int)(off:Bool)(at_:Int)(w:World)(hf:fuse≤9223372036854775807) :
    Calls Tryz.prog 183 #[dkv A n c room fuse off,.int .i64 at_] w fun e w'=>e=.returned (.tuple #[dkv A n c room (chg at_ fuse off).1 (chg at_ fuse off).2.1,.int .i64 (chg at_ fuse off).2.2])∧Q w w':=by
  cases off
  · by_cases h1:at_<0
    · rw[show chg at_ fuse false=(fuse,false,7) by simp[chg,h1]]
      exact change_none A n c room fuse at_ w h1
    · rcases Int.lt_trichotomy fuse 0 with h2 | h2 | h2
      · rw[show chg at_ fuse false=(fuse,false,0) by unfold chg;rw[if_neg (by simp;omega),if_neg (by simp;omega),if_neg (by omega)]]
        exact change_neg A n c room fuse at_ w (by omega) h2
      · subst h2
        rw[show chg at_ 0 false=(0,true,6) by unfold chg;rw[if_neg (by simp;omega),if_pos (by simp)]]
        exact change_zero A n c room 0 at_ w (by omega) rfl
      · rw[show chg at_ fuse false=(fuse - 1,false,0) by unfold chg;rw[if_neg (by simp;omega),if_neg (by simp;omega),if_pos h2]]
        exact change_pos A n c room fuse at_ w (by omega) h2 hf
  · rw[show chg at_ fuse true=(fuse,true,6) by simp[chg]]
    by_cases h1:at_<0
    · exact change_off1 A n c room fuse at_ w h1
    · exact change_off2 A n c room fuse at_ w (by omega)
theorem sync_off (nm:ByteArray)(A:Option Addr)(n c:Nat)(room fuse:Int)(l:List Fil)(w:World)(hd:Dsk w A n c l)(p:Int)(hp:plc nm l 0=p) :
  Calls Tryz.prog 146 #[dkv A n c room fuse true,.string nm] w fun e w'=>RetDE w ⟨l,room,fuse,true⟩ 6 e w':=by
 have HD:=hid hd
 have HN:=hid hd.max
 have HP:=hid hp
 clear hd hp
 go_enter Tryz.func146,Tryz.ntmps146
 go_wp2_with fail
 have B0:=two_new w (.slice A n c) (.int .i64 room) (.int .i64 fuse) (.bool true) (.slice none 0 0) (.int .i64 0) (.int .i64 0) (.bool false) 24
 refine(own_any A n c room fuse true l _ (HD.out.q (((Q.refl _).alloc _).alloc _))).mono ?_
 rintro e w1 ⟨A1,c1,rfl,ho,q1⟩
 rw[size_two] at ho
 have HO:=hid (ho.set4 (b:=w.heap.size) (by omega) (.slice A1 n c1) (.int .i64 room) (.int .i64 fuse) (.bool true))
 have D1:=hid ((B0.1.q q1).put4 (.slice A1 n c1) (.int .i64 room) (.int .i64 fuse) (.bool true))
 have R1:=hid ((B0.2.q q1).far4 (c:=w.heap.size) (by omega) (.slice A1 n c1) (.int .i64 room) (.int .i64 fuse) (.bool true))
 have Q1:=hid ((((((Q.refl w).alloc _).alloc _).trans q1)).set4 (b:=w.heap.size) (Nat.le_refl _) (.slice A1 n c1) (.int .i64 room) (.int .i64 fuse) (.bool true))
 obtain⟨⟨e0,e1,e2,e3⟩,f0,f1,f2,f3⟩:=(B0.1.q q1).get4
 clear B0 q1 ho
 go_wp2_with fail
 refine(place nm A1 n c1 room fuse true l _ HO.out.files HN.out).mono ?_
 rintro e w2 ⟨rfl,q2⟩
 rw[HP.out]
 have HO2:=hid (HO.out.q q2)
 have Q2:=hid (Q1.out.trans q2)
 have z0:w.heap.size<w2.heap.size:=(D1.out.q q2).lt
 have z1:w.heap.size+1<w2.heap.size:=(R1.out.q q2).lt
 have z2:w.heap.size≠w2.heap.size:=by omega
 have z3:w.heap.size+1≠w2.heap.size:=by omega
 have D2:=hid (D1.out.q q2)
 have R2:=hid (R1.out.q q2)
 obtain⟨⟨d0,d1,d2,d3⟩,g0,g1,g2,g3⟩:=(D1.out.q q2).get4
 obtain⟨⟨s0,s1,s2,s3⟩,h0,h1,h2,h3⟩:=(R1.out.q q2).get4
 clear q2 e0 e1 e2 e3 f0 f1 f2 f3
 go_wp2
 refine bodyPost_ret (v:=.tuple #[dkv A1 n c1 room fuse true,.int .i64 6]) (by simp[results,Tryz.results146,go_sem,s0,s1,s2,s3]) rfl ⟨A1,n,c1,rfl,(HO2.out.set4 (b:=w.heap.size+1) (by omega) _ _ _ _).lower (by omega),Q2.out.set4 (b:=w.heap.size+1) (by omega) _ _ _ _⟩
theorem sync_none (nm:ByteArray)(A:Option Addr)(n c:Nat)(room fuse:Int)(l:List Fil)(w:World)(hd:Dsk w A n c l)(hp:plc nm l 0=-1) :
  Calls Tryz.prog 146 #[dkv A n c room fuse false,.string nm] w fun e w'=>RetDE w ⟨l,room,fuse,false⟩ 7 e w':=by
 have HD:=hid hd
 have HN:=hid hd.max
 have HP:=hid hp
 clear hd hp
 go_enter Tryz.func146,Tryz.ntmps146
 go_wp2_with fail
 have B0:=two_new w (.slice A n c) (.int .i64 room) (.int .i64 fuse) (.bool false) (.slice none 0 0) (.int .i64 0) (.int .i64 0) (.bool false) 24
 refine(own_any A n c room fuse false l _ (HD.out.q (((Q.refl _).alloc _).alloc _))).mono ?_
 rintro e w1 ⟨A1,c1,rfl,ho,q1⟩
 rw[size_two] at ho
 have HO:=hid (ho.set4 (b:=w.heap.size) (by omega) (.slice A1 n c1) (.int .i64 room) (.int .i64 fuse) (.bool false))
 have D1:=hid ((B0.1.q q1).put4 (.slice A1 n c1) (.int .i64 room) (.int .i64 fuse) (.bool false))
 have R1:=hid ((B0.2.q q1).far4 (c:=w.heap.size) (by omega) (.slice A1 n c1) (.int .i64 room) (.int .i64 fuse) (.bool false))
 have Q1:=hid ((((((Q.refl w).alloc _).alloc _).trans q1)).set4 (b:=w.heap.size) (Nat.le_refl _) (.slice A1 n c1) (.int .i64 room) (.int .i64 fuse) (.bool false))
 obtain⟨⟨e0,e1,e2,e3⟩,f0,f1,f2,f3⟩:=(B0.1.q q1).get4
 clear B0 q1 ho
 go_wp2_with fail
 refine(place nm A1 n c1 room fuse false l _ HO.out.files HN.out).mono ?_
 rintro e w2 ⟨rfl,q2⟩
 rw[HP.out]
 have HO2:=hid (HO.out.q q2)
 have Q2:=hid (Q1.out.trans q2)
 have z0:w.heap.size<w2.heap.size:=(D1.out.q q2).lt
 have z1:w.heap.size+1<w2.heap.size:=(R1.out.q q2).lt
 have z2:w.heap.size≠w2.heap.size:=by omega
 have z3:w.heap.size+1≠w2.heap.size:=by omega
 have D2:=hid (D1.out.q q2)
 have R2:=hid (R1.out.q q2)
 obtain⟨⟨d0,d1,d2,d3⟩,g0,g1,g2,g3⟩:=(D1.out.q q2).get4
 obtain⟨⟨s0,s1,s2,s3⟩,h0,h1,h2,h3⟩:=(R1.out.q q2).get4
 clear q2 e0 e1 e2 e3 f0 f1 f2 f3
 go_wp2
 refine bodyPost_ret (v:=.tuple #[dkv A1 n c1 room fuse false,.int .i64 7]) (by simp[results,Tryz.results146,go_sem,s0,s1,s2,s3]) rfl ⟨A1,n,c1,rfl,(HO2.out.set4 (b:=w.heap.size+1) (by omega) _ _ _ _).lower (by omega),Q2.out.set4 (b:=w.heap.size+1) (by omega) _ _ _ _⟩
theorem sync_at (nm:ByteArray)(A:Option Addr)(n c:Nat)(room fuse:Int)(l:List Fil)(w:World)(hd:Dsk w A n c l)(k:Nat)(hk:k<l.length)(hp:plc nm l 0=k)(hs:l[k].sf.size+l[k].wt.size≤maxLen) :
  Calls Tryz.prog 146 #[dkv A n c room fuse false,.string nm] w fun e w'=>RetDE w ⟨l.set k ⟨l[k].nm,l[k].sf++l[k].wt,⟨#[]⟩⟩,room,fuse,false⟩ 0 e w':=by
 unfold maxLen at hs
 have hkn:k<n:=by have:=hd.len;omega
 have hnm:=hd.max
 unfold maxLen at hnm
 have HD:=hid hd
 have HN:=hid hd.max
 have HP:=hid hp
 clear hd hp
 go_enter Tryz.func146,Tryz.ntmps146
 go_wp2_with fail
 have B0:=two_new w (.slice A n c) (.int .i64 room) (.int .i64 fuse) (.bool false) (.slice none 0 0) (.int .i64 0) (.int .i64 0) (.bool false) 24
 refine(own_any A n c room fuse false l _ (HD.out.q (((Q.refl _).alloc _).alloc _))).mono ?_
 rintro e w1 ⟨A1,c1,rfl,ho,q1⟩
 rw[size_two] at ho
 have HO:=hid (ho.set4 (b:=w.heap.size) (by omega) (.slice A1 n c1) (.int .i64 room) (.int .i64 fuse) (.bool false))
 have D1:=hid ((B0.1.q q1).put4 (.slice A1 n c1) (.int .i64 room) (.int .i64 fuse) (.bool false))
 have R1:=hid ((B0.2.q q1).far4 (c:=w.heap.size) (by omega) (.slice A1 n c1) (.int .i64 room) (.int .i64 fuse) (.bool false))
 have Q1:=hid ((((((Q.refl w).alloc _).alloc _).trans q1)).set4 (b:=w.heap.size) (Nat.le_refl _) (.slice A1 n c1) (.int .i64 room) (.int .i64 fuse) (.bool false))
 obtain⟨⟨e0,e1,e2,e3⟩,f0,f1,f2,f3⟩:=(B0.1.q q1).get4
 clear B0 q1 ho
 go_wp2_with fail
 refine(place nm A1 n c1 room fuse false l _ HO.out.files HN.out).mono ?_
 rintro e w2 ⟨rfl,q2⟩
 rw[HP.out]
 have HO2:=hid (HO.out.q q2)
 have Q2:=hid (Q1.out.trans q2)
 have z0:w.heap.size<w2.heap.size:=(D1.out.q q2).lt
 have z1:w.heap.size+1<w2.heap.size:=(R1.out.q q2).lt
 have z2:w.heap.size≠w2.heap.size:=by omega
 have z3:w.heap.size+1≠w2.heap.size:=by omega
 have D2:=hid (D1.out.q q2)
 have R2:=hid (R1.out.q q2)
 obtain⟨⟨d0,d1,d2,d3⟩,g0,g1,g2,g3⟩:=(D1.out.q q2).get4
 obtain⟨⟨s0,s1,s2,s3⟩,h0,h1,h2,h3⟩:=(R1.out.q q2).get4
 clear q2 e0 e1 e2 e3 f0 f1 f2 f3
 obtain⟨ad,rfl,hb,c0,c1',c2⟩:=HO2.out.files.load hkn hk
 go_wp2_with fail
 refine(set_mid (w.heap.size+2) (some ad) n c1 k ⟨l[k].nm,l[k].sf++l[k].wt,⟨#[]⟩⟩ l _ (HO2.out.alloc _) hkn).mono ?_
 rintro e w3 ⟨rfl,ho3,b3⟩
 have HO3:=hid ho3
 have Q3:=hid (show Q w w3 from (Q2.out.alloc _).below.trans (b3.mono (by omega)))
 have D3:=(D2.out.alloc _).below b3 (by omega)
 have R3:=(R2.out.alloc _).below b3 (by omega)
 clear ho3 b3 d0 d1 d2 d3 g0 g1 g2 g3 s0 s1 s2 s3 h0 h1 h2 h3 c0 c1' c2
 obtain⟨⟨d0,d1,d2,d3⟩,g0,g1,g2,g3⟩:=D3.get4
 obtain⟨⟨s0,s1,s2,s3⟩,h0,h1,h2,h3⟩:=R3.get4
 clear D3 R3
 go_wp2
 refine bodyPost_ret (v:=.tuple #[dkv (some ad) n c1 room fuse false,.int .i64 0]) (by simp[results,Tryz.results146,go_sem,s0,s1,s2,s3]) rfl ⟨some ad,n,c1,rfl,((HO3.out.setCell (p:=⟨w.heap.size,0,none⟩) (by simp) _).set4 (b:=w.heap.size+1) (by omega) _ _ _ _).lower (by omega),(Q3.out.setCell (p:=⟨w.heap.size,0,none⟩) (Nat.le_refl _) _).set4 (b:=w.heap.size+1) (by omega) _ _ _ _⟩
theorem sync_any (nm:ByteArray)(A:Option Addr)(n c:Nat)(d:Dk)(w:World)(hd:Dsk w A n c d.fs)(hs:∀ f∈d.fs,f.sf.size+f.wt.size≤maxLen) :
  Calls Tryz.prog 146 #[dkv A n c d.room d.fuse d.off,.string nm] w fun e w'=>RetDE w (syn d nm).1 (syn d nm).2 e w':=by
 obtain⟨l,room,fuse,off⟩:=d
 cases off
 · rcases plc_cases nm l with ⟨hp,hall⟩ | ⟨k,hk,hp,hkn,hfirst⟩
   · rw[syn_none hall]
     exact sync_none nm A n c room fuse l w hd hp
   · rw[syn_at hk hkn hfirst]
     exact sync_at nm A n c room fuse l w hd k hk hp (hs _ (List.getElem_mem hk))
 · exact sync_off nm A n c room fuse l w hd _ rfl
end
section
open Go.RowKit Dkm
instance:DecidableEq Fil:=fun f g=>decidable_of_iff (f.nm=g.nm∧f.sf=g.sf∧f.wt=g.wt) ⟨fun h=>Fil.ext_ h.1 h.2.1 h.2.2,fun h=>by subst h;exact⟨rfl,rfl,rfl⟩⟩
theorem neq_file (W:World)(f g:Fil):(binOp .neq 119 f.val g.val).run Tryz.prog W=.ok (.bool (!decide (f=g))) W:=by
 have u:=Tryz.underlying9
 have hS:Tryz.prog.underlying 119 = some (.struct (Tryz.prog.fieldsOf 119)):=by kernel_rfl
 have hp:Tryz.prog.stoodInHeld 119 = false:=by kernel_rfl
 have a3:=Tryz.isAgg9
 have z3:=Tryz.sizeOf9
 obtain⟨a,b,c⟩:=f
 obtain⟨a',b',c'⟩:=g
 rw[run_neq_struct,show (10000:Nat)=9999+1 from rfl,run_equalIn_agg W 9999 _ _ _ hS hp]
 simp only[Program.fieldsOf,Tryz.underlying119]
 go_simp
 simp only[str_inj]
 by_cases h1:a=a'<;>by_cases h2:b=b'<;>by_cases h3:c=c'<;>simp[h1,h2,h3]
def sameD (a b:Dk):Bool:=decide (a.fs=b.fs∧a.room=b.room∧a.fuse=b.fuse∧a.off=b.off)
end
section
open Go.RowKit Dkm
def RetD (w:World)(d:Dk)(e:Ending)(w':World):Prop:=
 ∃ A' n' c',e=.returned (dkv A' n' c' d.room d.fuse d.off)∧Own w' w.heap.size A' n' c' d.fs∧Q w w'
end
section
open Go.RowKit Dkm
structure St (w:World) (A1:Option Addr) (n c1:Nat) (room fuse:Int) (off:Bool) (l:List Fil) (wr:World):Prop where
 own:Own wr (w.heap.size+2) A1 n c1 l
 box:Bx wr w.heap.size [.slice A1 n c1,.int .i64 room,.int .i64 fuse,.bool off]
 res:Bx wr (w.heap.size+1) [.slice none 0 0,.int .i64 0,.int .i64 0,.bool false]
 q:Q w wr
theorem St.new {w w1:World}{A A1:Option Addr}{n c n1 c1:Nat}{room fuse room1 fuse1:Int}{off off1:Bool}{l:List Fil}
  (ho:Own w1 ((w.alloc (.cells #[.slice A n c,.int .i64 room,.int .i64 fuse,.bool off] 24)).alloc (.cells #[.slice none 0 0,.int .i64 0,.int .i64 0,.bool false] 24)).heap.size A1 n1 c1 l)
  (q1:Q ((w.alloc (.cells #[.slice A n c,.int .i64 room,.int .i64 fuse,.bool off] 24)).alloc (.cells #[.slice none 0 0,.int .i64 0,.int .i64 0,.bool false] 24)) w1) :
  St w A1 n1 c1 room1 fuse1 off1 l ((((w1.setCell ⟨w.heap.size,0,none⟩ (.slice A1 n1 c1)).setCell ⟨w.heap.size,1,none⟩ (.int .i64 room1)).setCell ⟨w.heap.size,2,none⟩ (.int .i64 fuse1)).setCell ⟨w.heap.size,3,none⟩ (.bool off1)):=by
 have B0:=two_new w (.slice A n c) (.int .i64 room) (.int .i64 fuse) (.bool off) (.slice none 0 0) (.int .i64 0) (.int .i64 0) (.bool false) 24
 rw[size_two] at ho
 exact⟨ho.set4 (b:=w.heap.size) (by omega) _ _ _ _,(B0.1.q q1).put4 _ _ _ _,(B0.2.q q1).far4 (c:=w.heap.size) (by omega) _ _ _ _,(((((Q.refl w).alloc _).alloc _).trans q1)).set4 (b:=w.heap.size) (Nat.le_refl _) _ _ _ _⟩
theorem St.get0 {w w1:World}{A:Option Addr}{n c:Nat}{room fuse:Int}{off:Bool}
  (q1:Q ((w.alloc (.cells #[.slice A n c,.int .i64 room,.int .i64 fuse,.bool off] 24)).alloc (.cells #[.slice none 0 0,.int .i64 0,.int .i64 0,.bool false] 24)) w1) :
  (w1.cell? ⟨w.heap.size,0,none⟩=some (.slice A n c)∧w1.cell? ⟨w.heap.size,1,none⟩=some (.int .i64 room)∧w1.cell? ⟨w.heap.size,2,none⟩=some (.int .i64 fuse)∧w1.cell? ⟨w.heap.size,3,none⟩=some (.bool off)) ∧
  w1.frozen? ⟨w.heap.size,0,none⟩=false∧w1.frozen? ⟨w.heap.size,1,none⟩=false∧w1.frozen? ⟨w.heap.size,2,none⟩=false∧w1.frozen? ⟨w.heap.size,3,none⟩=false:=
 ((two_new w (.slice A n c) (.int .i64 room) (.int .i64 fuse) (.bool off) (.slice none 0 0) (.int .i64 0) (.int .i64 0) (.bool false) 24).1.q q1).get4
section
variable {w wr:World} {A1:Option Addr} {n c1:Nat} {room fuse:Int} {off:Bool} {l:List Fil}
theorem St.lt (h:St w A1 n c1 room fuse off l wr):w.heap.size<wr.heap.size∧w.heap.size+1<wr.heap.size∧w.heap.size≠wr.heap.size∧w.heap.size+1≠wr.heap.size:=by
 have:=h.res.lt;omega
theorem St.step {w2:World}(h:St w A1 n c1 room fuse off l wr)(hq:Q wr w2):St w A1 n c1 room fuse off l w2:=⟨h.own.q hq,h.box.q hq,h.res.q hq,h.q.trans hq⟩
theorem St.alloc (h:St w A1 n c1 room fuse off l wr)(o:Obj):St w A1 n c1 room fuse off l (wr.alloc o):=h.step ((Q.refl _).alloc o)
theorem St.drewN (h:St w A1 n c1 room fuse off l wr)(k:Nat):St w A1 n c1 room fuse off l (wr.drewN k):=h.step ((Q.refl _).drewN k)
theorem St.drew (h:St w A1 n c1 room fuse off l wr):St w A1 n c1 room fuse off l wr.drew:=h.step (Q.refl _).drew
theorem St.put (h:St w A1 n c1 room fuse off l wr){k:Nat}(hk:k<4)(u:Value){A2:Option Addr}{n2 c2:Nat}{room2 fuse2:Int}{off2:Bool}{l2:List Fil}(hv:[Value.slice A1 n c1,.int .i64 room,.int .i64 fuse,.bool off].set k u=[.slice A2 n2 c2,.int .i64 room2,.int .i64 fuse2,.bool off2])(ho:Own wr (w.heap.size+2) A2 n2 c2 l2) :
  St w A2 n2 c2 room2 fuse2 off2 l2 (wr.setCell ⟨w.heap.size,k,none⟩ u):=
 ⟨ho.setCell (p:=⟨w.heap.size,k,none⟩) (by simp) u,by rw[←hv];exact h.box.set (k:=k) (by simpa using hk) u,h.res.far (p:=⟨w.heap.size,k,none⟩) (by simp) u,h.q.setCell (p:=⟨w.heap.size,k,none⟩) (Nat.le_refl _) u⟩
theorem St.setRoom (h:St w A1 n c1 room fuse off l wr)(x:Int):St w A1 n c1 x fuse off l (wr.setCell ⟨w.heap.size,1,none⟩ (.int .i64 x)):=h.put (k:=1) (by omega) _ rfl h.own
theorem St.setFuse (h:St w A1 n c1 room fuse off l wr)(x:Int):St w A1 n c1 room x off l (wr.setCell ⟨w.heap.size,2,none⟩ (.int .i64 x)):=h.put (k:=2) (by omega) _ rfl h.own
theorem St.setOff (h:St w A1 n c1 room fuse off l wr)(x:Bool):St w A1 n c1 room fuse x l (wr.setCell ⟨w.heap.size,3,none⟩ (.bool x)):=h.put (k:=3) (by omega) _ rfl h.own
theorem St.wrote {w2:World}(h:St w A1 n c1 room fuse off l wr){A2:Option Addr}{n2 c2:Nat}{l2:List Fil}(ho:Own w2 (w.heap.size+2) A2 n2 c2 l2)(hb:Below (w.heap.size+2) wr w2) :
  St w A2 n2 c2 room fuse off l2 (w2.setCell ⟨w.heap.size,0,none⟩ (.slice A2 n2 c2)):=by
 have hb0:Bx w2 w.heap.size [.slice A1 n c1,.int .i64 room,.int .i64 fuse,.bool off]:=h.box.below hb (by omega)
 have hr0:Bx w2 (w.heap.size+1) [.slice none 0 0,.int .i64 0,.int .i64 0,.bool false]:=h.res.below hb (by omega)
 have hq:Q w w2:=h.q.below.trans (hb.mono (by omega))
 exact⟨ho.setCell (p:=⟨w.heap.size,0,none⟩) (by simp) _,hb0.set (k:=0) (by simp) _,hr0.far (p:=⟨w.heap.size,0,none⟩) (by simp) _,hq.setCell (p:=⟨w.heap.size,0,none⟩) (Nat.le_refl _) _⟩
theorem St.get (h:St w A1 n c1 room fuse off l wr):((wr.cell? ⟨w.heap.size,0,none⟩=some (.slice A1 n c1)∧wr.cell? ⟨w.heap.size,1,none⟩=some (.int .i64 room)∧wr.cell? ⟨w.heap.size,2,none⟩=some (.int .i64 fuse)∧wr.cell? ⟨w.heap.size,3,none⟩=some (.bool off)) ∧
 wr.frozen? ⟨w.heap.size,0,none⟩=false∧wr.frozen? ⟨w.heap.size,1,none⟩=false∧wr.frozen? ⟨w.heap.size,2,none⟩=false∧wr.frozen? ⟨w.heap.size,3,none⟩=false):=h.box.get4
theorem St.getR (h:St w A1 n c1 room fuse off l wr):((wr.cell? ⟨w.heap.size+1,0,none⟩=some (.slice none 0 0)∧wr.cell? ⟨w.heap.size+1,1,none⟩=some (.int .i64 0)∧wr.cell? ⟨w.heap.size+1,2,none⟩=some (.int .i64 0)∧wr.cell? ⟨w.heap.size+1,3,none⟩=some (.bool false)) ∧
 wr.frozen? ⟨w.heap.size+1,0,none⟩=false∧wr.frozen? ⟨w.heap.size+1,1,none⟩=false∧wr.frozen? ⟨w.heap.size+1,2,none⟩=false∧wr.frozen? ⟨w.heap.size+1,3,none⟩=false):=h.res.get4
theorem St.endD (h:St w A1 n c1 room fuse off l wr)(x y z u:Value):RetD w ⟨l,room,fuse,off⟩ (.returned (dkv A1 n c1 room fuse off)) ((((wr.setCell ⟨w.heap.size+1,0,none⟩ x).setCell ⟨w.heap.size+1,1,none⟩ y).setCell ⟨w.heap.size+1,2,none⟩ z).setCell ⟨w.heap.size+1,3,none⟩ u):=
 ⟨A1,n,c1,rfl,(h.own.set4 (b:=w.heap.size+1) (by omega) _ _ _ _).lower (by omega),h.q.set4 (b:=w.heap.size+1) (by omega) _ _ _ _⟩
theorem St.endDE (h:St w A1 n c1 room fuse off l wr)(er:Int)(x y z u:Value):RetDE w ⟨l,room,fuse,off⟩ er (.returned (.tuple #[dkv A1 n c1 room fuse off,.int .i64 er])) ((((wr.setCell ⟨w.heap.size+1,0,none⟩ x).setCell ⟨w.heap.size+1,1,none⟩ y).setCell ⟨w.heap.size+1,2,none⟩ z).setCell ⟨w.heap.size+1,3,none⟩ u):=
 ⟨A1,n,c1,rfl,(h.own.set4 (b:=w.heap.size+1) (by omega) _ _ _ _).lower (by omega),h.q.set4 (b:=w.heap.size+1) (by omega) _ _ _ _⟩
end
end
section
open Go.RowKit Dkm
namespace Dkm
theorem crs_len (d:Dk)(ks:List Int):(crs d ks).fs.length=d.fs.length:=crl_len ks d.fs _
theorem crf_sum (ks:List Int)(i:Nat)(f:Fil):(crf ks i f).sf.size+(crf ks i f).wt.size≤f.sf.size+f.wt.size:=by
 have e:(⟨#[]⟩:ByteArray).size=0:=rfl
 have h2:=kp_le ks i f
 unfold crf
 simp only[ByteArray.size_append,ByteArray.size_extract,e]
 omega
theorem crl_sum {B:Nat}(ks:List Int)(l:List Fil)(h:∀ f∈l,f.sf.size+f.wt.size≤B)(k:Nat):∀ f∈crl ks l k,f.sf.size+f.wt.size≤B:=by
 intro f hf
 unfold crl at hf
 rcases List.mem_append.1 hf with hf | hf
 · obtain⟨i,hi,rfl⟩:=List.mem_mapIdx.1 hf
   exact Nat.le_trans (crf_sum ks i _) (h _ (List.mem_of_mem_take (List.getElem_mem _)))
 · exact h f (List.mem_of_mem_drop hf)
theorem crs_sum {B:Nat}(d:Dk)(ks:List Int)(h:∀ f∈d.fs,f.sf.size+f.wt.size≤B):∀ f∈(crs d ks).fs,f.sf.size+f.wt.size≤B:=crl_sum ks d.fs h _
theorem set_sum {B:Nat}{l:List Fil}(h:∀ f∈l,f.sf.size+f.wt.size≤B){k:Nat}{g:Fil}(hg:g.sf.size+g.wt.size≤B):∀ f∈l.set k g,f.sf.size+f.wt.size≤B:=by
 intro f hf
 rcases List.mem_or_eq_of_mem_set hf with hf | rfl
 · exact h f hf
 · exact hg
theorem syn_len (d:Dk)(nm:ByteArray):(syn d nm).1.fs.length=d.fs.length:=by
 unfold syn;split
 · rfl
 · split<;>simp
theorem syn_sum {B:Nat}(d:Dk)(nm:ByteArray)(h:∀ f∈d.fs,f.sf.size+f.wt.size≤B):∀ f∈(syn d nm).1.fs,f.sf.size+f.wt.size≤B:=by
 obtain⟨l,room,fuse,off⟩:=d
 cases off
 · rcases plc_cases nm l with ⟨hp,hall⟩ | ⟨k,hk,hp,hkn,hfirst⟩
   · rw[syn_none hall];exact h
   · rw[syn_at hk hkn hfirst]
     refine set_sum h ?_
     have e:(⟨#[]⟩:ByteArray).size=0:=rfl
     have:=h _ (List.getElem_mem hk)
     simp only[ByteArray.size_append,e];omega
 · exact h
theorem put_sum {B:Nat}{l:List Fil}(h:∀ f∈l,f.sf.size+f.wt.size≤B){k:Nat}{g:Fil}(hg:g.sf.size+g.wt.size≤B):∀ f∈put l k g,f.sf.size+f.wt.size≤B:=by
 unfold put;split
 · intro f hf
   rcases List.mem_append.1 hf with hf | hf
   · exact h f hf
   · simp at hf;subst hf;exact hg
 · exact set_sum h hg
theorem cut_size (fuse:Int)(s:ByteArray):(cut fuse s).size≤s.size:=by
 unfold cut;split
 · rw[ByteArray.size_extract];omega
 · exact Nat.le_refl _
theorem appd_sum {B:Nat}(d:Dk)(nm s:ByteArray)(hB:65536≤B)(h:∀ f∈d.fs,f.sf.size+f.wt.size≤B):∀ f∈(appd d nm s).1.fs,f.sf.size+f.wt.size≤B:=by
 unfold appd
 split
 · exact h
 split
 · exact h
 split
 · exact h
 split
 · exact h
 rename_i _ _ _ h4
 refine put_sum h ?_
 have:=cut_size d.fuse s
 simp only[ByteArray.size_append]
 omega
theorem appd_len (d:Dk)(nm s:ByteArray):(appd d nm s).1.fs.length≤d.fs.length+1:=by
 unfold appd
 split
 · exact Nat.le_succ _
 split
 · exact Nat.le_succ _
 split
 · exact Nat.le_succ _
 split
 · exact Nat.le_succ _
 show (put _ _ _).length≤_
 unfold put;split<;>simp
def lss (d:Dk)(k:Nat):Dk:=
 { d with fs:=d.fs.eraseIdx k,room:=wrap64 (d.room+(((d.fs.getD k ⟨⟨#[]⟩,⟨#[]⟩,⟨#[]⟩⟩).sf.size+(d.fs.getD k ⟨⟨#[]⟩,⟨#[]⟩,⟨#[]⟩⟩).wt.size:Nat):Int)) }
def pow (d:Dk):Dk×Bool:=if d.fuse=0 then ({ d with off:=true },false) else if 0<d.fuse then ({ d with fuse:=d.fuse - 1 },true) else (d,true)
def del (d:Dk)(nm:ByteArray):Dk×Int:=
 if d.off then (d,6) else if (hit nm d.fs).2=false then (d,7) else if (pow d).2=false then ((pow d).1,6) else (lss (pow d).1 (opn nm d.fs).2,0)
def nmd (d:Dk)(k:Nat)(to:ByteArray):Dk:=
 { d with fs:=d.fs.set k ⟨to,(d.fs.getD k ⟨⟨#[]⟩,⟨#[]⟩,⟨#[]⟩⟩).sf,(d.fs.getD k ⟨⟨#[]⟩,⟨#[]⟩,⟨#[]⟩⟩).wt⟩ }
def ren (d:Dk)(fr to:ByteArray):Dk×Int:=
 if d.off then (d,6) else if nmOk to=false then (d,1) else if (hit fr d.fs).2=false then (d,7) else if fr=to then (d,0) else if (pow d).2=false then ((pow d).1,6)
 else if (hit to d.fs).2 then (lss (nmd (pow d).1 (opn fr d.fs).2 to) (opn to d.fs).2,0) else (nmd (pow d).1 (opn fr d.fs).2 to,0)
theorem wrap_rng (x:Int):-9223372036854775808≤wrap64 x∧wrap64 x≤9223372036854775807:=by unfold wrap64;omega
end Dkm
end
section
open Go.RowKit Dkm
theorem rows_drop (l:List Fil):∀ (m:Nat),rows (l.drop m)=(rows l).drop (m*3):=by
 induction l with
 | nil=>intro m;simp[rows]
 | cons f l ih =>
   intro m
   cases m with
   | zero=>simp
   | succ m =>
     rw[List.drop_succ_cons,ih m,rows,show (m+1)*3=f.row.length+m*3 by simp[Fil.row];omega,List.drop_length_add_append]
theorem rows_take (l:List Fil):∀ (m:Nat),rows (l.take m)=(rows l).take (m*3):=by
 induction l with
 | nil=>intro m;simp[rows]
 | cons f l ih =>
   intro m
   cases m with
   | zero=>simp[rows]
   | succ m =>
     rw[List.take_succ_cons,rows,ih m,rows,show (m+1)*3=f.row.length+m*3 by simp[Fil.row];omega,List.take_length_add_append]
theorem own_cells {w:World}{base g n c:Nat}{l:List Fil}(h:Own w base (some ⟨g,0,none⟩) n c l)(m:Nat):∀ j u,(rows (l.drop m))[j]? = some u→w.cell? ⟨g,m*3+j,none⟩=some u:=by
 intro j u hu
 rw[rows_drop,List.getElem?_drop] at hu
 have hl:m*3+j<(rows l).length:=(List.getElem?_eq_some_iff.1 hu).1
 rw[World.ownsRow.cellAt h _ (by rw[←h.1];exact hl)]
 exact hu
theorem own_spare {w:World}{base g n c:Nat}{l:List Fil}(h:Own w base (some ⟨g,0,none⟩) n c l)(j:Nat)(hj:j<c*3):(w.cell? ⟨g,j,none⟩).isSome=true∧w.frozen? ⟨g,j,none⟩=false:=by
 refine⟨?_,World.ownsRow.frozenAt h _⟩
 rcases h.parts with ⟨e,_⟩ | ⟨g',cur,e,hb,hh,hc,hm,hs,ht⟩
 · cases e
 injection e with e
 injection e with e
 subst e
 rw[cell_of_row _ _ j _ 119 (0,0) hh]
 rw[Array.getElem?_eq_getElem (by omega)]
 rfl
theorem row_spare {w:World}{base g n c:Nat}{xs:List Value}(h:w.ownsRow base 119 3 (.slice (some ⟨g,0,none⟩) n c) n xs)(j:Nat)(hj:j<c*3):(w.cell? ⟨g,j,none⟩).isSome=true∧w.frozen? ⟨g,j,none⟩=false:=by
 refine⟨?_,World.ownsRow.frozenAt h _⟩
 rcases h.2 with ⟨e,_⟩ | ⟨g',cap,cur,e,hb,hh,hc,hm,hs,ht⟩
 · cases e
 injection e with e e2 e3
 injection e with e
 injection e with e
 subst e e3
 rw[cell_of_row _ _ j _ 119 (0,0) hh]
 rw[Array.getElem?_eq_getElem (by omega)]
 rfl
theorem clear_one (w:World)(ty:TypeId)(b o c:Nat)(hc:∀ j,j<3→(w.cell? ⟨b,o+j,none⟩).isSome=true)(hf:∀ j,j<3→w.frozen? ⟨b,o+j,none⟩=false) :
  (Builtin.clear_ #[22] ty #[.slice (some ⟨b,o,none⟩) 1 c]).run Tryz.prog w=.ok (.tuple #[]) (w.setCells b o [.string ⟨#[]⟩,.string ⟨#[]⟩,.string ⟨#[]⟩]):=by
 have hst:=run_storeCells_cells (P:=Tryz.prog) b o [.string ⟨#[]⟩,.string ⟨#[]⟩,.string ⟨#[]⟩] 0 w (by simpa using hc) (by simpa using hf) (by intro v hv;simp at hv;subst hv;rfl)
 simp only[Nat.add_zero] at hst
 have e:(Builtin.zeroCells (Value.agg #[.string ⟨#[]⟩,.string ⟨#[]⟩,.string ⟨#[]⟩]).cells 1).toList=[.string ⟨#[]⟩,.string ⟨#[]⟩,.string ⟨#[]⟩]:=by kernel_rfl
 simp[Builtin.clear_,run_underlying Tryz.underlying22,e,hst]
theorem take_mid {α:Type}{P R Z D:List α}{L:Nat}(h:P.length=L):((P++R).take L++Z++D).take L=P:=by
 rw[List.take_left' h,List.append_assoc,List.take_left' h]
theorem erase_rows (l:List Fil)(k m:Nat)(R Z D:List Value)(hl:l.length=m+1)(hk:k<m+1) :
  (((rows l).take (0+k*3)++rows (l.drop (k+1))++R).take (m*3)++Z++D).take (m*3)=rows (l.eraseIdx k):=by
 rw[List.eraseIdx_eq_take_drop_succ,rows_append,rows_take,Nat.zero_add]
 exact take_mid (by rw[List.length_append,List.length_take,rows_length,rows_length,List.length_drop,hl];omega)
theorem fin_ {w:World}{base g c k m:Nat}{l:List Fil}{R Z D:List Value}(hl:l.length=m+1)(hk:k<m+1)
  (h:w.ownsRow base 119 3 (.slice (some ⟨g,0,none⟩) m c) m ((((rows l).take (k*3)++rows (l.drop (k+1))++R).take (m*3)++Z++D).take (m*3))):Own w base (some ⟨g,0,none⟩) m c (l.eraseIdx k):=by
 have e:=erase_rows l k m R Z D hl hk
 rw[Nat.zero_add] at e
 rw[e] at h
 exact h
theorem delete_at (base:Nat)(g m c k:Nat)(l:List Fil)(w:World)(h:Own w base (some ⟨g,0,none⟩) (m+1) c l)(hk:k<m+1) :
  Calls Tryz.prog 205 #[.slice (some ⟨g,0,none⟩) (m+1) c,.int .i64 k,.int .i64 ((k:Int)+1)] w fun e w'=>e=.returned (.slice (some ⟨g,0,none⟩) m c)∧Own w' base (some ⟨g,0,none⟩) m c (l.eraseIdx k)∧w.grownBy w' (some g):=by
 obtain⟨i0,hi,hz,hsz,hy⟩:=info_parts file_info
 obtain⟨hb,hc,hm⟩:base≤g∧m+1≤c∧c≤maxLen:=by
  rcases h.parts with ⟨e,_⟩ | ⟨g',cur,e,hb,hh,hc,hm,hs,ht⟩
  · cases e
  injection e with e
  injection e with e
  subst e
  exact⟨hb,hc,hm⟩
 unfold maxLen at hm
 have HO:=hid h
 have HL:=hid h.len
 clear h
 have b1:((k:Int) == (k:Int)+1)=false:=by simp;omega
 have s1:=hid (show (rows (l.drop (k+1))).length=(m - k)*3 by rw[rows_length,List.length_drop,HL.out];omega)
 have s3:=hid (show ∀ u∈rows (l.drop (k+1)),u.oneCell'=true from rows_one _)
 have s4:=hid (show ∀ j,j<(rows (l.drop (k+1))).length→(w.drew.cell? ⟨g,0+k*3+j,none⟩).isSome=true∧w.drew.frozen? ⟨g,0+k*3+j,none⟩=false from fun j hj=>by
  rw[s1.out] at hj
  exact own_spare HO.out (0+k*3+j) (by omega))
 have HB:=hid hb
 clear hb
 have q1:k≤c:=by omega
 have q2:k+1≤c:=by omega
 have q3:k≤m:=by omega
 have q4:(k:Int)+1≤(m:Int)+1:=by omega
 have q5:(k:Int)+1≤c:=by omega
 have q6:(k:Int)≤c:=by omega
 have q7:0≤(k:Int)+1:=by omega
 have q11:(k:Int)≤(k:Int)+1:=by omega
 have q12:k≤k+1:=by omega
 have q8:m≤c:=by omega
 have q9:(m:Int)≤c:=by omega
 have q10:(c=m)=False:=by simp;omega
 have y:=owns_setCells (e := 119) (sz:=3) (rows (l.drop (k+1))) (k*3) w.drew (rows l) (show w.drew.ownsRow base 119 3 (.slice (some ⟨g,0,none⟩) (m+1) c) (m+1) (rows l) from HO.out) (by rw[s1.out,rows_length,HL.out];omega)
 have Y:=hid (And.intro y (only_sets (rows (l.drop (k+1))) (k*3) w.drew (only_drew (only_refl w g))))
 clear y
 by_cases hck:c=k+1
 · have e:k=m:=by omega
   subst e
   subst hck
   have s2:=hid (show ∀ j u,(rows (l.drop (k+1)))[j]? = some u→w.drew.cell? ((⟨g,0,none⟩:Addr).add j)=some u from fun j u hu=>by
    have:=(List.getElem?_eq_some_iff.1 hu).1
    rw[s1.out] at this
    omega)
   clear q3
   rw[Nat.sub_self] at s1
   go_enter Tryz.func205,Tryz.ntmps205
   go_wp2
   go_region_law ((refine step_append_room (by rfl) _ _ _ (by rfl) _ i0 3 Tryz.underlying22 hi hsz _ _ _ _ (by rfl) _ _ _ (rows (l.drop (k+1))) (by rfl) s1.out s2.out s3.out (by omega) s4.out ?_))
   generalize w.drew.setCells g (k*3) (rows (l.drop (k+1)))=W1 at Y ⊢
   obtain⟨y,z⟩:=Y.out
   have hcl:∀ ty,(Builtin.clear_ #[22] ty #[.slice (some ⟨g,k*3,none⟩) 1 1]).run Tryz.prog W1=.ok (.tuple #[]) (W1.setCells g (k*3) [.string ⟨#[]⟩,.string ⟨#[]⟩,.string ⟨#[]⟩]):=fun ty =>
    clear_one W1 ty g (k*3) 1 (fun j hj=>(row_spare y (k*3+j) (by omega)).1) (fun j hj=>(row_spare y (k*3+j) (by omega)).2)
   have F:=hid (And.intro (owns_short (owns_setCells (e := 119) (sz:=3) [.string ⟨#[]⟩,.string ⟨#[]⟩,.string ⟨#[]⟩] (k*3) W1 _ y (by rw[y.1];simp;omega)) (Nat.le_succ k)) (only_sets [.string ⟨#[]⟩,.string ⟨#[]⟩,.string ⟨#[]⟩] (k*3) W1 z))
   clear y z Y
   go_wp2
   go_ret
   exact⟨rfl,fin_ HL.out hk F.out.1,F.out.2⟩
 · have s2:=hid (show ∀ j u,(rows (l.drop (k+1)))[j]? = some u→w.drew.cell? ((⟨g,(k+1)*3,none⟩:Addr).add j)=some u from fun j u hu=>by
     rw[Addr.add_lit];exact own_cells HO.out (k+1) j u hu)
   go_enter Tryz.func205,Tryz.ntmps205
   go_wp2
   go_region_law ((refine step_append_room (by rfl) _ _ _ (by rfl) _ i0 3 Tryz.underlying22 hi hsz _ _ _ _ (by rfl) _ _ _ (rows (l.drop (k+1))) (by rfl) s1.out s2.out s3.out (by omega) s4.out ?_))
   generalize w.drew.setCells g (k*3) (rows (l.drop (k+1)))=W1 at Y ⊢
   obtain⟨y,z⟩:=Y.out
   have hcl:∀ ty,(Builtin.clear_ #[22] ty #[.slice (some ⟨g,m*3,none⟩) 1 (c - m)]).run Tryz.prog W1=.ok (.tuple #[]) (W1.setCells g (m*3) [.string ⟨#[]⟩,.string ⟨#[]⟩,.string ⟨#[]⟩]):=fun ty =>
    clear_one W1 ty g (m*3) (c - m) (fun j hj=>(row_spare y (m*3+j) (by omega)).1) (fun j hj=>(row_spare y (m*3+j) (by omega)).2)
   have F:=hid (And.intro (owns_short (owns_setCells (e := 119) (sz:=3) [.string ⟨#[]⟩,.string ⟨#[]⟩,.string ⟨#[]⟩] (m*3) W1 _ y (by rw[y.1];simp;omega)) (Nat.le_succ m)) (only_sets [.string ⟨#[]⟩,.string ⟨#[]⟩,.string ⟨#[]⟩] (m*3) W1 z))
   clear y z Y
   go_wp2
   go_ret
   exact⟨rfl,fin_ HL.out hk F.out.1,F.out.2⟩
end
section
open Go.RowKit Dkm
theorem own_file {w:World}{base g n c:Nat}{l:List Fil}(h:Own w base (some ⟨g,0,none⟩) n c l){k:Nat}(hk:k<l.length) :
  w.cell? ⟨g,k*3,none⟩=some (.string l[k].nm)∧w.cell? ⟨g,k*3+1,none⟩=some (.string l[k].sf)∧w.cell? ⟨g,k*3+2,none⟩=some (.string l[k].wt)∧g<w.heap.size:=by
 have hn:=h.len
 have c0:w.cell? ⟨g,k*3,none⟩=some (.string l[k].nm):=by rw[World.ownsRow.cellAt h _ (by omega)];exact rows_at l k hk 0 (by omega)
 have c1:w.cell? ⟨g,k*3+1,none⟩=some (.string l[k].sf):=by rw[World.ownsRow.cellAt h _ (by omega)];exact rows_at l k hk 1 (by omega)
 have c2:w.cell? ⟨g,k*3+2,none⟩=some (.string l[k].wt):=by rw[World.ownsRow.cellAt h _ (by omega)];exact rows_at l k hk 2 (by omega)
 exact⟨c0,c1,c2,block_lt_of_cell c0⟩
theorem own_far {w:World}{base g n c:Nat}{l:List Fil}(h:Own w base (some ⟨g,0,none⟩) n c l){p:Addr}(hp:p.block≠g)(u:Value):Own (w.setCell p u) base (some ⟨g,0,none⟩) n c l:=by
 refine⟨h.1,?_⟩
 rcases h.2 with ⟨e,h0⟩ | ⟨g',cap,cur,e,hg,hh,r⟩
 · exact .inl ⟨e,h0⟩
 · have e':=e
   injection e' with e1
   injection e1 with e1
   injection e1 with e1
   exact .inr ⟨g',cap,cur,e,hg,(heap_setCell_other w p g' u (by omega)).trans hh,r⟩
theorem Bx.only {w w':World}{b g:Nat}{vs:List Value}(h:Bx w b vs)(hg:w.grownBy w' (some g))(hne:b≠g):Bx w' b vs:=fun j v hj=>by
 have hb:b<w.heap.size:=block_lt_of_cell (h j v hj).1
 have e:=hg.block b hb (by intro e;injection e with e;exact hne e)
 exact⟨(World.cell?_of_block (a:=⟨b,j,none⟩) e).trans (h j v hj).1,(World.frozen?_of_block (a:=⟨b,j,none⟩) e).trans (h j v hj).2⟩
theorem drop_at (base g m c k:Nat)(room fuse:Int)(off:Bool)(l:List Fil)(w:World)(h:Own w base (some ⟨g,0,none⟩) (m+1) c l)(hk:k<m+1)(hkl:k<l.length)(hs:l[k].sf.size+l[k].wt.size≤maxLen)(hm:m+1≤maxLen) :
  Calls Tryz.prog 184 #[dkv (some ⟨g,0,none⟩) (m+1) c room fuse off,.int .i64 k] w fun e w'=>e=.returned (dkv (some ⟨g,0,none⟩) m c (wrap64 (room+((l[k].sf.size+l[k].wt.size:Nat):Int))) fuse off)∧Own w' base (some ⟨g,0,none⟩) m c (l.eraseIdx k)∧w.grownBy w' (some g):=by
 have HO:=hid h
 have HS:=hid hs
 clear h
 unfold maxLen at hs hm
 have B0:=two_new w (.slice (some ⟨g,0,none⟩) (m+1) c) (.int .i64 room) (.int .i64 fuse) (.bool off) (.slice none 0 0) (.int .i64 0) (.int .i64 0) (.bool false) 24
 have O0:=HO.out.q (((Q.refl w).alloc (.cells #[.slice (some ⟨g,0,none⟩) (m+1) c,.int .i64 room,.int .i64 fuse,.bool off] 24)).alloc (.cells #[.slice none 0 0,.int .i64 0,.int .i64 0,.bool false] 24))
 have G0:=((World.grownBy_alloc w (.cells #[.slice (some ⟨g,0,none⟩) (m+1) c,.int .i64 room,.int .i64 fuse,.bool off] 24) (some g)).trans (World.grownBy_alloc _ (.cells #[.slice none 0 0,.int .i64 0,.int .i64 0,.bool false] 24) (some g)))
 have q4:(k:Int)<(m:Int)+1:=by omega
 have q5:0≤(k:Int):=by omega
 have gw:g<w.heap.size:=(own_file HO.out hkl).2.2.2
 go_enter Tryz.func184,Tryz.ntmps184
 go_wp2
 generalize ((w.alloc (.cells #[.slice (some ⟨g,0,none⟩) (m+1) c,.int .i64 room,.int .i64 fuse,.bool off] 24)).alloc (.cells #[.slice none 0 0,.int .i64 0,.int .i64 0,.bool false] 24))=W at B0 O0 G0 ⊢
 obtain⟨⟨e0,e1,e2,e3⟩,f0,f1,f2,f3⟩:=B0.1.get4
 obtain⟨c0,c1,c2,_⟩:=own_file O0 hkl
 have X:=hid (And.intro B0 (And.intro O0 G0))
 clear B0 O0 G0
 go_region_with ((go_at_call 178
                  refine(size_any l[k] _ HS.out).mono ?_
                  rintro e w1 ⟨rfl,q1⟩
                  obtain⟨⟨x0,x1,x2,x3⟩,y0,y1,y2,y3⟩:=(X.out.1.1.q ((Q.refl W).drew.trans q1)).get4))
 all_goals
   have hr:IntKind.i64.wrap (room+((l[k].sf.size:Int)+(l[k].wt.size:Int)))=wrap64 (room+((l[k].sf.size+l[k].wt.size:Nat):Int)):=by
    rw[IntKind.wrap_i64];unfold wrap64;omega
   rw[hr]
   clear hr
   generalize hR:wrap64 (room+((l[k].sf.size+l[k].wt.size:Nat):Int))=room2
   have HR:=hid hR
   clear hR
   obtain⟨B0,O0,G0⟩:=X.out
   have q2:=(Q.refl W).drew.trans q1
   have D1:=(B0.1.q q2).set (k:=1) (by simp) (.int .i64 room2)
   have R1:=(B0.2.q q2).far (p:=⟨w.heap.size,1,none⟩) (by simp) (.int .i64 room2)
   have O1:=own_far (O0.q q2) (p:=⟨w.heap.size,1,none⟩) (by simp;omega) (.int .i64 room2)
   have G1:=only_new (G0.trans (only_q q2)) (p:=⟨w.heap.size,1,none⟩) (Nat.le_refl _) (.int .i64 room2)
   clear B0 O0 G0 q1 q2 X e0 e1 e2 e3 f0 f1 f2 f3 x0 x1 x2 x3 y0 y1 y2 y3 c0 c1 c2
   generalize w1.setCell ⟨w.heap.size,1,none⟩ (.int .i64 room2)=W2 at D1 R1 O1 G1 ⊢
   have Y:=hid (And.intro D1 (And.intro R1 (And.intro O1 G1)))
   obtain⟨⟨e0,e1,e2,e3⟩,f0,f1,f2,f3⟩:=D1.get4
   clear D1 R1 O1 G1
   go_wp2_with fail
   refine(delete_at base g m c k l W2 Y.out.2.2.1 hk).mono ?_
   rintro e w3 ⟨rfl,o3,g3⟩
   obtain⟨D1,R1,O1,G1⟩:=Y.out
   have hne:w.heap.size≠g:=by omega
   have hne1:w.heap.size+1≠g:=by omega
   have D3:=D1.only g3 hne
   have R3:=R1.only g3 hne1
   have F:=hid (And.intro (own_far o3 (p:=⟨w.heap.size,0,none⟩) hne (.slice (some ⟨g,0,none⟩) m c)) (only_new (G1.trans g3) (p:=⟨w.heap.size,0,none⟩) (Nat.le_refl _) (.slice (some ⟨g,0,none⟩) m c)))
   clear e0 e1 e2 e3 f0 f1 f2 f3 D1 R1 O1 G1 o3 g3
   obtain⟨⟨e0,e1,e2,e3⟩,f0,f1,f2,f3⟩:=D3.get4
   obtain⟨⟨s0,s1,s2,s3⟩,h0,h1,h2,h3⟩:=R3.get4
   clear D3 R3
   go_wp2
   refine bodyPost_ret (v:=dkv (some ⟨g,0,none⟩) m c room2 fuse off) (by simp[results,Tryz.results184,go_sem,s0,s1,s2,s3]) rfl ⟨by rw[HR.out],?_,?_⟩
   · exact own_far (own_far (own_far (own_far F.out.1 (p:=⟨w.heap.size+1,0,none⟩) hne1 _) (p:=⟨w.heap.size+1,1,none⟩) hne1 _) (p:=⟨w.heap.size+1,2,none⟩) hne1 _) (p:=⟨w.heap.size+1,3,none⟩) hne1 _
   · exact only_new (only_new (only_new (only_new F.out.2 (p:=⟨w.heap.size+1,0,none⟩) (Nat.le_succ _) _) (p:=⟨w.heap.size+1,1,none⟩) (Nat.le_succ _) _) (p:=⟨w.heap.size+1,2,none⟩) (Nat.le_succ _) _) (p:=⟨w.heap.size+1,3,none⟩) (Nat.le_succ _) _
end
section
open Go.RowKit Dkm
theorem St.put4 {w wr:World}{A1:Option Addr}{n c1:Nat}{room fuse:Int}{off:Bool}{l:List Fil}(h:St w A1 n c1 room fuse off l wr){A2:Option Addr}{n2 c2:Nat}{room2 fuse2:Int}{off2:Bool}{l2:List Fil}(ho:Own wr (w.heap.size+2) A2 n2 c2 l2) :
  St w A2 n2 c2 room2 fuse2 off2 l2 ((((wr.setCell ⟨w.heap.size,0,none⟩ (.slice A2 n2 c2)).setCell ⟨w.heap.size,1,none⟩ (.int .i64 room2)).setCell ⟨w.heap.size,2,none⟩ (.int .i64 fuse2)).setCell ⟨w.heap.size,3,none⟩ (.bool off2)):=
 ⟨ho.set4 (b:=w.heap.size) (by omega) _ _ _ _,h.box.put4 _ _ _ _,h.res.far4 (c:=w.heap.size) (by omega) _ _ _ _,h.q.set4 (b:=w.heap.size) (Nat.le_refl _) _ _ _ _⟩
theorem delete_no (nm:ByteArray)(A:Option Addr)(n c:Nat)(room fuse:Int)(off:Bool)(l:List Fil)(w:World)(hd:Dsk w A n c l)(hfu:fuse≤9223372036854775807)(p:Int)(hp:plc nm l 0=p)(f2 er:Int)(o2:Bool)(hc:chg p fuse off=(f2,o2,er))(hne:er≠0) :
  Calls Tryz.prog 154 #[dkv A n c room fuse off,.string nm] w fun e w'=>RetDE w ⟨l,room,f2,o2⟩ er e w':=by
 have HD:=hid hd
 have HN:=hid hd.max
 have HP:=hid hp
 have HC:=hid hc
 have b1:(er == 0)=false:=by simpa using hne
 have b2:(er != 0)=true:=by simpa using hne
 clear hd hp hc hne
 go_enter Tryz.func154,Tryz.ntmps154
 go_wp2_with fail
 refine(own_any A n c room fuse off l _ (HD.out.q (((Q.refl _).alloc _).alloc _))).mono ?_
 rintro e w1 ⟨A1,c1,rfl,ho,q1⟩
 have X:=hid (St.new (room1:=room) (fuse1:=fuse) (off1:=off) ho q1)
 obtain⟨⟨e0,e1,e2,e3⟩,f0,f1,f2',f3⟩:=St.get0 q1
 clear q1 ho
 go_wp2_with fail
 refine(place nm A1 n c1 room fuse off l _ X.out.own.files HN.out).mono ?_
 rintro e w2 ⟨rfl,q2⟩
 rw[HP.out]
 have Y:=hid (X.out.step q2)
 clear X q2 e0 e1 e2 e3 f0 f1 f2' f3
 obtain⟨⟨e0,e1,e2,e3⟩,f0,f1,f2',f3⟩:=Y.out.get
 go_wp2_with fail
 have k3:=change_any A1 n c1 room fuse off p w2 hfu
 rw[HC.out] at k3
 refine k3.mono ?_
 clear k3
 rintro e w3 ⟨rfl,q3⟩
 have Z:=hid ((Y.out.step q3).put4 (room2:=room) (fuse2:=f2) (off2:=o2) (Y.out.step q3).own)
 have Z0:=Y.out.step q3
 clear Y q3 e0 e1 e2 e3 f0 f1 f2' f3
 obtain⟨⟨e0,e1,e2,e3⟩,f0,f1,f2',f3⟩:=Z0.get
 obtain⟨⟨s0,s1,s2,s3⟩,h0,h1,h2,h3⟩:=Z0.getR
 clear Z0
 go_upto_region 4 with (fail)
 generalize ((((w3.setCell ⟨w.heap.size,0,none⟩ (.slice A1 n c1)).setCell ⟨w.heap.size,1,none⟩ (.int .i64 room)).setCell ⟨w.heap.size,2,none⟩ (.int .i64 f2)).setCell ⟨w.heap.size,3,none⟩ (.bool o2))=w4 at Z ⊢
 clear e0 e1 e2 e3 f0 f1 f2' f3 s0 s1 s2 s3 h0 h1 h2 h3
 obtain⟨⟨e0,e1,e2,e3⟩,f0,f1,f2',f3⟩:=Z.out.get
 obtain⟨⟨s0,s1,s2,s3⟩,h0,h1,h2,h3⟩:=Z.out.getR
 go_wp2
 refine bodyPost_ret (v:=.tuple #[dkv A1 n c1 room f2 o2,.int .i64 er]) (by simp[results,Tryz.results154,go_sem,s0,s1,s2,s3]) rfl ?_
 exact Z.out.endDE er _ _ _ _
theorem delete_yes (nm:ByteArray)(A:Option Addr)(n c:Nat)(room fuse:Int)(l:List Fil)(w:World)(hd:Dsk w A n c l)(hfu:fuse≤9223372036854775807)(k:Nat)(hk:k<l.length)(hp:plc nm l 0=k)(f2:Int)(hc:chg k fuse false=(f2,false,0))(hs:l[k].sf.size+l[k].wt.size≤maxLen) :
  Calls Tryz.prog 154 #[dkv A n c room fuse false,.string nm] w fun e w'=>RetDE w ⟨l.eraseIdx k,wrap64 (room+((l[k].sf.size+l[k].wt.size:Nat):Int)),f2,false⟩ 0 e w':=by
 have hkn:k<n:=by have:=hd.len;omega
 obtain⟨m,rfl⟩:∃ m,n=m+1:=⟨n - 1,by omega⟩
 have HD:=hid hd
 have HN:=hid hd.max
 have HP:=hid hp
 have HC:=hid hc
 have HS:=hid hs
 clear hd hp hc hs
 go_enter Tryz.func154,Tryz.ntmps154
 go_wp2_with fail
 refine(own_any A (m+1) c room fuse false l _ (HD.out.q (((Q.refl _).alloc _).alloc _))).mono ?_
 rintro e w1 ⟨A1,c1,rfl,ho,q1⟩
 obtain⟨g,rfl,hg⟩:∃ g,A1=some ⟨g,0,none⟩∧w.heap.size+2≤g:=by
  rcases ho.parts with ⟨_,e,_⟩ | ⟨g,cur,rfl,hb,_⟩
  · cases e
  · rw[size_two] at hb;exact⟨g,rfl,hb⟩
 have X:=hid (St.new (room1:=room) (fuse1:=fuse) (off1:=false) ho q1)
 obtain⟨⟨e0,e1,e2,e3⟩,f0,f1,f2',f3⟩:=St.get0 q1
 clear q1 ho
 go_wp2_with fail
 refine(place nm (some ⟨g,0,none⟩) (m+1) c1 room fuse false l _ X.out.own.files HN.out).mono ?_
 rintro e w2 ⟨rfl,q2⟩
 rw[HP.out]
 have Y:=hid (X.out.step q2)
 clear X q2 e0 e1 e2 e3 f0 f1 f2' f3
 obtain⟨⟨e0,e1,e2,e3⟩,f0,f1,f2',f3⟩:=Y.out.get
 go_wp2_with fail
 have k3:=change_any (some ⟨g,0,none⟩) (m+1) c1 room fuse false k w2 hfu
 rw[HC.out] at k3
 refine k3.mono ?_
 clear k3
 rintro e w3 ⟨rfl,q3⟩
 have Z:=hid ((Y.out.step q3).put4 (room2:=room) (fuse2:=f2) (off2:=false) (Y.out.step q3).own)
 have Z0:=Y.out.step q3
 clear Y q3 e0 e1 e2 e3 f0 f1 f2' f3
 obtain⟨⟨e0,e1,e2,e3⟩,f0,f1,f2',f3⟩:=Z0.get
 clear Z0
 go_upto_region 4 with (fail)
 generalize ((((w3.setCell ⟨w.heap.size,0,none⟩ (.slice (some ⟨g,0,none⟩) (m+1) c1)).setCell ⟨w.heap.size,1,none⟩ (.int .i64 room)).setCell ⟨w.heap.size,2,none⟩ (.int .i64 f2)).setCell ⟨w.heap.size,3,none⟩ (.bool false))=w4 at Z ⊢
 clear e0 e1 e2 e3 f0 f1 f2' f3
 obtain⟨⟨e0,e1,e2,e3⟩,f0,f1,f2',f3⟩:=Z.out.get
 go_wp2_with fail
 refine(drop_at (w.heap.size+2) g m c1 k room f2 false l w4 Z.out.own hkn hk HS.out HN.out).mono ?_
 rintro e w5 ⟨rfl,o5,g5⟩
 have R5:=Z.out.res.only g5 (by omega)
 have Q5:=hid (show Q w w5 from Z.out.q.below.trans (only_below g5 (by omega) Z.out.q.size))
 have O5:=hid o5
 clear o5 g5 e0 e1 e2 e3 f0 f1 f2' f3
 obtain⟨⟨s0,s1,s2,s3⟩,h0,h1,h2,h3⟩:=R5.get4
 clear R5
 go_wp2
 refine bodyPost_ret (v:=.tuple #[dkv (some ⟨g,0,none⟩) m c1 (wrap64 (room+((l[k].sf.size+l[k].wt.size:Nat):Int))) f2 false,.int .i64 0]) (by simp[results,Tryz.results154,go_sem,s0,s1,s2,s3]) rfl ?_
 exact⟨some ⟨g,0,none⟩,m,c1,rfl,(O5.out.set4 (b:=w.heap.size+1) (by omega) _ _ _ _).lower (by omega),Q5.out.set4 (b:=w.heap.size+1) (by omega) _ _ _ _⟩
end
end Go.Proofs.YtccoknaaofmbcaaGreatDoor
