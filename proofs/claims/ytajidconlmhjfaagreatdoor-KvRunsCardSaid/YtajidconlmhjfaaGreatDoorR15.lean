/- KvCheck2, KvCheck3, KvChkG, KvRefName, KvRunW, Bulk, FrameRow, TabLaid, KvLaid, ErrsLaid, KvLaid2: merged. -/
import Derived.Test.YtajidconlmhjfaaGreatDoorR14
import Derived.Test.YtajidconlmhjfaaGreatDoorR13
import Derived.Test.YtajidconlmhjfaaGreatDoorR11
import Derived.Test.YtajidconlmhjfaaGreatDoorR12
import Derived.Test.YtajidconlmhjfaaGreatDoorR1
import Derived.Test.YtajidconlmhjfaaGreatDoorR6
import Derived.Test.YtajidconlmhjfaaGreatDoorR8
import Derived.Test.YtajidconlmhjfaaGreatDoorCards
import Derived.Test.YtajidconlmhjfaaGreatDoorTie
import Derived.Deep.DeepHandedRow
import Derived.SevenTiedAt
import Derived.LaidMore
import Derived.MakeChecks
import Derived.Stop.LaidErr
import Derived.Deep.DeepWitnessRowRef
import Derived.Test.YtajidconlmhjfaaGreatDoorR7
import Derived.LaidHandle
import Derived.LaidSub
import Derived.Stop.LaidTwo
import Derived.Test.YtajidconlmhjfaaGreatDoorR4
set_option linter.unusedVariables false
set_option linter.unusedSimpArgs false
set_option maxRecDepth 100000
namespace Go.Proofs.YtajidconlmhjfaaGreatDoor
section
open Go.RowKit Dkm Prm Km Wm
set_option maxHeartbeats 8000000 in
theorem check_swp {A:Option Addr} {n c:Nat} {B:Option Addr} {bn bc:Nat} {C:Option Addr} {cn cc:Nat} {l:List Fil} {room fuse:Int} {off:Bool} {frm seg run:Int} {s:Bm.Sta} (w:World) (a b:Addr) (hs:¬ 1000000≤seg) (hs0:-1000000≤seg) (hr:¬ 1000000≤run) (hr0:-1000000≤run) (prs:List Prm.Pr) (rb:ByteArray) (N:Nat) (KP:Hid (∀ W,Q w W→Calls Tryz.prog 103 #[staV B bn bc C cn cc] W (RetL pairK W N prs))) (KB:Hid (∀ W A c,Lst pairK W A N prs→Calls Tryz.prog 102 #[.slice A N c] W fun e w'=>e=.returned (.tuple #[.string rb,.int .i64 0])∧Q W w')) (l1:List Fil) (room1 fuse1:Int) (off1:Bool) (l2:List Fil) (room2 fuse2:Int) (off2:Bool) (l3:List Fil) (room3 fuse3:Int) (off3:Bool) (er3:Int) (nm:ByteArray) (KN:Hid (∀ W,Q w W→Calls Tryz.prog 14 #[.int .i64 (run+1)] W fun e w'=>e=.returned (.string nm)∧Q W w')) (KL1:Hid (∀ W,Q w W→Dsk W A n c l→Calls Tryz.prog 104 #[dkv A n c room fuse off,.string nm,.string rb] W (RetD0 W (⟨l1,room1,fuse1,off1⟩,0)))) (mb:ByteArray) (KM:Hid (∀ W,Q w W→Calls Tryz.prog 16 #[.int .i64 (seg+1),.int .i64 (run+1)] W fun e w'=>e=.returned (.string mb)∧Q W w')) (KL2:Hid (∀ W A n c,Q w W→Dsk W A n c l1→Calls Tryz.prog 104 #[dkv A n c room1 fuse1 off1,.string ⟨#[109]⟩,.string mb] W (RetD0 W (⟨l2,room2,fuse2,off2⟩,0)))) (KS:Hid (∀ W A2 n2 c2,Q w W→Dsk W A2 n2 c2 l2→Calls Tryz.prog 105 #[dkv A2 n2 c2 room2 fuse2 off2,kvV ⟨A,n,c,B,bn,bc,C,cn,cc⟩ ⟨⟨l,room,fuse,off⟩,frm,seg,run,s,false⟩,.int .i64 (seg+1)] W (RetD0 W (⟨l3,room3,fuse3,off3⟩,er3)))) (h0:er3≠0) (HK:Hid (Kr w ⟨A,n,c,B,bn,bc,C,cn,cc⟩ ⟨⟨l,room,fuse,off⟩,frm,seg,run,s,false⟩)) (KW:Hid (∀ (e:Int) W,Q w W→Calls Tryz.prog 74 #[.int .i64 e] W fun ev w'=>ev=.returned (errV a b e)∧Q W w')) (y:Ks×Int) (HR:Hid (y=(⟨⟨l3,room3,fuse3,off3⟩,(seg+1),(seg+1),(run+1),s,false⟩,er3))) :
    Calls Tryz.prog 57 #[kvV ⟨A,n,c,B,bn,bc,C,cn,cc⟩ ⟨⟨l,room,fuse,off⟩,frm,seg,run,s,false⟩] w (RetE w a b y):=by
  obtain ⟨T,u,hve⟩:∃ T u,Value.iface T u=errV a b er3:=errV_is a b h0
  have KV:Hid (∀ W,Q w W→Calls Tryz.prog 74 #[.int .i64 er3] W fun ev w'=>ev=.returned (.iface T u)∧Q W w'):=Lib.hid (fun W q=>by rw [hve];exact KW.out er3 W q)
  have HV:=Lib.hid hve
  clear hve KW
  clear h0
  have Z:Hid (Kc w (w.heap.size+1) ⟨A,n,c,B,bn,bc,C,cn,cc⟩ ⟨⟨l,room,fuse,off⟩,frm,seg,run,s,false⟩ ((w.alloc (.cells #[.slice A n c,.int .i64 room,.int .i64 fuse,.bool off,.int .i64 frm,.int .i64 seg,.int .i64 run,.slice B bn bc,.slice C cn cc,.bool false] 32)).alloc (.cells #[.slice none 0 0,.int .i64 0,.int .i64 0,.bool false,.int .i64 0,.int .i64 0,.int .i64 0,.slice none 0 0,.slice none 0 0,.bool false] 32))):=Lib.hid (Kc.two HK.out)
  go_enter Tryz.func57,Tryz.ntmps57
  go_upto_region 1 with (fail)
  generalize ((w.alloc (.cells #[.slice A n c,.int .i64 room,.int .i64 fuse,.bool off,.int .i64 frm,.int .i64 seg,.int .i64 run,.slice B bn bc,.slice C cn cc,.bool false] 32)).alloc (.cells #[.slice none 0 0,.int .i64 0,.int .i64 0,.bool false,.int .i64 0,.int .i64 0,.int .i64 0,.slice none 0 0,.slice none 0 0,.bool false] 32))=W at Z ⊢
  clear HK
  obtain ⟨e0,e1,e2,e3,e4,e5,e6,e7,e8,e9⟩:=kget Z.out.kb.box
  obtain ⟨f0,f1,f2,f3,f4,f5,f6,f7,f8,f9⟩:=kfree Z.out.kb.box
  go_upto_region 6 with (fail)
  go_wp2_with fail
  refine (KP.out _ Z.out.q).mono ?_
  rintro e w1 ⟨A1,c1,rfl,o1,q1⟩
  have Z:=Lib.hid (Z.out.step q1)
  have O1:=Lib.hid o1.lst
  clear o1 q1
  go_wp2_with fail
  refine (KB.out _ A1 c1 O1.out).mono ?_
  rintro e w3 ⟨rfl,q3⟩
  have Z:=Lib.hid (Z.out.step q3)
  clear q3 O1 e0 e1 e2 e3 e4 e5 e6 e7 e8 e9 f0 f1 f2 f3 f4 f5 f6 f7 f8 f9
  obtain ⟨e0,e1,e2,e3,e4,e5,e6,e7,e8,e9⟩:=kget Z.out.kb.box
  obtain ⟨f0,f1,f2,f3,f4,f5,f6,f7,f8,f9⟩:=kfree Z.out.kb.box
  go_upto_region 10 with (fail)
  have Z:=Lib.hid (Ke.new Z.out)
  generalize w3.alloc (.cells #[.slice A n c,.int .i64 room,.int .i64 fuse,.bool off,.int .i64 frm,.int .i64 seg,.int .i64 run,.slice B bn bc,.slice C cn cc,.bool false] 32)=W2 at Z ⊢
  generalize w3.heap.size=gE at Z ⊢
  clear e0 e1 e2 e3 e4 e5 e6 e7 e8 e9 f0 f1 f2 f3 f4 f5 f6 f7 f8 f9
  obtain ⟨e0,e1,e2,e3,e4,e5,e6,e7,e8,e9⟩:=kget Z.out.kc.kb.box
  obtain ⟨f0,f1,f2,f3,f4,f5,f6,f7,f8,f9⟩:=kfree Z.out.kc.kb.box
  go_cut [7,8] (fun s7 s8 wx=>s7=.int .i64 (seg+1)∧s8=.int .i64 (run+1)∧Q W2 wx)
  case first =>
   refine wp_region_held_drew (S:=Q W2) (by kernel_rfl) ?szz181 (fun hHeld=>?rzz181)
   case szz181 =>
    exact (Q.refl W2).drew
   generalize hgen:W2.drew=D0 at hHeld ⊢
   clear hgen
   refine takeH 0 ?v182 ?y182 ?_
   case y182=>intro w hSw;obtain ⟨z0,z1,z2,z3,z4,z5,z6,z7,z8,z9⟩:=box10 hSw e0 e1 e2 e3 e4 e5 e6 e7 e8 e9;clear hSw;go_simp;try with_reducible rfl
   refine takeH 1 ?v183 ?y183 ?_
   case y183=>intro w hSw;obtain ⟨z0,z1,z2,z3,z4,z5,z6,z7,z8,z9⟩:=box10 hSw e0 e1 e2 e3 e4 e5 e6 e7 e8 e9;clear hSw;go_simp;try with_reducible rfl
   refine takeH 2 ?v184 ?y184 ?_
   case y184=>intro w hSw;obtain ⟨z0,z1,z2,z3,z4,z5,z6,z7,z8,z9⟩:=box10 hSw e0 e1 e2 e3 e4 e5 e6 e7 e8 e9;clear hSw;go_simp;try with_reducible rfl
   refine wpAnyH_ready (rs:=[3,6]) (by kernel_rfl) (by simp) ?_
   refine consH (fun K hK=>?kzz200) ?_
   case kzz200 =>
    go_simp
    refine hK.out _ _ ?Szz200 (fun hHeld=>?_)
    case Szz200 =>
     exact hHeld
    clear hK K
    try simp only [Act.put,sA,sB,sC]
    refine wpAnyH_ready (rs:=[4,6]) (by kernel_rfl) (by simp) ?_
    refine consH (fun K hK=>?kzz194) ?_
    case kzz194 =>
     have hSw:=hHeld
     obtain ⟨z0,z1,z2,z3,z4,z5,z6,z7,z8,z9⟩:=box10 hSw e0 e1 e2 e3 e4 e5 e6 e7 e8 e9;clear hSw
     go_simp
     refine hK.out _ _ ?Szz194 (fun hHeld=>?_)
     case Szz194 =>
      exact hHeld
     clear hK K
     try simp only [Act.put,sA,sB,sC]
     refine wpAnyH_ready (rs:=[5,6]) (by kernel_rfl) (by simp) ?_
     refine consH (fun K hK=>?kzz189) ?_
     case kzz189 =>
      go_simp
      refine hK.out _ _ ?Szz189 (fun hHeld=>?_)
      case Szz189 =>
       exact hHeld
      clear hK K
      try simp only [Act.put,sA,sB,sC]
      refine takeH 6 ?v185 ?y185 ?_
      case y185=>intro w hSw;obtain ⟨z0,z1,z2,z3,z4,z5,z6,z7,z8,z9⟩:=box10 hSw e0 e1 e2 e3 e4 e5 e6 e7 e8 e9;clear hSw;go_simp;try with_reducible rfl
      refine takeH 7 ?v186 ?y186 ?_
      case y186=>intro w hSw;obtain ⟨z0,z1,z2,z3,z4,z5,z6,z7,z8,z9⟩:=box10 hSw e0 e1 e2 e3 e4 e5 e6 e7 e8 e9;clear hSw;go_simp;try with_reducible rfl
      refine wpAnyH_done (by kernel_rfl) ?_ _
      go_wp2_with fail
      go_meet
      exact ⟨by rw [IntWalk.i64_in (seg+1) (by omega)],by rw [IntWalk.i64_in (run+1) (by omega)],hHeld⟩
     refine consH (fun K hK=>?_) AllReadyH.nil
     go_simp
     refine hK.out _ _ ?Szz190 (fun hHeld=>?_)
     case Szz190 =>
      exact hHeld
     clear hK K
     try simp only [Act.put,sA,sB,sC]
     refine takeH 5 ?v187 ?y187 ?_
     case y187=>intro w hSw;obtain ⟨z0,z1,z2,z3,z4,z5,z6,z7,z8,z9⟩:=box10 hSw e0 e1 e2 e3 e4 e5 e6 e7 e8 e9;clear hSw;go_simp;try with_reducible rfl
     refine takeH 7 ?v188 ?y188 ?_
     case y188=>intro w hSw;obtain ⟨z0,z1,z2,z3,z4,z5,z6,z7,z8,z9⟩:=box10 hSw e0 e1 e2 e3 e4 e5 e6 e7 e8 e9;clear hSw;go_simp;try with_reducible rfl
     refine wpAnyH_done (by kernel_rfl) ?_ _
     go_wp2_with fail
     go_meet
     exact ⟨by rw [IntWalk.i64_in (seg+1) (by omega)],by rw [IntWalk.i64_in (run+1) (by omega)],hHeld⟩
    refine consH (fun K hK=>?_) AllReadyH.nil
    go_simp
    refine hK.out _ _ ?Szz195 (fun hHeld=>?_)
    case Szz195 =>
     exact hHeld
    clear hK K
    try simp only [Act.put,sA,sB,sC]
    refine takeH 4 ?v191 ?y191 ?_
    case y191=>intro w hSw;obtain ⟨z0,z1,z2,z3,z4,z5,z6,z7,z8,z9⟩:=box10 hSw e0 e1 e2 e3 e4 e5 e6 e7 e8 e9;clear hSw;go_simp;try with_reducible rfl
    refine takeH 5 ?v192 ?y192 ?_
    case y192=>intro w hSw;obtain ⟨z0,z1,z2,z3,z4,z5,z6,z7,z8,z9⟩:=box10 hSw e0 e1 e2 e3 e4 e5 e6 e7 e8 e9;clear hSw;go_simp;try with_reducible rfl
    refine takeH 7 ?v193 ?y193 ?_
    case y193=>intro w hSw;obtain ⟨z0,z1,z2,z3,z4,z5,z6,z7,z8,z9⟩:=box10 hSw e0 e1 e2 e3 e4 e5 e6 e7 e8 e9;clear hSw;go_simp;try with_reducible rfl
    refine wpAnyH_done (by kernel_rfl) ?_ _
    go_wp2_with fail
    go_meet
    exact ⟨by rw [IntWalk.i64_in (seg+1) (by omega)],by rw [IntWalk.i64_in (run+1) (by omega)],hHeld⟩
   refine consH (fun K hK=>?_) AllReadyH.nil
   go_simp
   refine hK.out _ _ ?Szz201 (fun hHeld=>?_)
   case Szz201 =>
    exact hHeld
   clear hK K
   try simp only [Act.put,sA,sB,sC]
   refine takeH 3 ?v196 ?y196 ?_
   case y196=>intro w hSw;obtain ⟨z0,z1,z2,z3,z4,z5,z6,z7,z8,z9⟩:=box10 hSw e0 e1 e2 e3 e4 e5 e6 e7 e8 e9;clear hSw;go_simp;try with_reducible rfl
   refine takeH 4 ?v197 ?y197 ?_
   case y197=>intro w hSw;obtain ⟨z0,z1,z2,z3,z4,z5,z6,z7,z8,z9⟩:=box10 hSw e0 e1 e2 e3 e4 e5 e6 e7 e8 e9;clear hSw;go_simp;try with_reducible rfl
   refine takeH 5 ?v198 ?y198 ?_
   case y198=>intro w hSw;obtain ⟨z0,z1,z2,z3,z4,z5,z6,z7,z8,z9⟩:=box10 hSw e0 e1 e2 e3 e4 e5 e6 e7 e8 e9;clear hSw;go_simp;try with_reducible rfl
   refine takeH 7 ?v199 ?y199 ?_
   case y199=>intro w hSw;obtain ⟨z0,z1,z2,z3,z4,z5,z6,z7,z8,z9⟩:=box10 hSw e0 e1 e2 e3 e4 e5 e6 e7 e8 e9;clear hSw;go_simp;try with_reducible rfl
   refine wpAnyH_done (by kernel_rfl) ?_ _
   go_wp2_with fail
   go_meet
   exact ⟨by rw [IntWalk.i64_in (seg+1) (by omega)],by rw [IntWalk.i64_in (run+1) (by omega)],hHeld⟩
  case rest =>
   obtain ⟨rfl,rfl,qc⟩:=hcut
   have Z:=Lib.hid (Z.out.step qc)
   clear qc e0 e1 e2 e3 e4 e5 e6 e7 e8 e9 f0 f1 f2 f3 f4 f5 f6 f7 f8 f9
   generalize wc=W3 at Z ⊢
   obtain ⟨e0,e1,e2,e3,e4,e5,e6,e7,e8,e9⟩:=kget Z.out.kc.kb.box
   obtain ⟨f0,f1,f2,f3,f4,f5,f6,f7,f8,f9⟩:=kfree Z.out.kc.kb.box
   go_upto_region 11 with (fail)
   go_cut [5] (fun s5 wx=>∃ (A4:Option Addr) (n4 c4:Nat),s5=.int .i64 0∧Ke w ⟨A4,n4,c4,B,bn,bc,C,cn,cc⟩ ⟨⟨l1,room1,fuse1,off1⟩,frm,seg,run,s,false⟩ gE ⟨A,n,c,B,bn,bc,C,cn,cc⟩ ⟨⟨l,room,fuse,off⟩,frm,seg,run,s,false⟩ wx)
   case first =>
    refine wp_region_heldL 10 (Q W3) (by kernel_rfl) ?szz161 (fun hHeld=>?rzz161)
    case szz161 =>
     exact (Q.refl W3).drew
    generalize hgen:W3.drew=D0 at hHeld ⊢
    clear hgen
    refine takeL 0 ?v162 ?y162 ?_
    case y162=>intro w hSw;obtain ⟨z0,z1,z2,z3,z4,z5,z6,z7,z8,z9⟩:=box10 hSw e0 e1 e2 e3 e4 e5 e6 e7 e8 e9;clear hSw;go_simp;try with_reducible rfl
    refine takeL 1 ?v163 ?y163 ?_
    case y163=>intro w hSw;obtain ⟨z0,z1,z2,z3,z4,z5,z6,z7,z8,z9⟩:=box10 hSw e0 e1 e2 e3 e4 e5 e6 e7 e8 e9;clear hSw;go_simp;try with_reducible rfl
    refine takeL 2 ?v164 ?y164 ?_
    case y164=>intro w hSw;obtain ⟨z0,z1,z2,z3,z4,z5,z6,z7,z8,z9⟩:=box10 hSw e0 e1 e2 e3 e4 e5 e6 e7 e8 e9;clear hSw;go_simp;try with_reducible rfl
    refine takeL 4 ?v165 ?y165 ?_
    case y165=>intro w hSw;obtain ⟨z0,z1,z2,z3,z4,z5,z6,z7,z8,z9⟩:=box10 hSw e0 e1 e2 e3 e4 e5 e6 e7 e8 e9;clear hSw;go_simp;try with_reducible rfl
    refine oneL 3 (fun K hK=>?_)
    go_simp
    refine (KN.out _ (Z.out.kc.q.trans hHeld)).mono ?_
    rintro e u1 ⟨rfl,q1⟩
    go_wp2_with fail
    refine hK.out _ _ ?Szz180 (fun hHeld=>?_)
    case Szz180 =>
     exact hHeld.trans q1
    clear hK K
    try simp only [Act.put,sA,sB,sC]
    refine oneL 5 (fun K hK=>?_)
    go_simp
    refine (KL1.out _ (Z.out.kc.q.trans hHeld) ((Z.out.kc.kb.is.dsk).q hHeld)).mono ?_
    rintro e u2 ⟨A4,n4,c4,rfl,hd4,q2⟩
    have HD:=Lib.hid hd4
    go_wp2_with fail
    refine hK.out _ _ ?Szz179 (fun hHeld=>?_)
    case Szz179 =>
     exact hHeld.trans q2
    clear hK K
    try simp only [Act.put,sA,sB,sC]
    refine takeL 6 ?v166 ?y166 ?_
    case y166=>intro w hSw;obtain ⟨z0,z1,z2,z3,z4,z5,z6,z7,z8,z9⟩:=box10 hSw e0 e1 e2 e3 e4 e5 e6 e7 e8 e9;clear hSw;go_simp;try with_reducible rfl
    refine takeL 7 ?v167 ?y167 ?_
    case y167=>intro w hSw;obtain ⟨z0,z1,z2,z3,z4,z5,z6,z7,z8,z9⟩:=box10 hSw e0 e1 e2 e3 e4 e5 e6 e7 e8 e9;clear hSw;go_simp;try with_reducible rfl
    refine wpAnyL_ready (rs:=[8,9]) (by kernel_rfl) (by simp) ?_
    refine consL (fun K hK=>?kzz177) ?_
    case kzz177 =>
     go_simp
     refine hK.out _ _ ?Szz177 (fun hHeld=>?_)
     case Szz177 =>
      exact hHeld
     clear hK K
     try simp only [Act.put,sA,sB,sC]
     refine takeL 9 ?v168 ?y168 ?_
     case y168=>intro w hSw;obtain ⟨z0,z1,z2,z3,z4,z5,z6,z7,z8,z9⟩:=box10 hSw e0 e1 e2 e3 e4 e5 e6 e7 e8 e9;clear hSw;go_simp;try with_reducible rfl
     refine oneK (fun K hK=>?_)
     have HZ:=Lib.hid hHeld
     obtain ⟨g0,g1,g2,g3,g4,g5,g6,g7,g8,g9⟩:=kget (Z.out.step hHeld).kc.kb.box
     obtain ⟨i0,i1,i2,i3,i4,i5,i6,i7,i8,i9⟩:=kfree (Z.out.step hHeld).kc.kb.box
     go_simp
     refine hK.out _ _ ?_
     clear hK K
     try simp only [Act.put,sA,sB,sC]
     refine takH 11 ?_
     refine wpAnyH_done (by kernel_rfl) ?_ _
     have ZZ:=Lib.hid ((Z.out.step HZ.out).disk (d2:=⟨l1,room1,fuse1,off1⟩) HD.out)
     clear Z HZ HD e0 e1 e2 e3 e4 e5 e6 e7 e8 e9 f0 f1 f2 f3 f4 f5 f6 f7 f8 f9 g0 g1 g2 g3 g4 g5 g6 g7 g8 g9 i0 i1 i2 i3 i4 i5 i6 i7 i8 i9
     go_wp2_with fail
     go_meet
     exact ⟨A4,n4,c4,rfl,ZZ.out⟩
    refine consL (fun K hK=>?_) AllReadyL.nil
    go_simp
    refine hK.out _ _ ?Szz178 (fun hHeld=>?_)
    case Szz178 =>
     exact hHeld
    clear hK K
    try simp only [Act.put,sA,sB,sC]
    refine wpAnyL_ready (rs:=[8,10]) (by kernel_rfl) (by simp) ?_
    refine consL (fun K hK=>?kzz175) ?_
    case kzz175 =>
     go_simp
     refine hK.out _ _ ?Szz175 (fun hHeld=>?_)
     case Szz175 =>
      exact hHeld
     clear hK K
     try simp only [Act.put,sA,sB,sC]
     refine oneK (fun K hK=>?_)
     have HZ:=Lib.hid hHeld
     obtain ⟨g0,g1,g2,g3,g4,g5,g6,g7,g8,g9⟩:=kget (Z.out.step hHeld).kc.kb.box
     obtain ⟨i0,i1,i2,i3,i4,i5,i6,i7,i8,i9⟩:=kfree (Z.out.step hHeld).kc.kb.box
     go_simp
     refine hK.out _ _ ?_
     clear hK K
     try simp only [Act.put,sA,sB,sC]
     refine takH 11 ?_
     refine wpAnyH_done (by kernel_rfl) ?_ _
     have ZZ:=Lib.hid ((Z.out.step HZ.out).disk (d2:=⟨l1,room1,fuse1,off1⟩) HD.out)
     clear Z HZ HD e0 e1 e2 e3 e4 e5 e6 e7 e8 e9 f0 f1 f2 f3 f4 f5 f6 f7 f8 f9 g0 g1 g2 g3 g4 g5 g6 g7 g8 g9 i0 i1 i2 i3 i4 i5 i6 i7 i8 i9
     go_wp2_with fail
     go_meet
     exact ⟨A4,n4,c4,rfl,ZZ.out⟩
    refine consK (fun K hK=>?_) AllReadyL.nil
    have HZ:=Lib.hid hHeld
    obtain ⟨g0,g1,g2,g3,g4,g5,g6,g7,g8,g9⟩:=kget (Z.out.step hHeld).kc.kb.box
    obtain ⟨i0,i1,i2,i3,i4,i5,i6,i7,i8,i9⟩:=kfree (Z.out.step hHeld).kc.kb.box
    go_simp
    refine hK.out _ _ ?_
    clear hK K
    try simp only [Act.put,sA,sB,sC]
    refine takH 8 ?_
    refine takH 11 ?_
    refine wpAnyH_done (by kernel_rfl) ?_ _
    have ZZ:=Lib.hid ((Z.out.step HZ.out).disk (d2:=⟨l1,room1,fuse1,off1⟩) HD.out)
    clear Z HZ HD e0 e1 e2 e3 e4 e5 e6 e7 e8 e9 f0 f1 f2 f3 f4 f5 f6 f7 f8 f9 g0 g1 g2 g3 g4 g5 g6 g7 g8 g9 i0 i1 i2 i3 i4 i5 i6 i7 i8 i9
    go_wp2_with fail
    go_meet
    exact ⟨A4,n4,c4,rfl,ZZ.out⟩
   case rest =>
    obtain ⟨A4,n4,c4,rfl,zz⟩:=hcut
    clear Z e0 e1 e2 e3 e4 e5 e6 e7 e8 e9 f0 f1 f2 f3 f4 f5 f6 f7 f8 f9
    have Z:=Lib.hid zz
    clear zz
    generalize wc=W4 at Z ⊢
    obtain ⟨e0,e1,e2,e3,e4,e5,e6,e7,e8,e9⟩:=kget Z.out.kc.kb.box
    obtain ⟨f0,f1,f2,f3,f4,f5,f6,f7,f8,f9⟩:=kfree Z.out.kc.kb.box
    go_upto_region 13 with (fail)
    go_cut [5] (fun s5 wx=>∃ (A5:Option Addr) (n5 c5:Nat),s5=.int .i64 0∧Ke w ⟨A5,n5,c5,B,bn,bc,C,cn,cc⟩ ⟨⟨l2,room2,fuse2,off2⟩,frm,seg,run,s,false⟩ gE ⟨A,n,c,B,bn,bc,C,cn,cc⟩ ⟨⟨l,room,fuse,off⟩,frm,seg,run,s,false⟩ wx)
    case first =>
     refine wp_region_heldL 10 (Q W4) (by kernel_rfl) ?szz141 (fun hHeld=>?rzz141)
     case szz141 =>
      exact (Q.refl W4).drew
     generalize hgen:W4.drew=D0 at hHeld ⊢
     clear hgen
     refine takeL 0 ?v142 ?y142 ?_
     case y142=>intro w hSw;obtain ⟨z0,z1,z2,z3,z4,z5,z6,z7,z8,z9⟩:=box10 hSw e0 e1 e2 e3 e4 e5 e6 e7 e8 e9;clear hSw;go_simp;try with_reducible rfl
     refine takeL 1 ?v143 ?y143 ?_
     case y143=>intro w hSw;obtain ⟨z0,z1,z2,z3,z4,z5,z6,z7,z8,z9⟩:=box10 hSw e0 e1 e2 e3 e4 e5 e6 e7 e8 e9;clear hSw;go_simp;try with_reducible rfl
     refine takeL 2 ?v144 ?y144 ?_
     case y144=>intro w hSw;obtain ⟨z0,z1,z2,z3,z4,z5,z6,z7,z8,z9⟩:=box10 hSw e0 e1 e2 e3 e4 e5 e6 e7 e8 e9;clear hSw;go_simp;try with_reducible rfl
     refine takeL 3 ?v145 ?y145 ?_
     case y145=>intro w hSw;obtain ⟨z0,z1,z2,z3,z4,z5,z6,z7,z8,z9⟩:=box10 hSw e0 e1 e2 e3 e4 e5 e6 e7 e8 e9;clear hSw;go_simp;try with_reducible rfl
     refine oneL 4 (fun K hK=>?_)
     go_simp
     refine (KM.out _ (Z.out.kc.q.trans hHeld)).mono ?_
     rintro e u1 ⟨rfl,q1⟩
     go_wp2_with fail
     refine hK.out _ _ ?Szz160 (fun hHeld=>?_)
     case Szz160 =>
      exact hHeld.trans q1
     clear hK K
     try simp only [Act.put,sA,sB,sC]
     refine oneL 5 (fun K hK=>?_)
     go_simp
     refine (KL2.out _ A4 n4 c4 (Z.out.kc.q.trans hHeld) ((Z.out.kc.kb.is.dsk).q hHeld)).mono ?_
     rintro e u2 ⟨A5,n5,c5,rfl,hd5,q2⟩
     have HD:=Lib.hid hd5
     go_wp2_with fail
     refine hK.out _ _ ?Szz159 (fun hHeld=>?_)
     case Szz159 =>
      exact hHeld.trans q2
     clear hK K
     try simp only [Act.put,sA,sB,sC]
     refine takeL 6 ?v146 ?y146 ?_
     case y146=>intro w hSw;obtain ⟨z0,z1,z2,z3,z4,z5,z6,z7,z8,z9⟩:=box10 hSw e0 e1 e2 e3 e4 e5 e6 e7 e8 e9;clear hSw;go_simp;try with_reducible rfl
     refine takeL 7 ?v147 ?y147 ?_
     case y147=>intro w hSw;obtain ⟨z0,z1,z2,z3,z4,z5,z6,z7,z8,z9⟩:=box10 hSw e0 e1 e2 e3 e4 e5 e6 e7 e8 e9;clear hSw;go_simp;try with_reducible rfl
     refine wpAnyL_ready (rs:=[8,9]) (by kernel_rfl) (by simp) ?_
     refine consL (fun K hK=>?kzz157) ?_
     case kzz157 =>
      go_simp
      refine hK.out _ _ ?Szz157 (fun hHeld=>?_)
      case Szz157 =>
       exact hHeld
      clear hK K
      try simp only [Act.put,sA,sB,sC]
      refine takeL 9 ?v148 ?y148 ?_
      case y148=>intro w hSw;obtain ⟨z0,z1,z2,z3,z4,z5,z6,z7,z8,z9⟩:=box10 hSw e0 e1 e2 e3 e4 e5 e6 e7 e8 e9;clear hSw;go_simp;try with_reducible rfl
      refine oneK (fun K hK=>?_)
      have HZ:=Lib.hid hHeld
      obtain ⟨g0,g1,g2,g3,g4,g5,g6,g7,g8,g9⟩:=kget (Z.out.step hHeld).kc.kb.box
      obtain ⟨i0,i1,i2,i3,i4,i5,i6,i7,i8,i9⟩:=kfree (Z.out.step hHeld).kc.kb.box
      go_simp
      refine hK.out _ _ ?_
      clear hK K
      try simp only [Act.put,sA,sB,sC]
      refine takH 11 ?_
      refine wpAnyH_done (by kernel_rfl) ?_ _
      have ZZ:=Lib.hid ((Z.out.step HZ.out).disk (d2:=⟨l2,room2,fuse2,off2⟩) HD.out)
      clear Z HZ HD e0 e1 e2 e3 e4 e5 e6 e7 e8 e9 f0 f1 f2 f3 f4 f5 f6 f7 f8 f9 g0 g1 g2 g3 g4 g5 g6 g7 g8 g9 i0 i1 i2 i3 i4 i5 i6 i7 i8 i9
      go_wp2_with fail
      go_meet
      exact ⟨A5,n5,c5,rfl,ZZ.out⟩
     refine consL (fun K hK=>?_) AllReadyL.nil
     go_simp
     refine hK.out _ _ ?Szz158 (fun hHeld=>?_)
     case Szz158 =>
      exact hHeld
     clear hK K
     try simp only [Act.put,sA,sB,sC]
     refine wpAnyL_ready (rs:=[8,10]) (by kernel_rfl) (by simp) ?_
     refine consL (fun K hK=>?kzz155) ?_
     case kzz155 =>
      go_simp
      refine hK.out _ _ ?Szz155 (fun hHeld=>?_)
      case Szz155 =>
       exact hHeld
      clear hK K
      try simp only [Act.put,sA,sB,sC]
      refine oneK (fun K hK=>?_)
      have HZ:=Lib.hid hHeld
      obtain ⟨g0,g1,g2,g3,g4,g5,g6,g7,g8,g9⟩:=kget (Z.out.step hHeld).kc.kb.box
      obtain ⟨i0,i1,i2,i3,i4,i5,i6,i7,i8,i9⟩:=kfree (Z.out.step hHeld).kc.kb.box
      go_simp
      refine hK.out _ _ ?_
      clear hK K
      try simp only [Act.put,sA,sB,sC]
      refine takH 11 ?_
      refine wpAnyH_done (by kernel_rfl) ?_ _
      have ZZ:=Lib.hid ((Z.out.step HZ.out).disk (d2:=⟨l2,room2,fuse2,off2⟩) HD.out)
      clear Z HZ HD e0 e1 e2 e3 e4 e5 e6 e7 e8 e9 f0 f1 f2 f3 f4 f5 f6 f7 f8 f9 g0 g1 g2 g3 g4 g5 g6 g7 g8 g9 i0 i1 i2 i3 i4 i5 i6 i7 i8 i9
      go_wp2_with fail
      go_meet
      exact ⟨A5,n5,c5,rfl,ZZ.out⟩
     refine consK (fun K hK=>?_) AllReadyL.nil
     have HZ:=Lib.hid hHeld
     obtain ⟨g0,g1,g2,g3,g4,g5,g6,g7,g8,g9⟩:=kget (Z.out.step hHeld).kc.kb.box
     obtain ⟨i0,i1,i2,i3,i4,i5,i6,i7,i8,i9⟩:=kfree (Z.out.step hHeld).kc.kb.box
     go_simp
     refine hK.out _ _ ?_
     clear hK K
     try simp only [Act.put,sA,sB,sC]
     refine takH 8 ?_
     refine takH 11 ?_
     refine wpAnyH_done (by kernel_rfl) ?_ _
     have ZZ:=Lib.hid ((Z.out.step HZ.out).disk (d2:=⟨l2,room2,fuse2,off2⟩) HD.out)
     clear Z HZ HD e0 e1 e2 e3 e4 e5 e6 e7 e8 e9 f0 f1 f2 f3 f4 f5 f6 f7 f8 f9 g0 g1 g2 g3 g4 g5 g6 g7 g8 g9 i0 i1 i2 i3 i4 i5 i6 i7 i8 i9
     go_wp2_with fail
     go_meet
     exact ⟨A5,n5,c5,rfl,ZZ.out⟩
    case rest =>
     obtain ⟨A5,n5,c5,rfl,zz⟩:=hcut
     clear Z e0 e1 e2 e3 e4 e5 e6 e7 e8 e9 f0 f1 f2 f3 f4 f5 f6 f7 f8 f9
     have Z:=Lib.hid zz
     clear zz
     generalize wc=W5 at Z ⊢
     obtain ⟨e0,e1,e2,e3,e4,e5,e6,e7,e8,e9⟩:=kget Z.out.kc.kb.box
     obtain ⟨f0,f1,f2,f3,f4,f5,f6,f7,f8,f9⟩:=kfree Z.out.kc.kb.box
     go_upto_region 16 with (fail)
     have ZM:=Lib.hid (Z.out.marks (seg+1) (seg+1) (run+1))
     clear Z e0 e1 e2 e3 e4 e5 e6 e7 e8 e9 f0 f1 f2 f3 f4 f5 f6 f7 f8 f9
     generalize ((W5.setCell ⟨w.heap.size,4,none⟩ (.int .i64 (seg+1))).setCell ⟨w.heap.size,5,none⟩ (.int .i64 (seg+1))).setCell ⟨w.heap.size,6,none⟩ (.int .i64 (run+1))=W7 at ZM ⊢
     have Z:=ZM
     clear ZM
     obtain ⟨e0,e1,e2,e3,e4,e5,e6,e7,e8,e9⟩:=kget Z.out.kc.kb.box
     obtain ⟨f0,f1,f2,f3,f4,f5,f6,f7,f8,f9⟩:=kfree Z.out.kc.kb.box
     obtain ⟨g0,g1,g2,g3,g4,g5,g6,g7,g8,g9⟩:=kget Z.out.eb
     go_wp2_with fail
     refine (KS.out _ A5 n5 c5 Z.out.kc.q Z.out.kc.kb.is.dsk).mono ?_
     rintro e w8 ⟨A6,n6,c6,rfl,hd6,q8⟩
     have ZZ:=Lib.hid ((Z.out.step q8).disk (d2:=⟨l3,room3,fuse3,off3⟩) hd6)
     clear e0 e1 e2 e3 e4 e5 e6 e7 e8 e9 f0 f1 f2 f3 f4 f5 f6 f7 f8 f9 g0 g1 g2 g3 g4 g5 g6 g7 g8 g9
     obtain ⟨e0,e1,e2,e3,e4,e5,e6,e7,e8,e9⟩:=kget (Z.out.step q8).kc.kb.box
     obtain ⟨f0,f1,f2,f3,f4,f5,f6,f7,f8,f9⟩:=kfree (Z.out.step q8).kc.kb.box
     clear Z hd6 q8
     go_upto_region 17 with (fail)
     generalize ((((w8.setCell ⟨w.heap.size,0,none⟩ (.slice A6 n6 c6)).setCell ⟨w.heap.size,1,none⟩ (.int .i64 room3)).setCell ⟨w.heap.size,2,none⟩ (.int .i64 fuse3)).setCell ⟨w.heap.size,3,none⟩ (.bool off3))=W8 at ZZ ⊢
     have Z:=ZZ
     clear ZZ e0 e1 e2 e3 e4 e5 e6 e7 e8 e9 f0 f1 f2 f3 f4 f5 f6 f7 f8 f9
     have Y:=Lib.hid Z.out.kc
     clear Z
     obtain ⟨e0,e1,e2,e3,e4,e5,e6,e7,e8,e9⟩:=kget Y.out.kb.box
     obtain ⟨f0,f1,f2,f3,f4,f5,f6,f7,f8,f9⟩:=kfree Y.out.kb.box
     refine wp_region_held_drew (S:=fun w'=>Bx w' w.heap.size (kL ⟨A6,n6,c6,B,bn,bc,C,cn,cc⟩ ⟨⟨l3,room3,fuse3,off3⟩,(seg+1),(seg+1),(run+1),s,false⟩)) (by kernel_rfl) ?szz135 (fun hHeld=>?rzz135)
     case szz135 =>
      exact Y.out.kb.box.drew
     refine takeH 0 ?v136 ?y136 ?_
     case y136=>intro w hSw;obtain ⟨s0,s1,s2,s3,s4,s5,s6,s7,s8,s9⟩:=kget hSw;go_simp;try with_reducible rfl
     refine tadH 1 ?_
     refine oneH 2 (fun K hK=>?_)
     go_simp
     refine (KV.out _ (Y.out.q.trans (Q.refl _).drew)).mono ?_
     rintro e w4 ⟨rfl,q4⟩
     have V:=Lib.hid (Y.out.step ((Q.refl _).drew.trans q4))
     have F:Hid (RetE w a b (⟨⟨l3,room3,fuse3,off3⟩,(seg+1),(seg+1),(run+1),s,false⟩,er3) (.returned (.tuple #[kvV ⟨A6,n6,c6,B,bn,bc,C,cn,cc⟩ ⟨⟨l3,room3,fuse3,off3⟩,(seg+1),(seg+1),(run+1),s,false⟩,.iface T u])) ((((((((((w4.setCell ⟨w.heap.size+1,0,none⟩ (.slice A6 n6 c6)).setCell ⟨w.heap.size+1,1,none⟩ (.int .i64 room3)).setCell ⟨w.heap.size+1,2,none⟩ (.int .i64 fuse3)).setCell ⟨w.heap.size+1,3,none⟩ (.bool off3)).setCell ⟨w.heap.size+1,4,none⟩ (.int .i64 (seg+1))).setCell ⟨w.heap.size+1,5,none⟩ (.int .i64 (seg+1))).setCell ⟨w.heap.size+1,6,none⟩ (.int .i64 (run+1))).setCell ⟨w.heap.size+1,7,none⟩ (.slice B bn bc)).setCell ⟨w.heap.size+1,8,none⟩ (.slice C cn cc)).setCell ⟨w.heap.size+1,9,none⟩ (.bool false))):=Lib.hid (by rw [HV.out];exact V.out.finE V.out.kb.is a b er3)
     have R:Hid (Bx ((((((((((w4.setCell ⟨w.heap.size+1,0,none⟩ (.slice A6 n6 c6)).setCell ⟨w.heap.size+1,1,none⟩ (.int .i64 room3)).setCell ⟨w.heap.size+1,2,none⟩ (.int .i64 fuse3)).setCell ⟨w.heap.size+1,3,none⟩ (.bool off3)).setCell ⟨w.heap.size+1,4,none⟩ (.int .i64 (seg+1))).setCell ⟨w.heap.size+1,5,none⟩ (.int .i64 (seg+1))).setCell ⟨w.heap.size+1,6,none⟩ (.int .i64 (run+1))).setCell ⟨w.heap.size+1,7,none⟩ (.slice B bn bc)).setCell ⟨w.heap.size+1,8,none⟩ (.slice C cn cc)).setCell ⟨w.heap.size+1,9,none⟩ (.bool false)) (w.heap.size+1) (kL ⟨A6,n6,c6,B,bn,bc,C,cn,cc⟩ ⟨⟨l3,room3,fuse3,off3⟩,(seg+1),(seg+1),(run+1),s,false⟩)):=Lib.hid (V.out.boxR ⟨A6,n6,c6,B,bn,bc,C,cn,cc⟩ ⟨⟨l3,room3,fuse3,off3⟩,(seg+1),(seg+1),(run+1),s,false⟩)
     have U:Hid (Bx ((((((((((w4.setCell ⟨w.heap.size+1,0,none⟩ (.slice A6 n6 c6)).setCell ⟨w.heap.size+1,1,none⟩ (.int .i64 room3)).setCell ⟨w.heap.size+1,2,none⟩ (.int .i64 fuse3)).setCell ⟨w.heap.size+1,3,none⟩ (.bool off3)).setCell ⟨w.heap.size+1,4,none⟩ (.int .i64 (seg+1))).setCell ⟨w.heap.size+1,5,none⟩ (.int .i64 (seg+1))).setCell ⟨w.heap.size+1,6,none⟩ (.int .i64 (run+1))).setCell ⟨w.heap.size+1,7,none⟩ (.slice B bn bc)).setCell ⟨w.heap.size+1,8,none⟩ (.slice C cn cc)).setCell ⟨w.heap.size+1,9,none⟩ (.bool false)) w.heap.size (kL ⟨A6,n6,c6,B,bn,bc,C,cn,cc⟩ ⟨⟨l3,room3,fuse3,off3⟩,(seg+1),(seg+1),(run+1),s,false⟩)):=Lib.hid (V.out.kb.box.far_stk (by have:=V.out.lt;omega) (us10 ⟨A6,n6,c6,B,bn,bc,C,cn,cc⟩ ⟨⟨l3,room3,fuse3,off3⟩,(seg+1),(seg+1),(run+1),s,false⟩))
     go_wp2_with fail
     refine hK.out _ _ ?Szz140 (fun hHeld=>?_)
     case Szz140 =>
      exact V.out.kb.box
     clear hK K
     try simp only [Act.put,sA,sB,sC]
     refine oneH 3 (fun K hK=>?_)
     obtain ⟨g0,g1,g2,g3,g4,g5,g6,g7,g8,g9⟩:=kfree V.out.res
     obtain ⟨i0,i1,i2,i3,i4,i5,i6,i7,i8,i9⟩:=kget V.out.res
     go_simp
     refine hK.out _ _ ?Szz139 (fun hHeld=>?_)
     case Szz139 =>
      exact U.out
     clear hK K
     try simp only [Act.put,sA,sB,sC]
     refine tadH 4 ?_
     refine wpAnyH_done (by kernel_rfl) ?_ _
     clear V Y q4 U
     go_wp2
     (try rw [Exit.noGoto_ret])
     obtain ⟨r0,r1,r2,r3,r4,r5,r6,r7,r8,r9⟩:=kget R.out
     refine bodyPost_ret (v:=.tuple #[kvV ⟨A6,n6,c6,B,bn,bc,C,cn,cc⟩ ⟨⟨l3,room3,fuse3,off3⟩,(seg+1),(seg+1),(run+1),s,false⟩,.iface T u]) (by simp [results,Tryz.results57,go_sem,r0,r1,r2,r3,r4,r5,r6,r7,r8,r9]) rfl ?_
     rw [HR.out]
     exact F.out
set_option maxHeartbeats 8000000 in
theorem check_ok {A:Option Addr} {n c:Nat} {B:Option Addr} {bn bc:Nat} {C:Option Addr} {cn cc:Nat} {l:List Fil} {room fuse:Int} {off:Bool} {frm seg run:Int} {s:Bm.Sta} (w:World) (a b:Addr) (hs:¬ 1000000≤seg) (hs0:-1000000≤seg) (hr:¬ 1000000≤run) (hr0:-1000000≤run) (prs:List Prm.Pr) (rb:ByteArray) (N:Nat) (KP:Hid (∀ W,Q w W→Calls Tryz.prog 103 #[staV B bn bc C cn cc] W (RetL pairK W N prs))) (KB:Hid (∀ W A c,Lst pairK W A N prs→Calls Tryz.prog 102 #[.slice A N c] W fun e w'=>e=.returned (.tuple #[.string rb,.int .i64 0])∧Q W w')) (l1:List Fil) (room1 fuse1:Int) (off1:Bool) (l2:List Fil) (room2 fuse2:Int) (off2:Bool) (l3:List Fil) (room3 fuse3:Int) (off3:Bool) (nm:ByteArray) (KN:Hid (∀ W,Q w W→Calls Tryz.prog 14 #[.int .i64 (run+1)] W fun e w'=>e=.returned (.string nm)∧Q W w')) (KL1:Hid (∀ W,Q w W→Dsk W A n c l→Calls Tryz.prog 104 #[dkv A n c room fuse off,.string nm,.string rb] W (RetD0 W (⟨l1,room1,fuse1,off1⟩,0)))) (mb:ByteArray) (KM:Hid (∀ W,Q w W→Calls Tryz.prog 16 #[.int .i64 (seg+1),.int .i64 (run+1)] W fun e w'=>e=.returned (.string mb)∧Q W w')) (KL2:Hid (∀ W A n c,Q w W→Dsk W A n c l1→Calls Tryz.prog 104 #[dkv A n c room1 fuse1 off1,.string ⟨#[109]⟩,.string mb] W (RetD0 W (⟨l2,room2,fuse2,off2⟩,0)))) (KS:Hid (∀ W A2 n2 c2,Q w W→Dsk W A2 n2 c2 l2→Calls Tryz.prog 105 #[dkv A2 n2 c2 room2 fuse2 off2,kvV ⟨A,n,c,B,bn,bc,C,cn,cc⟩ ⟨⟨l,room,fuse,off⟩,frm,seg,run,s,false⟩,.int .i64 (seg+1)] W (RetD0 W (⟨l3,room3,fuse3,off3⟩,0)))) (HK:Hid (Kr w ⟨A,n,c,B,bn,bc,C,cn,cc⟩ ⟨⟨l,room,fuse,off⟩,frm,seg,run,s,false⟩)) (KW:Hid (∀ (e:Int) W,Q w W→Calls Tryz.prog 74 #[.int .i64 e] W fun ev w'=>ev=.returned (errV a b e)∧Q W w')) (y:Ks×Int) (HR:Hid (y=(⟨⟨l3,room3,fuse3,off3⟩,(seg+1),(seg+1),(run+1),s,false⟩,0))) :
    Calls Tryz.prog 57 #[kvV ⟨A,n,c,B,bn,bc,C,cn,cc⟩ ⟨⟨l,room,fuse,off⟩,frm,seg,run,s,false⟩] w (RetE w a b y):=by
  have hve:Value.nilIface=errV a b 0:=(errV_nil a b).symm
  have KV:Hid (∀ W,Q w W→Calls Tryz.prog 74 #[.int .i64 0] W fun ev w'=>ev=.returned .nilIface∧Q W w'):=Lib.hid (fun W q=>by rw [hve];exact KW.out 0 W q)
  have HV:=Lib.hid hve
  clear hve KW
  have Z:Hid (Kc w (w.heap.size+1) ⟨A,n,c,B,bn,bc,C,cn,cc⟩ ⟨⟨l,room,fuse,off⟩,frm,seg,run,s,false⟩ ((w.alloc (.cells #[.slice A n c,.int .i64 room,.int .i64 fuse,.bool off,.int .i64 frm,.int .i64 seg,.int .i64 run,.slice B bn bc,.slice C cn cc,.bool false] 32)).alloc (.cells #[.slice none 0 0,.int .i64 0,.int .i64 0,.bool false,.int .i64 0,.int .i64 0,.int .i64 0,.slice none 0 0,.slice none 0 0,.bool false] 32))):=Lib.hid (Kc.two HK.out)
  go_enter Tryz.func57,Tryz.ntmps57
  go_upto_region 1 with (fail)
  generalize ((w.alloc (.cells #[.slice A n c,.int .i64 room,.int .i64 fuse,.bool off,.int .i64 frm,.int .i64 seg,.int .i64 run,.slice B bn bc,.slice C cn cc,.bool false] 32)).alloc (.cells #[.slice none 0 0,.int .i64 0,.int .i64 0,.bool false,.int .i64 0,.int .i64 0,.int .i64 0,.slice none 0 0,.slice none 0 0,.bool false] 32))=W at Z ⊢
  clear HK
  obtain ⟨e0,e1,e2,e3,e4,e5,e6,e7,e8,e9⟩:=kget Z.out.kb.box
  obtain ⟨f0,f1,f2,f3,f4,f5,f6,f7,f8,f9⟩:=kfree Z.out.kb.box
  go_upto_region 6 with (fail)
  go_wp2_with fail
  refine (KP.out _ Z.out.q).mono ?_
  rintro e w1 ⟨A1,c1,rfl,o1,q1⟩
  have Z:=Lib.hid (Z.out.step q1)
  have O1:=Lib.hid o1.lst
  clear o1 q1
  go_wp2_with fail
  refine (KB.out _ A1 c1 O1.out).mono ?_
  rintro e w3 ⟨rfl,q3⟩
  have Z:=Lib.hid (Z.out.step q3)
  clear q3 O1 e0 e1 e2 e3 e4 e5 e6 e7 e8 e9 f0 f1 f2 f3 f4 f5 f6 f7 f8 f9
  obtain ⟨e0,e1,e2,e3,e4,e5,e6,e7,e8,e9⟩:=kget Z.out.kb.box
  obtain ⟨f0,f1,f2,f3,f4,f5,f6,f7,f8,f9⟩:=kfree Z.out.kb.box
  go_upto_region 10 with (fail)
  have Z:=Lib.hid (Ke.new Z.out)
  generalize w3.alloc (.cells #[.slice A n c,.int .i64 room,.int .i64 fuse,.bool off,.int .i64 frm,.int .i64 seg,.int .i64 run,.slice B bn bc,.slice C cn cc,.bool false] 32)=W2 at Z ⊢
  generalize w3.heap.size=gE at Z ⊢
  clear e0 e1 e2 e3 e4 e5 e6 e7 e8 e9 f0 f1 f2 f3 f4 f5 f6 f7 f8 f9
  obtain ⟨e0,e1,e2,e3,e4,e5,e6,e7,e8,e9⟩:=kget Z.out.kc.kb.box
  obtain ⟨f0,f1,f2,f3,f4,f5,f6,f7,f8,f9⟩:=kfree Z.out.kc.kb.box
  go_cut [7,8] (fun s7 s8 wx=>s7=.int .i64 (seg+1)∧s8=.int .i64 (run+1)∧Q W2 wx)
  case first =>
   refine wp_region_held_drew (S:=Q W2) (by kernel_rfl) ?szz248 (fun hHeld=>?rzz248)
   case szz248 =>
    exact (Q.refl W2).drew
   generalize hgen:W2.drew=D0 at hHeld ⊢
   clear hgen
   refine takeH 0 ?v249 ?y249 ?_
   case y249=>intro w hSw;obtain ⟨z0,z1,z2,z3,z4,z5,z6,z7,z8,z9⟩:=box10 hSw e0 e1 e2 e3 e4 e5 e6 e7 e8 e9;clear hSw;go_simp;try with_reducible rfl
   refine takeH 1 ?v250 ?y250 ?_
   case y250=>intro w hSw;obtain ⟨z0,z1,z2,z3,z4,z5,z6,z7,z8,z9⟩:=box10 hSw e0 e1 e2 e3 e4 e5 e6 e7 e8 e9;clear hSw;go_simp;try with_reducible rfl
   refine takeH 2 ?v251 ?y251 ?_
   case y251=>intro w hSw;obtain ⟨z0,z1,z2,z3,z4,z5,z6,z7,z8,z9⟩:=box10 hSw e0 e1 e2 e3 e4 e5 e6 e7 e8 e9;clear hSw;go_simp;try with_reducible rfl
   refine wpAnyH_ready (rs:=[3,6]) (by kernel_rfl) (by simp) ?_
   refine consH (fun K hK=>?kzz267) ?_
   case kzz267 =>
    go_simp
    refine hK.out _ _ ?Szz267 (fun hHeld=>?_)
    case Szz267 =>
     exact hHeld
    clear hK K
    try simp only [Act.put,sA,sB,sC]
    refine wpAnyH_ready (rs:=[4,6]) (by kernel_rfl) (by simp) ?_
    refine consH (fun K hK=>?kzz261) ?_
    case kzz261 =>
     have hSw:=hHeld
     obtain ⟨z0,z1,z2,z3,z4,z5,z6,z7,z8,z9⟩:=box10 hSw e0 e1 e2 e3 e4 e5 e6 e7 e8 e9;clear hSw
     go_simp
     refine hK.out _ _ ?Szz261 (fun hHeld=>?_)
     case Szz261 =>
      exact hHeld
     clear hK K
     try simp only [Act.put,sA,sB,sC]
     refine wpAnyH_ready (rs:=[5,6]) (by kernel_rfl) (by simp) ?_
     refine consH (fun K hK=>?kzz256) ?_
     case kzz256 =>
      go_simp
      refine hK.out _ _ ?Szz256 (fun hHeld=>?_)
      case Szz256 =>
       exact hHeld
      clear hK K
      try simp only [Act.put,sA,sB,sC]
      refine takeH 6 ?v252 ?y252 ?_
      case y252=>intro w hSw;obtain ⟨z0,z1,z2,z3,z4,z5,z6,z7,z8,z9⟩:=box10 hSw e0 e1 e2 e3 e4 e5 e6 e7 e8 e9;clear hSw;go_simp;try with_reducible rfl
      refine takeH 7 ?v253 ?y253 ?_
      case y253=>intro w hSw;obtain ⟨z0,z1,z2,z3,z4,z5,z6,z7,z8,z9⟩:=box10 hSw e0 e1 e2 e3 e4 e5 e6 e7 e8 e9;clear hSw;go_simp;try with_reducible rfl
      refine wpAnyH_done (by kernel_rfl) ?_ _
      go_wp2_with fail
      go_meet
      exact ⟨by rw [IntWalk.i64_in (seg+1) (by omega)],by rw [IntWalk.i64_in (run+1) (by omega)],hHeld⟩
     refine consH (fun K hK=>?_) AllReadyH.nil
     go_simp
     refine hK.out _ _ ?Szz257 (fun hHeld=>?_)
     case Szz257 =>
      exact hHeld
     clear hK K
     try simp only [Act.put,sA,sB,sC]
     refine takeH 5 ?v254 ?y254 ?_
     case y254=>intro w hSw;obtain ⟨z0,z1,z2,z3,z4,z5,z6,z7,z8,z9⟩:=box10 hSw e0 e1 e2 e3 e4 e5 e6 e7 e8 e9;clear hSw;go_simp;try with_reducible rfl
     refine takeH 7 ?v255 ?y255 ?_
     case y255=>intro w hSw;obtain ⟨z0,z1,z2,z3,z4,z5,z6,z7,z8,z9⟩:=box10 hSw e0 e1 e2 e3 e4 e5 e6 e7 e8 e9;clear hSw;go_simp;try with_reducible rfl
     refine wpAnyH_done (by kernel_rfl) ?_ _
     go_wp2_with fail
     go_meet
     exact ⟨by rw [IntWalk.i64_in (seg+1) (by omega)],by rw [IntWalk.i64_in (run+1) (by omega)],hHeld⟩
    refine consH (fun K hK=>?_) AllReadyH.nil
    go_simp
    refine hK.out _ _ ?Szz262 (fun hHeld=>?_)
    case Szz262 =>
     exact hHeld
    clear hK K
    try simp only [Act.put,sA,sB,sC]
    refine takeH 4 ?v258 ?y258 ?_
    case y258=>intro w hSw;obtain ⟨z0,z1,z2,z3,z4,z5,z6,z7,z8,z9⟩:=box10 hSw e0 e1 e2 e3 e4 e5 e6 e7 e8 e9;clear hSw;go_simp;try with_reducible rfl
    refine takeH 5 ?v259 ?y259 ?_
    case y259=>intro w hSw;obtain ⟨z0,z1,z2,z3,z4,z5,z6,z7,z8,z9⟩:=box10 hSw e0 e1 e2 e3 e4 e5 e6 e7 e8 e9;clear hSw;go_simp;try with_reducible rfl
    refine takeH 7 ?v260 ?y260 ?_
    case y260=>intro w hSw;obtain ⟨z0,z1,z2,z3,z4,z5,z6,z7,z8,z9⟩:=box10 hSw e0 e1 e2 e3 e4 e5 e6 e7 e8 e9;clear hSw;go_simp;try with_reducible rfl
    refine wpAnyH_done (by kernel_rfl) ?_ _
    go_wp2_with fail
    go_meet
    exact ⟨by rw [IntWalk.i64_in (seg+1) (by omega)],by rw [IntWalk.i64_in (run+1) (by omega)],hHeld⟩
   refine consH (fun K hK=>?_) AllReadyH.nil
   go_simp
   refine hK.out _ _ ?Szz268 (fun hHeld=>?_)
   case Szz268 =>
    exact hHeld
   clear hK K
   try simp only [Act.put,sA,sB,sC]
   refine takeH 3 ?v263 ?y263 ?_
   case y263=>intro w hSw;obtain ⟨z0,z1,z2,z3,z4,z5,z6,z7,z8,z9⟩:=box10 hSw e0 e1 e2 e3 e4 e5 e6 e7 e8 e9;clear hSw;go_simp;try with_reducible rfl
   refine takeH 4 ?v264 ?y264 ?_
   case y264=>intro w hSw;obtain ⟨z0,z1,z2,z3,z4,z5,z6,z7,z8,z9⟩:=box10 hSw e0 e1 e2 e3 e4 e5 e6 e7 e8 e9;clear hSw;go_simp;try with_reducible rfl
   refine takeH 5 ?v265 ?y265 ?_
   case y265=>intro w hSw;obtain ⟨z0,z1,z2,z3,z4,z5,z6,z7,z8,z9⟩:=box10 hSw e0 e1 e2 e3 e4 e5 e6 e7 e8 e9;clear hSw;go_simp;try with_reducible rfl
   refine takeH 7 ?v266 ?y266 ?_
   case y266=>intro w hSw;obtain ⟨z0,z1,z2,z3,z4,z5,z6,z7,z8,z9⟩:=box10 hSw e0 e1 e2 e3 e4 e5 e6 e7 e8 e9;clear hSw;go_simp;try with_reducible rfl
   refine wpAnyH_done (by kernel_rfl) ?_ _
   go_wp2_with fail
   go_meet
   exact ⟨by rw [IntWalk.i64_in (seg+1) (by omega)],by rw [IntWalk.i64_in (run+1) (by omega)],hHeld⟩
  case rest =>
   obtain ⟨rfl,rfl,qc⟩:=hcut
   have Z:=Lib.hid (Z.out.step qc)
   clear qc e0 e1 e2 e3 e4 e5 e6 e7 e8 e9 f0 f1 f2 f3 f4 f5 f6 f7 f8 f9
   generalize wc=W3 at Z ⊢
   obtain ⟨e0,e1,e2,e3,e4,e5,e6,e7,e8,e9⟩:=kget Z.out.kc.kb.box
   obtain ⟨f0,f1,f2,f3,f4,f5,f6,f7,f8,f9⟩:=kfree Z.out.kc.kb.box
   go_upto_region 11 with (fail)
   go_cut [5] (fun s5 wx=>∃ (A4:Option Addr) (n4 c4:Nat),s5=.int .i64 0∧Ke w ⟨A4,n4,c4,B,bn,bc,C,cn,cc⟩ ⟨⟨l1,room1,fuse1,off1⟩,frm,seg,run,s,false⟩ gE ⟨A,n,c,B,bn,bc,C,cn,cc⟩ ⟨⟨l,room,fuse,off⟩,frm,seg,run,s,false⟩ wx)
   case first =>
    refine wp_region_heldL 10 (Q W3) (by kernel_rfl) ?szz228 (fun hHeld=>?rzz228)
    case szz228 =>
     exact (Q.refl W3).drew
    generalize hgen:W3.drew=D0 at hHeld ⊢
    clear hgen
    refine takeL 0 ?v229 ?y229 ?_
    case y229=>intro w hSw;obtain ⟨z0,z1,z2,z3,z4,z5,z6,z7,z8,z9⟩:=box10 hSw e0 e1 e2 e3 e4 e5 e6 e7 e8 e9;clear hSw;go_simp;try with_reducible rfl
    refine takeL 1 ?v230 ?y230 ?_
    case y230=>intro w hSw;obtain ⟨z0,z1,z2,z3,z4,z5,z6,z7,z8,z9⟩:=box10 hSw e0 e1 e2 e3 e4 e5 e6 e7 e8 e9;clear hSw;go_simp;try with_reducible rfl
    refine takeL 2 ?v231 ?y231 ?_
    case y231=>intro w hSw;obtain ⟨z0,z1,z2,z3,z4,z5,z6,z7,z8,z9⟩:=box10 hSw e0 e1 e2 e3 e4 e5 e6 e7 e8 e9;clear hSw;go_simp;try with_reducible rfl
    refine takeL 4 ?v232 ?y232 ?_
    case y232=>intro w hSw;obtain ⟨z0,z1,z2,z3,z4,z5,z6,z7,z8,z9⟩:=box10 hSw e0 e1 e2 e3 e4 e5 e6 e7 e8 e9;clear hSw;go_simp;try with_reducible rfl
    refine oneL 3 (fun K hK=>?_)
    go_simp
    refine (KN.out _ (Z.out.kc.q.trans hHeld)).mono ?_
    rintro e u1 ⟨rfl,q1⟩
    go_wp2_with fail
    refine hK.out _ _ ?Szz247 (fun hHeld=>?_)
    case Szz247 =>
     exact hHeld.trans q1
    clear hK K
    try simp only [Act.put,sA,sB,sC]
    refine oneL 5 (fun K hK=>?_)
    go_simp
    refine (KL1.out _ (Z.out.kc.q.trans hHeld) ((Z.out.kc.kb.is.dsk).q hHeld)).mono ?_
    rintro e u2 ⟨A4,n4,c4,rfl,hd4,q2⟩
    have HD:=Lib.hid hd4
    go_wp2_with fail
    refine hK.out _ _ ?Szz246 (fun hHeld=>?_)
    case Szz246 =>
     exact hHeld.trans q2
    clear hK K
    try simp only [Act.put,sA,sB,sC]
    refine takeL 6 ?v233 ?y233 ?_
    case y233=>intro w hSw;obtain ⟨z0,z1,z2,z3,z4,z5,z6,z7,z8,z9⟩:=box10 hSw e0 e1 e2 e3 e4 e5 e6 e7 e8 e9;clear hSw;go_simp;try with_reducible rfl
    refine takeL 7 ?v234 ?y234 ?_
    case y234=>intro w hSw;obtain ⟨z0,z1,z2,z3,z4,z5,z6,z7,z8,z9⟩:=box10 hSw e0 e1 e2 e3 e4 e5 e6 e7 e8 e9;clear hSw;go_simp;try with_reducible rfl
    refine wpAnyL_ready (rs:=[8,9]) (by kernel_rfl) (by simp) ?_
    refine consL (fun K hK=>?kzz244) ?_
    case kzz244 =>
     go_simp
     refine hK.out _ _ ?Szz244 (fun hHeld=>?_)
     case Szz244 =>
      exact hHeld
     clear hK K
     try simp only [Act.put,sA,sB,sC]
     refine takeL 9 ?v235 ?y235 ?_
     case y235=>intro w hSw;obtain ⟨z0,z1,z2,z3,z4,z5,z6,z7,z8,z9⟩:=box10 hSw e0 e1 e2 e3 e4 e5 e6 e7 e8 e9;clear hSw;go_simp;try with_reducible rfl
     refine oneK (fun K hK=>?_)
     have HZ:=Lib.hid hHeld
     obtain ⟨g0,g1,g2,g3,g4,g5,g6,g7,g8,g9⟩:=kget (Z.out.step hHeld).kc.kb.box
     obtain ⟨i0,i1,i2,i3,i4,i5,i6,i7,i8,i9⟩:=kfree (Z.out.step hHeld).kc.kb.box
     go_simp
     refine hK.out _ _ ?_
     clear hK K
     try simp only [Act.put,sA,sB,sC]
     refine takH 11 ?_
     refine wpAnyH_done (by kernel_rfl) ?_ _
     have ZZ:=Lib.hid ((Z.out.step HZ.out).disk (d2:=⟨l1,room1,fuse1,off1⟩) HD.out)
     clear Z HZ HD e0 e1 e2 e3 e4 e5 e6 e7 e8 e9 f0 f1 f2 f3 f4 f5 f6 f7 f8 f9 g0 g1 g2 g3 g4 g5 g6 g7 g8 g9 i0 i1 i2 i3 i4 i5 i6 i7 i8 i9
     go_wp2_with fail
     go_meet
     exact ⟨A4,n4,c4,rfl,ZZ.out⟩
    refine consL (fun K hK=>?_) AllReadyL.nil
    go_simp
    refine hK.out _ _ ?Szz245 (fun hHeld=>?_)
    case Szz245 =>
     exact hHeld
    clear hK K
    try simp only [Act.put,sA,sB,sC]
    refine wpAnyL_ready (rs:=[8,10]) (by kernel_rfl) (by simp) ?_
    refine consL (fun K hK=>?kzz242) ?_
    case kzz242 =>
     go_simp
     refine hK.out _ _ ?Szz242 (fun hHeld=>?_)
     case Szz242 =>
      exact hHeld
     clear hK K
     try simp only [Act.put,sA,sB,sC]
     refine oneK (fun K hK=>?_)
     have HZ:=Lib.hid hHeld
     obtain ⟨g0,g1,g2,g3,g4,g5,g6,g7,g8,g9⟩:=kget (Z.out.step hHeld).kc.kb.box
     obtain ⟨i0,i1,i2,i3,i4,i5,i6,i7,i8,i9⟩:=kfree (Z.out.step hHeld).kc.kb.box
     go_simp
     refine hK.out _ _ ?_
     clear hK K
     try simp only [Act.put,sA,sB,sC]
     refine takH 11 ?_
     refine wpAnyH_done (by kernel_rfl) ?_ _
     have ZZ:=Lib.hid ((Z.out.step HZ.out).disk (d2:=⟨l1,room1,fuse1,off1⟩) HD.out)
     clear Z HZ HD e0 e1 e2 e3 e4 e5 e6 e7 e8 e9 f0 f1 f2 f3 f4 f5 f6 f7 f8 f9 g0 g1 g2 g3 g4 g5 g6 g7 g8 g9 i0 i1 i2 i3 i4 i5 i6 i7 i8 i9
     go_wp2_with fail
     go_meet
     exact ⟨A4,n4,c4,rfl,ZZ.out⟩
    refine consK (fun K hK=>?_) AllReadyL.nil
    have HZ:=Lib.hid hHeld
    obtain ⟨g0,g1,g2,g3,g4,g5,g6,g7,g8,g9⟩:=kget (Z.out.step hHeld).kc.kb.box
    obtain ⟨i0,i1,i2,i3,i4,i5,i6,i7,i8,i9⟩:=kfree (Z.out.step hHeld).kc.kb.box
    go_simp
    refine hK.out _ _ ?_
    clear hK K
    try simp only [Act.put,sA,sB,sC]
    refine takH 8 ?_
    refine takH 11 ?_
    refine wpAnyH_done (by kernel_rfl) ?_ _
    have ZZ:=Lib.hid ((Z.out.step HZ.out).disk (d2:=⟨l1,room1,fuse1,off1⟩) HD.out)
    clear Z HZ HD e0 e1 e2 e3 e4 e5 e6 e7 e8 e9 f0 f1 f2 f3 f4 f5 f6 f7 f8 f9 g0 g1 g2 g3 g4 g5 g6 g7 g8 g9 i0 i1 i2 i3 i4 i5 i6 i7 i8 i9
    go_wp2_with fail
    go_meet
    exact ⟨A4,n4,c4,rfl,ZZ.out⟩
   case rest =>
    obtain ⟨A4,n4,c4,rfl,zz⟩:=hcut
    clear Z e0 e1 e2 e3 e4 e5 e6 e7 e8 e9 f0 f1 f2 f3 f4 f5 f6 f7 f8 f9
    have Z:=Lib.hid zz
    clear zz
    generalize wc=W4 at Z ⊢
    obtain ⟨e0,e1,e2,e3,e4,e5,e6,e7,e8,e9⟩:=kget Z.out.kc.kb.box
    obtain ⟨f0,f1,f2,f3,f4,f5,f6,f7,f8,f9⟩:=kfree Z.out.kc.kb.box
    go_upto_region 13 with (fail)
    go_cut [5] (fun s5 wx=>∃ (A5:Option Addr) (n5 c5:Nat),s5=.int .i64 0∧Ke w ⟨A5,n5,c5,B,bn,bc,C,cn,cc⟩ ⟨⟨l2,room2,fuse2,off2⟩,frm,seg,run,s,false⟩ gE ⟨A,n,c,B,bn,bc,C,cn,cc⟩ ⟨⟨l,room,fuse,off⟩,frm,seg,run,s,false⟩ wx)
    case first =>
     refine wp_region_heldL 10 (Q W4) (by kernel_rfl) ?szz208 (fun hHeld=>?rzz208)
     case szz208 =>
      exact (Q.refl W4).drew
     generalize hgen:W4.drew=D0 at hHeld ⊢
     clear hgen
     refine takeL 0 ?v209 ?y209 ?_
     case y209=>intro w hSw;obtain ⟨z0,z1,z2,z3,z4,z5,z6,z7,z8,z9⟩:=box10 hSw e0 e1 e2 e3 e4 e5 e6 e7 e8 e9;clear hSw;go_simp;try with_reducible rfl
     refine takeL 1 ?v210 ?y210 ?_
     case y210=>intro w hSw;obtain ⟨z0,z1,z2,z3,z4,z5,z6,z7,z8,z9⟩:=box10 hSw e0 e1 e2 e3 e4 e5 e6 e7 e8 e9;clear hSw;go_simp;try with_reducible rfl
     refine takeL 2 ?v211 ?y211 ?_
     case y211=>intro w hSw;obtain ⟨z0,z1,z2,z3,z4,z5,z6,z7,z8,z9⟩:=box10 hSw e0 e1 e2 e3 e4 e5 e6 e7 e8 e9;clear hSw;go_simp;try with_reducible rfl
     refine takeL 3 ?v212 ?y212 ?_
     case y212=>intro w hSw;obtain ⟨z0,z1,z2,z3,z4,z5,z6,z7,z8,z9⟩:=box10 hSw e0 e1 e2 e3 e4 e5 e6 e7 e8 e9;clear hSw;go_simp;try with_reducible rfl
     refine oneL 4 (fun K hK=>?_)
     go_simp
     refine (KM.out _ (Z.out.kc.q.trans hHeld)).mono ?_
     rintro e u1 ⟨rfl,q1⟩
     go_wp2_with fail
     refine hK.out _ _ ?Szz227 (fun hHeld=>?_)
     case Szz227 =>
      exact hHeld.trans q1
     clear hK K
     try simp only [Act.put,sA,sB,sC]
     refine oneL 5 (fun K hK=>?_)
     go_simp
     refine (KL2.out _ A4 n4 c4 (Z.out.kc.q.trans hHeld) ((Z.out.kc.kb.is.dsk).q hHeld)).mono ?_
     rintro e u2 ⟨A5,n5,c5,rfl,hd5,q2⟩
     have HD:=Lib.hid hd5
     go_wp2_with fail
     refine hK.out _ _ ?Szz226 (fun hHeld=>?_)
     case Szz226 =>
      exact hHeld.trans q2
     clear hK K
     try simp only [Act.put,sA,sB,sC]
     refine takeL 6 ?v213 ?y213 ?_
     case y213=>intro w hSw;obtain ⟨z0,z1,z2,z3,z4,z5,z6,z7,z8,z9⟩:=box10 hSw e0 e1 e2 e3 e4 e5 e6 e7 e8 e9;clear hSw;go_simp;try with_reducible rfl
     refine takeL 7 ?v214 ?y214 ?_
     case y214=>intro w hSw;obtain ⟨z0,z1,z2,z3,z4,z5,z6,z7,z8,z9⟩:=box10 hSw e0 e1 e2 e3 e4 e5 e6 e7 e8 e9;clear hSw;go_simp;try with_reducible rfl
     refine wpAnyL_ready (rs:=[8,9]) (by kernel_rfl) (by simp) ?_
     refine consL (fun K hK=>?kzz224) ?_
     case kzz224 =>
      go_simp
      refine hK.out _ _ ?Szz224 (fun hHeld=>?_)
      case Szz224 =>
       exact hHeld
      clear hK K
      try simp only [Act.put,sA,sB,sC]
      refine takeL 9 ?v215 ?y215 ?_
      case y215=>intro w hSw;obtain ⟨z0,z1,z2,z3,z4,z5,z6,z7,z8,z9⟩:=box10 hSw e0 e1 e2 e3 e4 e5 e6 e7 e8 e9;clear hSw;go_simp;try with_reducible rfl
      refine oneK (fun K hK=>?_)
      have HZ:=Lib.hid hHeld
      obtain ⟨g0,g1,g2,g3,g4,g5,g6,g7,g8,g9⟩:=kget (Z.out.step hHeld).kc.kb.box
      obtain ⟨i0,i1,i2,i3,i4,i5,i6,i7,i8,i9⟩:=kfree (Z.out.step hHeld).kc.kb.box
      go_simp
      refine hK.out _ _ ?_
      clear hK K
      try simp only [Act.put,sA,sB,sC]
      refine takH 11 ?_
      refine wpAnyH_done (by kernel_rfl) ?_ _
      have ZZ:=Lib.hid ((Z.out.step HZ.out).disk (d2:=⟨l2,room2,fuse2,off2⟩) HD.out)
      clear Z HZ HD e0 e1 e2 e3 e4 e5 e6 e7 e8 e9 f0 f1 f2 f3 f4 f5 f6 f7 f8 f9 g0 g1 g2 g3 g4 g5 g6 g7 g8 g9 i0 i1 i2 i3 i4 i5 i6 i7 i8 i9
      go_wp2_with fail
      go_meet
      exact ⟨A5,n5,c5,rfl,ZZ.out⟩
     refine consL (fun K hK=>?_) AllReadyL.nil
     go_simp
     refine hK.out _ _ ?Szz225 (fun hHeld=>?_)
     case Szz225 =>
      exact hHeld
     clear hK K
     try simp only [Act.put,sA,sB,sC]
     refine wpAnyL_ready (rs:=[8,10]) (by kernel_rfl) (by simp) ?_
     refine consL (fun K hK=>?kzz222) ?_
     case kzz222 =>
      go_simp
      refine hK.out _ _ ?Szz222 (fun hHeld=>?_)
      case Szz222 =>
       exact hHeld
      clear hK K
      try simp only [Act.put,sA,sB,sC]
      refine oneK (fun K hK=>?_)
      have HZ:=Lib.hid hHeld
      obtain ⟨g0,g1,g2,g3,g4,g5,g6,g7,g8,g9⟩:=kget (Z.out.step hHeld).kc.kb.box
      obtain ⟨i0,i1,i2,i3,i4,i5,i6,i7,i8,i9⟩:=kfree (Z.out.step hHeld).kc.kb.box
      go_simp
      refine hK.out _ _ ?_
      clear hK K
      try simp only [Act.put,sA,sB,sC]
      refine takH 11 ?_
      refine wpAnyH_done (by kernel_rfl) ?_ _
      have ZZ:=Lib.hid ((Z.out.step HZ.out).disk (d2:=⟨l2,room2,fuse2,off2⟩) HD.out)
      clear Z HZ HD e0 e1 e2 e3 e4 e5 e6 e7 e8 e9 f0 f1 f2 f3 f4 f5 f6 f7 f8 f9 g0 g1 g2 g3 g4 g5 g6 g7 g8 g9 i0 i1 i2 i3 i4 i5 i6 i7 i8 i9
      go_wp2_with fail
      go_meet
      exact ⟨A5,n5,c5,rfl,ZZ.out⟩
     refine consK (fun K hK=>?_) AllReadyL.nil
     have HZ:=Lib.hid hHeld
     obtain ⟨g0,g1,g2,g3,g4,g5,g6,g7,g8,g9⟩:=kget (Z.out.step hHeld).kc.kb.box
     obtain ⟨i0,i1,i2,i3,i4,i5,i6,i7,i8,i9⟩:=kfree (Z.out.step hHeld).kc.kb.box
     go_simp
     refine hK.out _ _ ?_
     clear hK K
     try simp only [Act.put,sA,sB,sC]
     refine takH 8 ?_
     refine takH 11 ?_
     refine wpAnyH_done (by kernel_rfl) ?_ _
     have ZZ:=Lib.hid ((Z.out.step HZ.out).disk (d2:=⟨l2,room2,fuse2,off2⟩) HD.out)
     clear Z HZ HD e0 e1 e2 e3 e4 e5 e6 e7 e8 e9 f0 f1 f2 f3 f4 f5 f6 f7 f8 f9 g0 g1 g2 g3 g4 g5 g6 g7 g8 g9 i0 i1 i2 i3 i4 i5 i6 i7 i8 i9
     go_wp2_with fail
     go_meet
     exact ⟨A5,n5,c5,rfl,ZZ.out⟩
    case rest =>
     obtain ⟨A5,n5,c5,rfl,zz⟩:=hcut
     clear Z e0 e1 e2 e3 e4 e5 e6 e7 e8 e9 f0 f1 f2 f3 f4 f5 f6 f7 f8 f9
     have Z:=Lib.hid zz
     clear zz
     generalize wc=W5 at Z ⊢
     obtain ⟨e0,e1,e2,e3,e4,e5,e6,e7,e8,e9⟩:=kget Z.out.kc.kb.box
     obtain ⟨f0,f1,f2,f3,f4,f5,f6,f7,f8,f9⟩:=kfree Z.out.kc.kb.box
     go_upto_region 16 with (fail)
     have ZM:=Lib.hid (Z.out.marks (seg+1) (seg+1) (run+1))
     clear Z e0 e1 e2 e3 e4 e5 e6 e7 e8 e9 f0 f1 f2 f3 f4 f5 f6 f7 f8 f9
     generalize ((W5.setCell ⟨w.heap.size,4,none⟩ (.int .i64 (seg+1))).setCell ⟨w.heap.size,5,none⟩ (.int .i64 (seg+1))).setCell ⟨w.heap.size,6,none⟩ (.int .i64 (run+1))=W7 at ZM ⊢
     have Z:=ZM
     clear ZM
     obtain ⟨e0,e1,e2,e3,e4,e5,e6,e7,e8,e9⟩:=kget Z.out.kc.kb.box
     obtain ⟨f0,f1,f2,f3,f4,f5,f6,f7,f8,f9⟩:=kfree Z.out.kc.kb.box
     obtain ⟨g0,g1,g2,g3,g4,g5,g6,g7,g8,g9⟩:=kget Z.out.eb
     go_wp2_with fail
     refine (KS.out _ A5 n5 c5 Z.out.kc.q Z.out.kc.kb.is.dsk).mono ?_
     rintro e w8 ⟨A6,n6,c6,rfl,hd6,q8⟩
     have ZZ:=Lib.hid ((Z.out.step q8).disk (d2:=⟨l3,room3,fuse3,off3⟩) hd6)
     clear e0 e1 e2 e3 e4 e5 e6 e7 e8 e9 f0 f1 f2 f3 f4 f5 f6 f7 f8 f9 g0 g1 g2 g3 g4 g5 g6 g7 g8 g9
     obtain ⟨e0,e1,e2,e3,e4,e5,e6,e7,e8,e9⟩:=kget (Z.out.step q8).kc.kb.box
     obtain ⟨f0,f1,f2,f3,f4,f5,f6,f7,f8,f9⟩:=kfree (Z.out.step q8).kc.kb.box
     clear Z hd6 q8
     go_upto_region 17 with (fail)
     generalize ((((w8.setCell ⟨w.heap.size,0,none⟩ (.slice A6 n6 c6)).setCell ⟨w.heap.size,1,none⟩ (.int .i64 room3)).setCell ⟨w.heap.size,2,none⟩ (.int .i64 fuse3)).setCell ⟨w.heap.size,3,none⟩ (.bool off3))=W8 at ZZ ⊢
     have Z:=ZZ
     clear ZZ e0 e1 e2 e3 e4 e5 e6 e7 e8 e9 f0 f1 f2 f3 f4 f5 f6 f7 f8 f9
     have Y:=Lib.hid Z.out.kc
     clear Z
     obtain ⟨e0,e1,e2,e3,e4,e5,e6,e7,e8,e9⟩:=kget Y.out.kb.box
     obtain ⟨f0,f1,f2,f3,f4,f5,f6,f7,f8,f9⟩:=kfree Y.out.kb.box
     refine wp_region_held_drew (S:=fun w'=>Bx w' w.heap.size (kL ⟨A6,n6,c6,B,bn,bc,C,cn,cc⟩ ⟨⟨l3,room3,fuse3,off3⟩,(seg+1),(seg+1),(run+1),s,false⟩)) (by kernel_rfl) ?szz202 (fun hHeld=>?rzz202)
     case szz202 =>
      exact Y.out.kb.box.drew
     refine takeH 0 ?v203 ?y203 ?_
     case y203=>intro w hSw;obtain ⟨s0,s1,s2,s3,s4,s5,s6,s7,s8,s9⟩:=kget hSw;go_simp;try with_reducible rfl
     refine tadH 1 ?_
     refine oneH 2 (fun K hK=>?_)
     go_simp
     refine (KV.out _ (Y.out.q.trans (Q.refl _).drew)).mono ?_
     rintro e w4 ⟨rfl,q4⟩
     have V:=Lib.hid (Y.out.step ((Q.refl _).drew.trans q4))
     have F:Hid (RetE w a b (⟨⟨l3,room3,fuse3,off3⟩,(seg+1),(seg+1),(run+1),s,false⟩,0) (.returned (.tuple #[kvV ⟨A6,n6,c6,B,bn,bc,C,cn,cc⟩ ⟨⟨l3,room3,fuse3,off3⟩,(seg+1),(seg+1),(run+1),s,false⟩,.nilIface])) ((((((((((w4.setCell ⟨w.heap.size+1,0,none⟩ (.slice A6 n6 c6)).setCell ⟨w.heap.size+1,1,none⟩ (.int .i64 room3)).setCell ⟨w.heap.size+1,2,none⟩ (.int .i64 fuse3)).setCell ⟨w.heap.size+1,3,none⟩ (.bool off3)).setCell ⟨w.heap.size+1,4,none⟩ (.int .i64 (seg+1))).setCell ⟨w.heap.size+1,5,none⟩ (.int .i64 (seg+1))).setCell ⟨w.heap.size+1,6,none⟩ (.int .i64 (run+1))).setCell ⟨w.heap.size+1,7,none⟩ (.slice B bn bc)).setCell ⟨w.heap.size+1,8,none⟩ (.slice C cn cc)).setCell ⟨w.heap.size+1,9,none⟩ (.bool false))):=Lib.hid (by rw [HV.out];exact V.out.finE V.out.kb.is a b 0)
     have R:Hid (Bx ((((((((((w4.setCell ⟨w.heap.size+1,0,none⟩ (.slice A6 n6 c6)).setCell ⟨w.heap.size+1,1,none⟩ (.int .i64 room3)).setCell ⟨w.heap.size+1,2,none⟩ (.int .i64 fuse3)).setCell ⟨w.heap.size+1,3,none⟩ (.bool off3)).setCell ⟨w.heap.size+1,4,none⟩ (.int .i64 (seg+1))).setCell ⟨w.heap.size+1,5,none⟩ (.int .i64 (seg+1))).setCell ⟨w.heap.size+1,6,none⟩ (.int .i64 (run+1))).setCell ⟨w.heap.size+1,7,none⟩ (.slice B bn bc)).setCell ⟨w.heap.size+1,8,none⟩ (.slice C cn cc)).setCell ⟨w.heap.size+1,9,none⟩ (.bool false)) (w.heap.size+1) (kL ⟨A6,n6,c6,B,bn,bc,C,cn,cc⟩ ⟨⟨l3,room3,fuse3,off3⟩,(seg+1),(seg+1),(run+1),s,false⟩)):=Lib.hid (V.out.boxR ⟨A6,n6,c6,B,bn,bc,C,cn,cc⟩ ⟨⟨l3,room3,fuse3,off3⟩,(seg+1),(seg+1),(run+1),s,false⟩)
     have U:Hid (Bx ((((((((((w4.setCell ⟨w.heap.size+1,0,none⟩ (.slice A6 n6 c6)).setCell ⟨w.heap.size+1,1,none⟩ (.int .i64 room3)).setCell ⟨w.heap.size+1,2,none⟩ (.int .i64 fuse3)).setCell ⟨w.heap.size+1,3,none⟩ (.bool off3)).setCell ⟨w.heap.size+1,4,none⟩ (.int .i64 (seg+1))).setCell ⟨w.heap.size+1,5,none⟩ (.int .i64 (seg+1))).setCell ⟨w.heap.size+1,6,none⟩ (.int .i64 (run+1))).setCell ⟨w.heap.size+1,7,none⟩ (.slice B bn bc)).setCell ⟨w.heap.size+1,8,none⟩ (.slice C cn cc)).setCell ⟨w.heap.size+1,9,none⟩ (.bool false)) w.heap.size (kL ⟨A6,n6,c6,B,bn,bc,C,cn,cc⟩ ⟨⟨l3,room3,fuse3,off3⟩,(seg+1),(seg+1),(run+1),s,false⟩)):=Lib.hid (V.out.kb.box.far_stk (by have:=V.out.lt;omega) (us10 ⟨A6,n6,c6,B,bn,bc,C,cn,cc⟩ ⟨⟨l3,room3,fuse3,off3⟩,(seg+1),(seg+1),(run+1),s,false⟩))
     go_wp2_with fail
     refine hK.out _ _ ?Szz207 (fun hHeld=>?_)
     case Szz207 =>
      exact V.out.kb.box
     clear hK K
     try simp only [Act.put,sA,sB,sC]
     refine oneH 3 (fun K hK=>?_)
     obtain ⟨g0,g1,g2,g3,g4,g5,g6,g7,g8,g9⟩:=kfree V.out.res
     obtain ⟨i0,i1,i2,i3,i4,i5,i6,i7,i8,i9⟩:=kget V.out.res
     go_simp
     refine hK.out _ _ ?Szz206 (fun hHeld=>?_)
     case Szz206 =>
      exact U.out
     clear hK K
     try simp only [Act.put,sA,sB,sC]
     refine tadH 4 ?_
     refine wpAnyH_done (by kernel_rfl) ?_ _
     clear V Y q4 U
     go_wp2
     (try rw [Exit.noGoto_ret])
     obtain ⟨r0,r1,r2,r3,r4,r5,r6,r7,r8,r9⟩:=kget R.out
     refine bodyPost_ret (v:=.tuple #[kvV ⟨A6,n6,c6,B,bn,bc,C,cn,cc⟩ ⟨⟨l3,room3,fuse3,off3⟩,(seg+1),(seg+1),(run+1),s,false⟩,.nilIface]) (by simp [results,Tryz.results57,go_sem,r0,r1,r2,r3,r4,r5,r6,r7,r8,r9]) rfl ?_
     rw [HR.out]
     exact F.out
end
section
open Go.RowKit Dkm Prm Km Wm
theorem RetDK.d0 {w w':World} {A0:Option Addr} {n0:Nat} {d:Dk} {er:Int} {e:Ending} (h:RetDK w A0 n0 d er e w'):RetD0 w (d,er) e w':=by
 obtain ⟨A,n,c,h1,h2,_,h3⟩:=h
 exact ⟨A,n,c,h1,h2,h3⟩
structure Kok (x:Ks):Prop where
  bnd:Bnd 2305843009213693952 x.d
  ns:Ns 140737488355328 x.d.fs
  seg:-1000000≤x.seg
  run:-1000000≤x.run
  few:x.s.data.length+x.s.toks.length≤536870912
  kd:KeysLow x.s.data
  kt:KeysLow x.s.toks
  rb:(rbM (Bm.pairs x.s)).1.length≤2305843009213693952
theorem mB_size:mB.size=1:=rfl
theorem mB_fresh:(Rn.freshB mB).size=3:=rfl
theorem manB_size {f r:Int} (hf:f≤1000001) (hr:r≤1000001):(manB f r).size≤2305843009213693952:=by
 have h1:=Dm.num_length f.toNat (by omega)
 have h2:=Dm.num_length r.toNat (by omega)
 have h3:(Dm.num f.toNat++Dm.num r.toNat).length≤42:=by rw [List.length_append];omega
 show (manL f r).toArray.size≤_
 have h4:(manL f r).length≤1000:=by
  have:=sld_length (Dm.num f.toNat++Dm.num r.toNat) (by omega)
  unfold manL
  omega
 simp only [List.size_toArray]
 omega
set_option maxHeartbeats 4000000 in
theorem check_low (p:Kp) (x:Ks) (w:World) (a b:Addr) (hT:Kt w a b) (hE:Errs w) (hk:Kr w p x) (ho:Kok x) :
    Calls Tryz.prog 57 #[kvV p x] w (RetE w a b (chkL x)):=by
  have KW:Hid (∀ (e:Int) W,Q w W→Calls Tryz.prog 74 #[.int .i64 e] W fun ev w'=>ev=.returned (errV a b e)∧Q W w'):=Lib.hid (fun e W q=>(kwrong_any e a b W (hT.q q).sen).mono fun ev w' h=>⟨h.1,by rw [h.2];exact Q.refl _⟩)
  have hl1:=hk.dlen
  have hl2:=hk.tlen
  obtain ⟨hB,hN,hs0,hr0,hfew,hk1,hk2,hrb⟩:=ho
  obtain ⟨A,n,c,B,bn,bc,C,cn,cc⟩:=p
  obtain ⟨⟨l,room,fuse,off⟩,frm,seg,run,s,down⟩:=x
  simp only at hl1 hl2 hB hN hs0 hr0 hfew hk1 hk2 hrb
  cases down with
  | true=>exact check_down w a b (Lib.hid hk) KW _ (Lib.hid (chkL_down rfl))
  | false =>
    by_cases hs:1000000≤seg
    · exact check_full_seg w a b hs (Lib.hid hk) KW _ (Lib.hid (chkL_full rfl (.inl hs)))
    by_cases hr:1000000≤run
    · exact check_full_run w a b hs hr (Lib.hid hk) KW _ (Lib.hid (chkL_full rfl (.inr hr)))
    have hf:¬ ((1000000:Int)≤seg∨(1000000:Int)≤run):=by omega
    have KP:Hid (∀ W,Q w W→Calls Tryz.prog 103 #[staV B bn bc C cn cc] W (RetL pairK W (bn+cn) (Bm.pairs s))):=Lib.hid (fun W q=>bpairs_any B C bn bc cn cc s W (hk.data.q q).lst (hk.toks.q q).lst (by omega) hk1 hk2)
    have KB:=fun W A c (h:Lst pairK W A (bn+cn) (Bm.pairs s))=>bytes_any A (bn+cn) c (Bm.pairs s) W h (by omega)
    cases hb:rbM (Bm.pairs s) with
    | mk r be =>
      have hb':Rn.bytesM (Bm.pairs s)=(r,be):=hb
      simp only [hb'] at KB
      rw [hb] at hrb
      by_cases hbe:be=0
      · subst hbe
        have KN:Hid (∀ W,Q w W→Calls Tryz.prog 14 #[.int .i64 (run+1)] W fun e w'=>e=.returned (.string (rnamB (run+1)))∧Q W w'):=Lib.hid (fun W q=>runName_any (run+1) W (hT.q q).tab)
        have hsz:(⟨r.toArray⟩:ByteArray).size≤2305843009213693952:=by show r.toArray.size≤_;simpa using hrb
        have hnz:(rnamB (run+1)).size≤140737488351232:=Nat.le_trans (rnamB_size (run+1)) (by omega)
        have KL1:=fun W (q:Q w W) (hd:Dsk W A n c l)=>(lay_any (rnamB (run+1)) ⟨r.toArray⟩ A n c ⟨l,room,fuse,off⟩ W hd hB hsz hnz).mono fun _ _ h=>RetDK.d0 h
        have hB1:=hB.lay (by omega) (rnamB (run+1)) ⟨r.toArray⟩
        have hN1:=ns_lay (B:=140737488355328) (d:=⟨l,room,fuse,off⟩) hN (nm:=rnamB (run+1)) (Nat.le_trans (rnamB_size (run+1)) (by omega)) (by show (⟨#[110,46]⟩++rnamB (run+1):ByteArray).size≤_;rw [ByteArray.size_append];have:=rnamB_size (run+1);show 2+_≤_;omega) ⟨r.toArray⟩
        cases h1:Rn.lay ⟨l,room,fuse,off⟩ (rnamB (run+1)) ⟨r.toArray⟩ with
        | mk d1 e1 =>
          obtain ⟨l1,room1,fuse1,off1⟩:=d1
          simp only [h1] at KL1 hB1 hN1
          have hc:=chkL_lay (x:=⟨⟨l,room,fuse,off⟩,frm,seg,run,s,false⟩) rfl hf hb h1
          by_cases he1:e1=0
          · subst he1
            have hm1:mB.size≤140737488351232:=by have:=mB_size;omega
            have KM:Hid (∀ W,Q w W→Calls Tryz.prog 16 #[.int .i64 (seg+1),.int .i64 (run+1)] W fun e w'=>e=.returned (.string (manB (seg+1) (run+1)))∧Q W w'):=Lib.hid (fun W q=>manifest_any (seg+1) (run+1) W (by omega) (by omega))
            have KL2:=fun W A n c (q:Q w W) (hd:Dsk W A n c l1)=>(lay_any mB (manB (seg+1) (run+1)) A n c ⟨l1,room1,fuse1,off1⟩ W hd hB1 (manB_size (by omega) (by omega)) hm1).mono fun _ _ h=>RetDK.d0 h
            have hB2:=hB1.lay (by omega) mB (manB (seg+1) (run+1))
            have hN2:=ns_lay (B:=140737488355328) (d:=⟨l1,room1,fuse1,off1⟩) hN1 (nm:=mB) (by have:=mB_size;omega) (by have:=mB_fresh;omega) (manB (seg+1) (run+1))
            cases h2:Rn.lay ⟨l1,room1,fuse1,off1⟩ mB (manB (seg+1) (run+1)) with
            | mk d2 e2 =>
              obtain ⟨l2,room2,fuse2,off2⟩:=d2
              simp only [h2] at KL2 hB2 hN2
              rw [chkLA_ok (x:=⟨⟨l,room,fuse,off⟩,frm,seg,run,s,false⟩) h2] at hc
              by_cases he2:e2=0
              · subst he2
                have KS:=fun W A2 n2 c2 (q:Q w W) (hd:Dsk W A2 n2 c2 l2)=>sweep_any ⟨A,n,c,B,bn,bc,C,cn,cc⟩ ⟨⟨l,room,fuse,off⟩,frm,seg,run,s,false⟩ (seg+1) A2 n2 c2 ⟨l2,room2,fuse2,off2⟩ W (hT.q q).tab (hE.q q) hd hB2 hN2
                cases h3:swpM ⟨l2,room2,fuse2,off2⟩ run frm (seg+1) with
                | mk d3 e3 =>
                  obtain ⟨l3,room3,fuse3,off3⟩:=d3
                  simp only [h3] at KS
                  rw [chkLB_ok (x:=⟨⟨l,room,fuse,off⟩,frm,seg,run,s,false⟩) h3] at hc
                  by_cases he3:e3=0
                  · subst he3
                    exact check_ok w a b hs hs0 hr hr0 (Bm.pairs s) ⟨r.toArray⟩ (bn+cn) KP (Lib.hid KB) l1 room1 fuse1 off1 l2 room2 fuse2 off2 l3 room3 fuse3 off3 _ KN (Lib.hid KL1) _ KM (Lib.hid KL2) (Lib.hid KS) (Lib.hid hk) KW _ (Lib.hid hc)
                  · exact check_swp w a b hs hs0 hr hr0 (Bm.pairs s) ⟨r.toArray⟩ (bn+cn) KP (Lib.hid KB) l1 room1 fuse1 off1 l2 room2 fuse2 off2 l3 room3 fuse3 off3 e3 _ KN (Lib.hid KL1) _ KM (Lib.hid KL2) (Lib.hid KS) he3 (Lib.hid hk) KW _ (Lib.hid hc)
              · rw [chkLB_no he2] at hc
                exact check_l2 w a b hs hs0 hr hr0 (Bm.pairs s) ⟨r.toArray⟩ (bn+cn) KP (Lib.hid KB) l1 room1 fuse1 off1 l2 room2 fuse2 off2 e2 _ KN (Lib.hid KL1) _ KM (Lib.hid KL2) he2 (Lib.hid hk) KW _ (Lib.hid hc)
          · rw [chkLA_no he1] at hc
            exact check_l1 w a b hs hs0 hr hr0 (Bm.pairs s) ⟨r.toArray⟩ (bn+cn) KP (Lib.hid KB) l1 room1 fuse1 off1 e1 _ KN (Lib.hid KL1) he1 (Lib.hid hk) KW _ (Lib.hid hc)
      · exact check_no w a b hs hs0 hr hr0 (Bm.pairs s) ⟨r.toArray⟩ (bn+cn) KP be (Lib.hid KB) hbe (Lib.hid hk) KW _ (Lib.hid (chkL_no rfl hf hb hbe))
set_option maxHeartbeats 8000000 in
theorem Check_core {A:Option Addr} {n c:Nat} {B:Option Addr} {bn bc:Nat} {C:Option Addr} {cn cc:Nat} {l:List Fil} {room fuse:Int} {off:Bool} {frm seg run:Int} {s:Bm.Sta} {down:Bool} (w:World) (a b:Addr) (y:Ks) (er:Int)
    (l2:List Fil) (room2 fuse2:Int) (off2:Bool) (frm2 seg2 run2:Int) (s2:Bm.Sta) (down2:Bool) (ve:Value)
    (HK:Hid (Kr w ⟨A,n,c,B,bn,bc,C,cn,cc⟩ ⟨⟨l,room,fuse,off⟩,frm,seg,run,s,down⟩))
    (KO:Hid (∀ W,Q w W→Calls Tryz.prog 52 #[kvV ⟨A,n,c,B,bn,bc,C,cn,cc⟩ ⟨⟨l,room,fuse,off⟩,frm,seg,run,s,down⟩] W (RetK1 W ⟨⟨l,room,fuse,off⟩,frm,seg,run,s,down⟩)))
    (KL:Hid (∀ p W,Kr W p ⟨⟨l,room,fuse,off⟩,frm,seg,run,s,down⟩→Q w W→Calls Tryz.prog 57 #[kvV p ⟨⟨l,room,fuse,off⟩,frm,seg,run,s,down⟩] W fun e w'=>∃ p',e=.returned (.tuple #[kvV p' y,ve])∧Kr w' p' y∧Q W w'))
    (KA:Hid (∀ p W,Kr W p y→Q w W→Calls Tryz.prog 50 #[kvV p y,ve] W fun e w'=>∃ p',e=.returned (.tuple #[kvV p' ⟨⟨l2,room2,fuse2,off2⟩,frm2,seg2,run2,s2,down2⟩,.int .i64 er])∧Kr w' p' ⟨⟨l2,room2,fuse2,off2⟩,frm2,seg2,run2,s2,down2⟩∧Q W w')) :
    Calls Tryz.prog 21 #[kvV ⟨A,n,c,B,bn,bc,C,cn,cc⟩ ⟨⟨l,room,fuse,off⟩,frm,seg,run,s,down⟩] w (RetK w ⟨⟨l2,room2,fuse2,off2⟩,frm2,seg2,run2,s2,down2⟩ [.int .i64 er]):=by
  have Z:Hid (Kc w (w.heap.size+1) ⟨A,n,c,B,bn,bc,C,cn,cc⟩ ⟨⟨l,room,fuse,off⟩,frm,seg,run,s,down⟩ ((w.alloc (.cells #[.slice A n c,.int .i64 room,.int .i64 fuse,.bool off,.int .i64 frm,.int .i64 seg,.int .i64 run,.slice B bn bc,.slice C cn cc,.bool down] 32)).alloc (.cells #[.slice none 0 0,.int .i64 0,.int .i64 0,.bool false,.int .i64 0,.int .i64 0,.int .i64 0,.slice none 0 0,.slice none 0 0,.bool false] 32))):=Lib.hid (Kc.two HK.out)
  clear HK
  go_enter Tryz.func21,Tryz.ntmps21
  go_upto_region 1 with (fail)
  generalize ((w.alloc (.cells #[.slice A n c,.int .i64 room,.int .i64 fuse,.bool off,.int .i64 frm,.int .i64 seg,.int .i64 run,.slice B bn bc,.slice C cn cc,.bool down] 32)).alloc (.cells #[.slice none 0 0,.int .i64 0,.int .i64 0,.bool false,.int .i64 0,.int .i64 0,.int .i64 0,.slice none 0 0,.slice none 0 0,.bool false] 32))=W at Z ⊢
  obtain ⟨e0,e1,e2,e3,e4,e5,e6,e7,e8,e9⟩:=kget Z.out.kb.box
  go_wp2_with fail
  refine (KO.out _ Z.out.q).mono ?_
  rintro e w1 ⟨p1,rfl,k1,q1⟩
  have V1:=Lib.hid (Z.out.step q1)
  have K1:=Lib.hid k1
  clear k1 q1 e0 e1 e2 e3 e4 e5 e6 e7 e8 e9
  go_wp2_with fail
  refine (KL.out p1 _ K1.out V1.out.q).mono ?_
  rintro e w2 ⟨p2,rfl,k2,q2⟩
  have V2:=Lib.hid (V1.out.step q2)
  have K2:=Lib.hid k2
  clear k2 q2
  go_wp2_with fail
  refine (KA.out p2 _ K2.out V2.out.q).mono ?_
  rintro e w4 ⟨p3,rfl,k3,q3⟩
  have V3:=Lib.hid (V2.out.step q3)
  have K3:=Lib.hid k3
  clear k3 q3
  obtain ⟨A2,n2,c2,B2,bn2,bc2,C2,cn2,cc2⟩:=p3
  have F:Hid (RetK w ⟨⟨l2,room2,fuse2,off2⟩,frm2,seg2,run2,s2,down2⟩ [.int .i64 er] (.returned (.tuple #[kvV ⟨A2,n2,c2,B2,bn2,bc2,C2,cn2,cc2⟩ ⟨⟨l2,room2,fuse2,off2⟩,frm2,seg2,run2,s2,down2⟩,.int .i64 er])) ((((((((((w4.setCell ⟨w.heap.size+1,0,none⟩ (.slice A2 n2 c2)).setCell ⟨w.heap.size+1,1,none⟩ (.int .i64 room2)).setCell ⟨w.heap.size+1,2,none⟩ (.int .i64 fuse2)).setCell ⟨w.heap.size+1,3,none⟩ (.bool off2)).setCell ⟨w.heap.size+1,4,none⟩ (.int .i64 frm2)).setCell ⟨w.heap.size+1,5,none⟩ (.int .i64 seg2)).setCell ⟨w.heap.size+1,6,none⟩ (.int .i64 run2)).setCell ⟨w.heap.size+1,7,none⟩ (.slice B2 bn2 bc2)).setCell ⟨w.heap.size+1,8,none⟩ (.slice C2 cn2 cc2)).setCell ⟨w.heap.size+1,9,none⟩ (.bool down2))):=Lib.hid (V3.out.fin K3.out [.int .i64 er])
  have R:Hid (Bx ((((((((((w4.setCell ⟨w.heap.size+1,0,none⟩ (.slice A2 n2 c2)).setCell ⟨w.heap.size+1,1,none⟩ (.int .i64 room2)).setCell ⟨w.heap.size+1,2,none⟩ (.int .i64 fuse2)).setCell ⟨w.heap.size+1,3,none⟩ (.bool off2)).setCell ⟨w.heap.size+1,4,none⟩ (.int .i64 frm2)).setCell ⟨w.heap.size+1,5,none⟩ (.int .i64 seg2)).setCell ⟨w.heap.size+1,6,none⟩ (.int .i64 run2)).setCell ⟨w.heap.size+1,7,none⟩ (.slice B2 bn2 bc2)).setCell ⟨w.heap.size+1,8,none⟩ (.slice C2 cn2 cc2)).setCell ⟨w.heap.size+1,9,none⟩ (.bool down2)) (w.heap.size+1) (kL ⟨A2,n2,c2,B2,bn2,bc2,C2,cn2,cc2⟩ ⟨⟨l2,room2,fuse2,off2⟩,frm2,seg2,run2,s2,down2⟩)):=Lib.hid (V3.out.boxR ⟨A2,n2,c2,B2,bn2,bc2,C2,cn2,cc2⟩ ⟨⟨l2,room2,fuse2,off2⟩,frm2,seg2,run2,s2,down2⟩)
  obtain ⟨g0,g1,g2,g3,g4,g5,g6,g7,g8,g9⟩:=kfree V3.out.res
  obtain ⟨i0,i1,i2,i3,i4,i5,i6,i7,i8,i9⟩:=kget V3.out.res
  clear V1 V2 V3 K1 K2 K3 Z
  go_wp2
  (try rw [Exit.noGoto_ret])
  obtain ⟨r0,r1,r2,r3,r4,r5,r6,r7,r8,r9⟩:=kget R.out
  refine bodyPost_ret (v:=.tuple #[kvV ⟨A2,n2,c2,B2,bn2,bc2,C2,cn2,cc2⟩ ⟨⟨l2,room2,fuse2,off2⟩,frm2,seg2,run2,s2,down2⟩,.int .i64 er]) (by simp [results,Tryz.results21,go_sem,r0,r1,r2,r3,r4,r5,r6,r7,r8,r9]) rfl ?_
  exact F.out
theorem Check_any (p:Kp) (x:Ks) (w:World) (a b:Addr) (hT:Kt w a b) (hE:Errs w) (hk:Kr w p x) (ho:Kok x) :
    Calls Tryz.prog 21 #[kvV p x] w (RetK w (chkM x).1 [.int .i64 (chkM x).2]):=by
  have KO:=fun W (q:Q w W)=>kown_any p x W (hk.q q)
  have KL:=fun p' W (h:Kr W p' x) (q:Q w W)=>check_low p' x W a b (hT.q q) (hE.q q) h ho
  have KA:=fun p' W (h:Kr W p' (chkL x).1) (q:Q w W)=>answer_any p' (chkL x).1 (chkL x).2 a b W h (hT.q q)
  rw [chkL_chkM]
  generalize chkL x=y at KL KA ⊢
  obtain ⟨y,er⟩:=y
  simp only at KL KA ⊢
  generalize Ks.gon y er=z at KA ⊢
  obtain ⟨A,n,c,B,bn,bc,C,cn,cc⟩:=p
  obtain ⟨⟨l,room,fuse,off⟩,frm,seg,run,s,down⟩:=x
  obtain ⟨⟨l2,room2,fuse2,off2⟩,frm2,seg2,run2,s2,down2⟩:=z
  exact Check_core w a b y er l2 room2 fuse2 off2 frm2 seg2 run2 s2 down2 (errV a b er) (Lib.hid hk) (Lib.hid KO) (Lib.hid KL) (Lib.hid KA)
end
section
open Go.RowKit Dkm Prm Km Wm
theorem rbM_len {l:List Prm.Pr} (h:l.length≤1000000):(rbM l).1.length≤2305843009213693952:=by
 unfold rbM
 split
 · rename_i hm
   have hb:∀ p∈l,p.key.size≤65536∧p.val.size≤65536:=fun p hp=>by
    unfold Rn.may at hm
    simp only [Bool.and_eq_true,Bool.not_eq_true',List.any_eq_false] at hm
    have:=hm.2 p hp
    unfold Rn.big at this
    simp only [Bool.or_eq_true,decide_eq_true_eq,not_or] at this
    omega
   have h1:=Rn.flat_len l hb
   have h2:=Dm.num_length l.length (by omega)
   have h3:(Rn.body l).length≤21+1000000*131114:=by
    unfold Rn.body
    rw [List.length_append]
    omega
   have h4:=sld_length (Rn.body l) (by omega)
   show (Rn.bytes l).length≤_
   unfold Rn.bytes
   omega
 · simp
structure Kx (j:Nat) (x:Ks):Prop where
  kg:Kg j x
  kc:Km.Kc j x
  sh:Bm.short x.s.data∧Bm.short x.s.toks
theorem Kx.com {j:Nat} {x:Ks} (h:Kx j x) (b:Bm.Bt):Kx (j+1) (comM x b).1:=by
 refine ⟨h.kg.com b,h.kc.com b,?_⟩
 by_cases he:(comM x b).2=0
 · rw [(comM_ok he).2];exact Bm.short_doo b h.sh
 · rw [comM_bad he];exact h.sh
theorem kx_new {room:Int} (h0:0≤room) (h1:room≤9223372036854775807):Kx 0 ⟨⟨[],room,-1,false⟩,1,1,0,⟨[],[]⟩,false⟩:=by
 refine ⟨kg_new h0 h1,?_,⟨fun p hp=>(by cases hp),fun p hp=>(by cases hp)⟩⟩
 have:=Km.Kc.new_ (room:=room) ⟨by omega,h1⟩
 rw [open_new] at this
 exact this
theorem nd_ns {l:List Fil} (h:Nd l):Ns 140737488355328 l:=fun f hf=>by
 have:=h.ok f hf
 unfold nmOk at this
 simp only [decide_eq_true_eq] at this
 omega
theorem short_low {l:List Prm.Pr} (h:Bm.short l):KeysLow l:=fun p hp=>by have:=h p hp;omega
theorem Kx.kok {j:Nat} {x:Ks} (h:Kx j x) (hj:j≤1000) {fuse:Int} (hf:In64 fuse):Kok (armM x fuse):=by
 have hki:=h.kc.kl.ki
 have hl1:=h.kg.dl
 have hl2:=h.kg.tl
 obtain ⟨_,_,_,hb,_⟩:=h.kc.chk hf []
 refine ⟨hb.more (by omega),nd_ns hki.nd,?_,?_,?_,short_low h.sh.1,short_low h.sh.2,rbM_len ?_⟩
 · show -1000000≤x.seg;have:=hki.f1;have:=hki.fs;omega
 · show -1000000≤x.run;have:=hki.r0;omega
 · show x.s.data.length+x.s.toks.length≤_;omega
 · show (Bm.pairs x.s).length≤_
   unfold Bm.pairs Bm.marked
   rw [List.length_append,List.length_map,List.length_map]
   omega
end
section
open Go.RowKit Km
theorem refRunName_any (n:Int) (w:World) (h0:-9223372036854775808≤n) (h1:n≤9223372036854775807):Calls Tryz.prog 15 #[.int .i64 n] w fun e w'=>e=.returned (.string (rnamB n))∧Q w w':=by
 by_cases h2:n<1
 · rw [rnamB_no (by unfold runOk;omega)]
   go_enter Tryz.func15,Tryz.ntmps15
   go_wp2
   go_ret
   exact ⟨rfl,Q.refl _⟩
 by_cases h3:1000000<n
 · rw [rnamB_no (by unfold runOk;omega)]
   go_enter Tryz.func15,Tryz.ntmps15
   go_wp2
   go_ret
   exact ⟨rfl,Q.refl _⟩
 have h:runOk n:=by unfold runOk;omega
 have hN:=Lib.hid (fun w=>refNum_any n w (by omega) (by omega))
 have hl:=Dm.dg_length_lt 7 n.toNat (by omega) (by omega)
 have hsz:(⟨(Dm.num n.toNat).toArray⟩:ByteArray).size=(Dm.dg n.toNat).length+1:=by show (Dm.num n.toNat).toArray.size=_;simp [Dm.num]
 have hex:(⟨#[114]⟩:ByteArray)++(⟨(Dm.num n.toNat).toArray⟩:ByteArray).extract 0 (Dm.dg n.toNat).length=rnamB n:=by
  rw [extract_list,rnamB_ok h,app_lists [114]]
  simp [Dm.num]
 generalize (⟨(Dm.num n.toNat).toArray⟩:ByteArray)=R at hN hsz hex
 generalize (Dm.dg n.toNat).length=m at hl hsz hex
 have HE:=Lib.hid hex
 have hR:R.size≤8:=by omega
 have hm:(R.size:Int) - 1=(m:Int):=by omega
 have hmR:m≤R.size:=by omega
 have h0':0≤(R.size:Int) - 1:=by omega
 have hmN:R.size - 1=m:=by omega
 have HM:=Lib.hid hmN
 clear hex hsz h hm hmN
 go_enter Tryz.func15,Tryz.ntmps15
 go_wp2_with fail
 refine (hN.out _).mono ?_
 rintro e w1 ⟨rfl,q1⟩
 go_wp2
 go_ret
 refine ⟨?_,q1⟩
 rw [←HE.out,←HM.out]
 rfl
theorem name_of_run {n:Int} (h:runOk n):(⟨#[119]⟩:ByteArray)++(rnamB n).extract 1 (rnamB n).size=namB n:=by
 have hs:segOk n:=h
 rw [rnamB_ok h,extract_list]
 unfold namB
 rw [nam_ok hs,app_lists [119]]
 have e:(⟨(114 :: Dm.dg n.toNat).toArray⟩:ByteArray).size=(Dm.dg n.toNat).length+1:=by show (114 :: Dm.dg n.toNat).toArray.size=_;simp
 rw [e]
 simp
theorem run_one {n:Int} (h:runOk n):1≤(rnamB n).size:=by
 rw [rnamB_ok h]
 have e:(⟨(114 :: Dm.dg n.toNat).toArray⟩:ByteArray).size=(Dm.dg n.toNat).length+1:=by show (114 :: Dm.dg n.toNat).toArray.size=_;simp
 omega
end
section
open Go.RowKit Dkm Prm Km Wm
structure Kq (j:Nat) (x:Ks):Prop where
  ki:Ki x
  bnd:Bnd 2097152 x.d
  dl:x.s.data.length≤24*j
  tl:x.s.toks.length≤j
  sh:Bm.short x.s.data∧Bm.short x.s.toks
theorem kq_new {room:Int} (h0:0≤room) (h1:room≤9223372036854775807):Kq 0 ⟨⟨[],room,-1,false⟩,1,1,0,⟨[],[]⟩,false⟩:=by
 have h:=kx_new h0 h1
 exact ⟨h.kc.kl.ki,h.kg.bnd,h.kg.dl,h.kg.tl,h.sh⟩
theorem Kq.com {j:Nat} {x:Ks} (h:Kq j x) (b:Bm.Bt):Kq (j+1) (comM x b).1:=by
 have h1:=h.dl
 have h2:=h.tl
 have h3:=Bm.doo_len x.s b
 refine ⟨com_ki h.ki b,Bnd.com h.bnd (by omega) b,?_,?_,?_⟩
 iterate 2
   by_cases he:(comM x b).2=0
   · rw [(comM_ok he).2];omega
   · rw [comM_bad he];omega
 by_cases he:(comM x b).2=0
 · rw [(comM_ok he).2];exact Bm.short_doo b h.sh
 · rw [comM_bad he];exact h.sh
theorem Kq.chk {j:Nat} {x:Ks} (h:Kq j x) (h0:(chkM x).2=0):Kq j (chkM x).1:=
  ⟨(chk_ki h.ki h0).1,Bnd.chkK h.bnd (by omega),by rw [chk_state];exact h.dl,by rw [chk_state];exact h.tl,by rw [chk_state];exact h.sh⟩
theorem Kq.kok {j:Nat} {x:Ks} (h:Kq j x) (hj:j≤1000):Kok x:=by
 have hki:=h.ki
 have hl1:=h.dl
 have hl2:=h.tl
 refine ⟨h.bnd.more (by omega),nd_ns hki.nd,?_,?_,?_,short_low h.sh.1,short_low h.sh.2,rbM_len ?_⟩
 · have:=hki.f1;have:=hki.fs;omega
 · have:=hki.r0;omega
 · omega
 · show (Bm.pairs x.s).length≤_
   unfold Bm.pairs Bm.marked
   rw [List.length_append,List.length_map,List.length_map]
   omega
theorem Com_kq {j:Nat} {x:Ks} (h:Kq j x) (hj:j≤1000) (p:Kp) (k:Int) (tok:ByteArray) (D:Option Addr) (dn dc:Nat) (ws:List Wr) (w:World) (a b:Addr) (hT:Kt w a b) (hk:Kr w p x) (hD:Lst writeK w D dn ws) (hdn:dn≤maxLen) :
    Calls Tryz.prog 19 #[kvV p x,batV k tok D dn dc] w (RetK w (comM x ⟨k,tok,ws⟩).1 [.int .i64 (comM x ⟨k,tok,ws⟩).2]):=
  Commit_any p x k tok D dn dc ws w a b hT hk (h.bnd.more (by omega)) hD hdn (by have:=h.dl;omega) (by have:=h.tl;omega)
theorem Kq.seen {j:Nat} {x:Ks} (h:Kq j x) (h0:(chkM x).2=0) :
    (chkM x).1.run=x.run+1∧(chkM x).1.frm=x.seg+1∧(chkM x).1.seg=x.seg+1∧(hit (namB x.seg) (chkM x).1.d.fs).2=false∧(hit (rnamB x.run) (chkM x).1.d.fs).2=false ∧
    (⟨#[119]⟩:ByteArray)++(rnamB x.seg).extract 1 (rnamB x.seg).size=namB x.seg∧1≤(rnamB x.seg).size∧(rnamB x.seg).size≤8∧(1≤x.seg∧x.seg≤1000000)∧(0≤x.run∧x.run≤1000000):=by
  have hki:=h.ki
  obtain ⟨_,a1,a2,a3,a4,a5⟩:=chk_ki hki h0
  have hs:runOk x.seg:=⟨by have:=hki.f1;have:=hki.fs;omega,hki.s1⟩
  exact ⟨a1,a2,a3,a4,a5,name_of_run hs,run_one hs,rnamB_size _,hs,hki.r0,hki.r1⟩
end
section
open Go.ChangeShapes Go.WideShapes Go.ChangeAt Go.RowKit
def RdU (w:World) (t:TypeId) (cs:List Value):Prop:=
  ∃ (H:Type) (enc:TypeId×Value→H) (n:Nat) (d:DataW H) (ps:List MemPlace),DataW.trod enc Tryz.prog w 0 (fun _=>true) true n t cs=some (d,ps)∧Rows.uptoBulk d≤1048576
theorem bulk_one {H:Type} (d:DataW H):1≤Rows.uptoBulk d:=by
 cases d with
 | lit l=>cases l<;>simp [Rows.uptoBulk]
 | nil=>simp [Rows.uptoBulk]
 | ptr d=>simp [Rows.uptoBulk]
 | slice elems spare=>simp [Rows.uptoBulk]
 | agg parts=>simp [Rows.uptoBulk]
 | iface t d=>simp [Rows.uptoBulk]
 | map entries=>simp [Rows.uptoBulk]
 | held h=>simp [Rows.uptoBulk]
theorem bulk_part {H:Type} {d:DataW H} {l:List (DataW H)} (h:d∈l):Rows.uptoBulk d≤Rows.uptoBulkAll l:=by
 induction l with
 | nil=>cases h
 | cons x r ih =>
   simp only [Rows.uptoBulkAll]
   cases List.mem_cons.1 h with
   | inl e=>subst e;omega
   | inr e=>have:=ih e;omega
theorem bulk_len {H:Type} (l:List (DataW H)):l.length≤Rows.uptoBulkAll l:=by
 induction l with
 | nil=>simp [Rows.uptoBulkAll]
 | cons x r ih=>have:=bulk_one x;simp only [Rows.uptoBulkAll,List.length_cons];omega
theorem RdU.string {w:World} {t:TypeId} {s:ByteArray} (h:RdU w t [.string s]) (ht:Tryz.prog.underlying t=some .string):s.size≤1048576:=by
 obtain ⟨H,enc,n,d,ps,ht',hw⟩:=h
 obtain ⟨s',e,hx,hm⟩:=DataW.trod_string ht ht'
 injection hx with h1 h2
 subst h1
 simp only [List.cons.injEq,Value.string.injEq,and_true] at e
 subst e
 simp only [Rows.uptoBulk] at hw
 have:s.data.toList.length=s.size:=by simp
 omega
theorem RdU.field {w:World} {t:TypeId} {cs:List Value} {fs:Array Field} (h:RdU w t cs) (ht:Tryz.prog.underlying t=some (.struct fs)) (i:Nat) {ty:TypeId} (off k:Nat) (hi:(fs[i]?).map (fun f=>(f.type,f.offset))=some (ty,off)) (hk:Tryz.prog.cellsOf ty=k) :
    RdU w ty ((cs.drop off).take k):=by
  obtain ⟨f,hf,he⟩:=Option.map_eq_some_iff.1 hi
  injection he with e1 e2
  subst e1 e2 hk
  obtain ⟨H,enc,n,d,ps,ht',hw⟩:=h
  obtain ⟨xs,m,rfl,hx,hl,hlen,hg⟩:=DataW.trod_struct ht ht'
  injection hx with h1 h2
  subst h1
  have hil:i<fs.size:=(Array.getElem?_eq_some_iff.1 hf).1
  have hxi:xs[i]? = some xs[i]:=List.getElem?_eq_getElem (by omega)
  refine ⟨H,enc,m,xs[i].1,xs[i].2,(hg i f hf).trans hxi,?_⟩
  simp only [Rows.uptoBulk] at hw
  have:=bulk_part (l:=xs.map (·.1)) (List.mem_map.2 ⟨xs[i],List.getElem_mem _,rfl⟩)
  omega
theorem RdU.slice {w:World} {t e:TypeId} {a:Addr} {len cap:Nat} (h:RdU w t [.slice (some a) len cap]) (ht:Tryz.prog.underlying t=some (.slice e)) :
    cap≤1048576∧∀ i,i<cap→∃ cs',w.cells? 0 (a.add (i * Tryz.prog.cellsOf e)) (Tryz.prog.cellsOf e)=some cs'∧RdU w e cs':=by
  obtain ⟨H,enc,n,d,ps,ht',hw⟩:=h
  rcases Deep.open_slice ht ht' with ⟨h0,_⟩ | ⟨a',len',cap',m,n',D,Pl,hcs,hb,hl,hm,hmm,hx,hi⟩
  · simp at h0
  · simp only [List.cons.injEq,Value.slice.injEq,Option.some.injEq,and_true] at hcs
    obtain ⟨rfl,rfl,rfl⟩:=hcs
    simp only [if_true] at hmm
    subst hmm
    injection hx with h1 h2
    subst h1
    simp only [Rows.uptoBulk] at hw
    have l1:=bulk_len ((List.range len).map D)
    have l2:=bulk_len ((List.range (m - len)).map fun i=>D (len+i))
    refine ⟨by simp only [List.length_map,List.length_range] at l1 l2;omega,fun i hi'=>?_⟩
    obtain ⟨cs',hc,htr⟩:=hi i hi'
    refine ⟨cs',hc,H,enc,n',D i,Pl i,htr,?_⟩
    by_cases hlt:i<len
    · have:=bulk_part (l:=(List.range len).map D) (List.mem_map.2 ⟨i,by simpa using hlt,rfl⟩)
      omega
    · have:=bulk_part (d:=D i) (l:=(List.range (m - len)).map fun i=>D (len+i)) (List.mem_map.2 ⟨i - len,by simp;omega,by rw [show len+(i - len)=i by omega]⟩)
      omega
theorem RdU.cap {w:World} {t e:TypeId} {a:Addr} {len cap:Nat} (h:RdU w t [.slice (some a) len cap]) (ht:Tryz.prog.underlying t=some (.slice e)):cap≤1048576:=(h.slice ht).1
theorem coreU {f:FuncId} {fn:Func} {s:ChangeSpec} (up:Bool) (n:Nat) (hn:fn.params.size=n) (hvars:s.vars=[]) (hrt:fn.resultTypes=#[4])
    (hread0:fn.params.toList.all (fun t=>Tryz.prog.readableRec t&&decide (t < Tryz.prog.types.size))=true)
    (hs:∀ (H:Type) (ds:List (DataW H)),ds.length=n→(s.fn H ds).results=[.lit (.bool true)]∧(s.fn H ds).args=ds∧(s.fn H ds).vars=[])
    (H:Type) (enc:TypeId×Value→H) (W:World) (base:Nat) (args:Array Value) (ds gs:List (DataW H)) (before:List MemPlace)
    (hval:∀ (j:Nat) t v,fn.params[j]? = some t→args[j]? = some v→Value.okWide Tryz.prog W .any base t v)
    (hW:DataW.Whole enc Tryz.prog fn.params.toList s.vars false W args.toList ds gs before)
    (hcond:up=true→Rows.uptoBulkAll (ds++gs)≤1048576)
    (hsz:(DataW.weightsEach Tryz.prog (fn.params.toList++s.plain.varTypes Tryz.prog) (ds++gs)).all (· ≤ reachBytes)=true)
    (walk:args.size=n→(∀ (j:Nat) t v,fn.params[j]? = some t→args[j]? = some v→RdV W t v∧(up=true→RdU W t v.cells.toList))→Calls Tryz.prog f args W fun e W'=>e=.returned (.bool true)∧Q W W') :
    Calls Tryz.prog f args W fun e W'=>∃ v,e=.returned v∧s.post enc Tryz.prog fn false true false false W args v W':=by
  have hread:∀ t∈fn.params.toList,Tryz.prog.readableRec t=true∧t < Tryz.prog.types.size:=fun t ht=>by
   have:=List.all_eq_true.1 hread0 t ht
   simpa using this
  have hW':=hW
  have hlt:∀ x∈before,x.block<W.heap.size:=fun x hx=>by simpa using hW.lt x hx
  obtain ⟨p,q,hA,hV,rfl,hfz,hnd⟩:=hW
  rw [hvars] at hV
  obtain ⟨rfl,rfl⟩:=trodVars_none hV
  obtain ⟨e1,e2,h3⟩:=trodAll_len _ _ _ _ hA
  have hps:fn.params.toList.length=n:=by simpa using hn
  have hds:ds.length=n:=by omega
  have hsz2:∀ x∈DataW.weightsEach Tryz.prog (fn.params.toList++s.plain.varTypes Tryz.prog) (ds++[]),x≤140737488351232:=fun x hx=>by
   have:=List.all_eq_true.1 hsz x hx
   simpa [reachBytes] using of_decide_eq_true this
  refine (walk (by rw [←hps,←e1];simp) (fun j t v hj hv=>?_)).mono fun e W' ⟨he,hg⟩=>?_
  · obtain ⟨d,p',hd,fuel,htr⟩:=h3 j t v (by simpa using hj) (by simpa using hv)
    have hjl:j<n:=by
     have:=(Array.getElem?_eq_some_iff.1 hj).1;omega
    refine ⟨⟨⟨base,hval j t v hj hv⟩,H,enc,fuel,d,p',htr,fun x hx=>hsz2 x (DataW.weights_mem_each (j:=j) (t:=t) (d:=d) ?_ (by simpa using hd) x hx)⟩,fun hup=>⟨H,enc,fuel,d,p',htr,?_⟩⟩
    · rw [List.getElem?_append_left (by omega)]
      simpa using hj
    · have h1:=hcond hup
      have h2:=bulk_part (d:=d) (l:=ds++[]) (List.mem_append_left _ (List.mem_of_getElem? hd))
      omega
  · subst he
    simp only [List.append_nil] at hW' hlt
    obtain ⟨a1,a2,a3⟩:=hs H ds hds
    refine ⟨_,rfl,ds,[],p,[],p,[],hW',?_,?_,?_,hg.below.frame _,fun h=>by cases h⟩
    · rw [List.append_nil,a1,hrt]
      exact trodAll_mk1 (shut_bool Tryz.underlying4 _)
    · rw [List.append_nil,a2]
      exact trodAll_keep hg _ _ _ _ hread hA hlt
    · rw [List.append_nil,a3,hvars]
      rfl
end
section
open Go.ChangeShapes Go.WideShapes Go.ChangeAt Go.RowKit
theorem framedC {f:FuncId} {fn:Func} {s:ChangeSpec} (up:Bool) (laid:List (String×DataW Unit)) (n:Nat) (hn:fn.params.size=n) (hvars:s.vars=[]) (hrt:fn.resultTypes=#[4])
    (hread0:fn.params.toList.all (fun t=>Tryz.prog.readableRec t&&decide (t < Tryz.prog.types.size))=true)
    (hs:∀ (H:Type) (ds:List (DataW H)),ds.length=n→(s.fn H ds).results=[.lit (.bool true)]∧(s.fn H ds).args=ds∧(s.fn H ds).vars=[])
    (walk:∀ (W:World) (args:Array Value),args.size=n→(∀ (j:Nat) t v,fn.params[j]? = some t→args[j]? = some v→RdV W t v∧(up=true→RdU W t v.cells.toList))→laidMetH Tryz.prog laid W→Calls Tryz.prog f args W fun e W'=>e=.returned (.bool true)∧Q W W')
    (H:Type) (enc:TypeId×Value→H) (W:World) (base:Nat) (args:Array Value) (ds gs:List (DataW H)) (before:List MemPlace)
    (hval:∀ (j:Nat) t v,fn.params[j]? = some t→args[j]? = some v→Value.okWide Tryz.prog W .any base t v)
    (hW:DataW.Whole enc Tryz.prog fn.params.toList s.vars false W args.toList ds gs before)
    (hcond:up=true→Rows.uptoBulkAll (ds++gs)≤1048576)
    (hsz:(DataW.weightsEach Tryz.prog (fn.params.toList++s.plain.varTypes Tryz.prog) (ds++gs)).all (· ≤ reachBytes)=true)
    (hL:laidMetH Tryz.prog laid W) :
    Calls Tryz.prog f args W fun e W'=>∃ v,e=.returned v∧s.post enc Tryz.prog fn false true false false W args v W':=
  coreU up n hn hvars hrt hread0 hs H enc W base args ds gs before hval hW hcond hsz fun h1 h2=>walk W args h1 h2 hL
end
section
open Go.ChangeShapes Go.WideShapes Go.ChangeAt Go.RowKit
theorem gPow:Tryz.prog.globalNamed "internal/strconv.uint64pow10" = some 3:=by kernel_rfl
theorem gPowType:(Tryz.prog.globals[3]?).map (·.type)=some 276 := by kernel_rfl
theorem gPowCells:Tryz.prog.cellsOf 276 = 20:=by kernel_rfl
theorem gPowElem:Tryz.prog.cellsOf 104 = 1:=by kernel_rfl
end
section
open Go.ChangeShapes Go.WideShapes Go.ChangeAt Go.RowKit
theorem kvRt:(Tryz.prog.cutTypes.find? (·.1 == "internal/reflectlite.rtype")).map (·.2)=some 234 := by kernel_rfl
theorem kvEt:Tryz.prog.globalNamed "errors.errorType" = some 2:=by kernel_rfl
theorem kvOneRow:((List.range Tryz.prog.types.size).filter fun t=>Tryz.prog.rowNamed t [101,114,114,111,114])=[85]:=by kernel_rfl
theorem errT_laid {l:List (String×DataW Unit)} {W:World} (hm:("errors.errorType",Rows.laid_errors_errorType)∈l) (h:laidMetH Tryz.prog l W):ErrT W:=by
 have h2:=(laidMetH_iff.1 h).2 ("errors.errorType",Rows.laid_errors_errorType) (List.mem_filter.2 ⟨hm,by kernel_rfl⟩)
 obtain ⟨name,u,ty,e1,e2,e3,e4,e5⟩:=h2
 have en:name=[101,114,114,111,114]:=(Option.some.inj e1).symm
 subst en
 obtain rfl:=Option.some.inj (kvRt.symm.trans e2)
 have hm:ty∈(List.range Tryz.prog.types.size).filter fun t=>Tryz.prog.rowNamed t [101,114,114,111,114]:=List.mem_filter.2 ⟨List.mem_range.2 e3,e4⟩
 rw [kvOneRow] at hm
 obtain rfl:=List.mem_singleton.1 hm
 have hh:typeHandle Tryz.prog 85 = .pointer (some ⟨8, 85,none⟩):=by kernel_rfl
 rw [hh] at e5
 have:=World.var?_cell kvEt e5 0
 simpa [ErrT] using this
theorem kvGd:Tryz.prog.globalNamed "stanchion/kv.errDead" = some 0:=by kernel_rfl
theorem kvGdT:(Tryz.prog.globals[0]?).map (·.type)=some 85 := by kernel_rfl
theorem kvGr:Tryz.prog.globalNamed "stanchion/kv.errRefused" = some 1:=by kernel_rfl
theorem kvGrT:(Tryz.prog.globals[1]?).map (·.type)=some 85 := by kernel_rfl
theorem kvStar : "*" ++ "errors.errorString" = "*errors.errorString" := by decide
theorem kvRow (u:TypeId) (h:Tryz.prog.typeName? 3 u=some "*errors.errorString"):u = 326 :=
  typeName_ptr_named (nm := "errors.errorString") (by rw [kvStar];kernel_rfl) (by kernel_rfl) (by decide) u (by rw [kvStar];exact h)
theorem kvCells:Tryz.prog.cellsOf 328 = 1:=by kernel_rfl
theorem kvCellsS:Tryz.prog.cellsOf 9 = 1:=by kernel_rfl
theorem sen_laid {r:List (String×DataW Unit)} {W:World} (h:laidMet Tryz.prog (("stanchion/kv.errDead",Rows.laid_stanchion_kv_errDead) :: ("stanchion/kv.errRefused",Rows.laid_stanchion_kv_errRefused) :: r) W):∃ a b,Sen W a b:=by
 obtain ⟨a0,a1,s0,s1,c0,c1,t0,t1,v0,v1,_,_,_,_,_,_,hne,h0,h1⟩:=laid_sentinels2 h kvGd kvGdT kvGr kvGrT Tryz.underlying85 kvRow Tryz.underlying326 Tryz.underlying328 rfl rfl Tryz.underlying9 kvCells kvCellsS
 refine ⟨a0,a1,?_,?_,hne,⟨c0,t0,h0⟩,c1,t1,h1⟩
 · simpa using World.var?_cell kvGd v0 0
 · simpa using World.var?_cell kvGr v1 0
end
section
open Go.ChangeShapes Go.WideShapes Go.ChangeAt Go.RowKit
theorem stGd:Tryz.prog.globalNamed "strconv.ErrRange" = some 7:=by kernel_rfl
theorem stGdT:(Tryz.prog.globals[7]?).map (·.type)=some 85 := by kernel_rfl
theorem stGr:Tryz.prog.globalNamed "strconv.ErrSyntax" = some 6:=by kernel_rfl
theorem stGrT:(Tryz.prog.globals[6]?).map (·.type)=some 85 := by kernel_rfl
theorem stStar : "*" ++ "errors.errorString" = "*errors.errorString" := by decide
theorem stRow (u:TypeId) (h:Tryz.prog.typeName? 3 u=some "*errors.errorString"):u = 326 :=
  typeName_ptr_named (nm := "errors.errorString") (by rw [stStar];kernel_rfl) (by kernel_rfl) (by decide) u (by rw [stStar];exact h)
theorem stCells:Tryz.prog.cellsOf 328 = 1:=by kernel_rfl
theorem stCellsS:Tryz.prog.cellsOf 9 = 1:=by kernel_rfl
theorem errs_of {r:List (String×DataW Unit)} {W:World} (h:laidMet Tryz.prog (("strconv.ErrRange",Rows.laid_strconv_ErrRange) :: ("strconv.ErrSyntax",Rows.laid_strconv_ErrSyntax) :: r) W):Errs W:=by
 obtain ⟨a0,a1,s0,s1,c0,c1,t0,t1,v0,v1,_,_,_,_,_,_,hne,h0,h1⟩:=laid_sentinels2 h stGd stGdT stGr stGrT Tryz.underlying85 stRow Tryz.underlying326 Tryz.underlying328 rfl rfl Tryz.underlying9 stCells stCellsS
 exact ⟨⟨.iface 326 (.pointer (some a1)),by simpa using World.var?_cell stGr v1 0,.inr ⟨_,_,rfl⟩⟩,.iface 326 (.pointer (some a0)),by simpa using World.var?_cell stGd v0 0,.inr ⟨_,_,rfl⟩⟩
end
section
open Go.ChangeShapes Go.WideShapes Go.ChangeAt Go.RowKit
abbrev kvList2:List (String×DataW Unit):=[("math/bits.deBruijn32tab",Rows.laid_math_bits_deBruijn32tab),("math/bits.deBruijn64tab",Rows.laid_math_bits_deBruijn64tab),("internal/strconv.uint64pow10",Rows.laid_internal_strconv_uint64pow10),("errors.errorType",Rows.laid_errors_errorType),("strconv.ErrRange",Rows.laid_strconv_ErrRange),("strconv.ErrSyntax",Rows.laid_strconv_ErrSyntax),("stanchion/kv.errDead",Rows.laid_stanchion_kv_errDead),("stanchion/kv.errRefused",Rows.laid_stanchion_kv_errRefused)]
theorem kvListF2:(kvList2.filter fun x=>x.2.handleName?.isNone)=[("math/bits.deBruijn32tab",Rows.laid_math_bits_deBruijn32tab),("math/bits.deBruijn64tab",Rows.laid_math_bits_deBruijn64tab),("internal/strconv.uint64pow10",Rows.laid_internal_strconv_uint64pow10),("strconv.ErrRange",Rows.laid_strconv_ErrRange),("strconv.ErrSyntax",Rows.laid_strconv_ErrSyntax),("stanchion/kv.errDead",Rows.laid_stanchion_kv_errDead),("stanchion/kv.errRefused",Rows.laid_stanchion_kv_errRefused)]:=by rfl
theorem kt_laid2 {W:World} (h:laidMetH Tryz.prog kvList2 W):(∃ a b,Kt W a b)∧Errs W:=by
 have h1:=(laidMetH_iff.1 h).1
 rw [kvListF2] at h1
 have h3:=laidMet.tail (laidMet.tail h1)
 have hT:Tab W:=by
  have h2:laidMet Tryz.prog (("internal/strconv.uint64pow10",Lib.tabData .u64 Lib.pow10Tab) :: [("strconv.ErrRange",Rows.laid_strconv_ErrRange),("strconv.ErrSyntax",Rows.laid_strconv_ErrSyntax),("stanchion/kv.errDead",Rows.laid_stanchion_kv_errDead),("stanchion/kv.errRefused",Rows.laid_stanchion_kv_errRefused)]) W:=h3
  exact Lib.tabIs_of_head gPow gPowType Tryz.underlying276 Tryz.underlying104 gPowElem gPowCells h2
 have h4:=laidMet.tail h3
 obtain ⟨a,b,hS⟩:=sen_laid (laidMet.tail (laidMet.tail h4))
 exact ⟨⟨a,b,hT,errT_laid (by simp) h,hS⟩,errs_of h4⟩
end
end Go.Proofs.YtajidconlmhjfaaGreatDoor
