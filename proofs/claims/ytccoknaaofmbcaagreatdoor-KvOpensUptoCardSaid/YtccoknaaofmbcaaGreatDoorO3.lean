/- DiskRen, DiskRen2, DiskCrash, DiskAppend, DiskAppend2, DiskAppend3, DiskAppend4, DiskAppend5, DiskShown: merged. -/
import Derived.Test.YtccoknaaofmbcaaGreatDoorO2
set_option linter.unusedVariables false
set_option linter.unusedSimpArgs false
set_option maxRecDepth 100000
set_option maxHeartbeats 16000000
open Go.Lib (hid)
namespace Go.Proofs.YtccoknaaofmbcaaGreatDoor
section
open Go.RowKit Dkm
theorem str_eqb {a b:ByteArray}(h:a=b):(a.toList == b.toList)=true:=by rw[same_str];simpa using h
theorem str_ne {a b:ByteArray}(h:a≠b):(a.toList == b.toList)=false:=by rw[same_str];simpa using h
theorem ren_off (fr to:ByteArray)(A:Option Addr)(n c:Nat)(room fuse:Int)(l:List Fil)(w:World)(hd:Dsk w A n c l)(p o:Int)(hp:plc fr l 0=p)(ht:plc to l 0=o) :
  Calls Tryz.prog 155 #[dkv A n c room fuse true,.string fr,.string to] w fun e w'=>RetDE w ⟨l,room,fuse,true⟩ 6 e w':=by
 have HD:=hid hd
 have HN:=hid hd.max
 have HP:=hid hp
 have HT:=hid ht
 clear hd hp ht
 go_enter Tryz.func155,Tryz.ntmps155
 go_wp2_with fail
 refine(own_any A n c room fuse true l _ (HD.out.q (((Q.refl _).alloc _).alloc _))).mono ?_
 rintro e w1 ⟨A1,c1,rfl,ho,q1⟩
 have X:=hid (St.new (room1:=room) (fuse1:=fuse) (off1:=true) ho q1)
 obtain⟨⟨e0,e1,e2,e3⟩,f0,f1,f2',f3⟩:=St.get0 q1
 clear q1 ho
 go_upto_region 2 with (fail)
 generalize ((((w1.setCell ⟨w.heap.size,0,none⟩ (.slice A1 n c1)).setCell ⟨w.heap.size,1,none⟩ (.int .i64 room)).setCell ⟨w.heap.size,2,none⟩ (.int .i64 fuse)).setCell ⟨w.heap.size,3,none⟩ (.bool true))=W at X ⊢
 clear e0 e1 e2 e3 f0 f1 f2' f3
 obtain⟨⟨e0,e1,e2,e3⟩,f0,f1,f2',f3⟩:=X.out.get
 go_region_held3 (fun w'=>w'.cell? ⟨w.heap.size,0,none⟩=some (.slice A1 n c1)∧w'.cell? ⟨w.heap.size,1,none⟩=some (.int .i64 room)∧w'.cell? ⟨w.heap.size,2,none⟩=some (.int .i64 fuse)∧w'.cell? ⟨w.heap.size,3,none⟩=some (.bool true))
   (first
     | go_keep
     | (go_split_ands
        (repeat' apply And.intro)<;>exact box_ ‹Q _ _› (by assumption)))
   (first
     | (go_at_call 175
        (with_reducible refine(place fr A1 n c1 room fuse true l _ (X.out.own.files.q (Q.refl W).drew) HN.out).mono ?_)
        rw[HP.out]
        rintro e w2 ⟨rfl,q2⟩)
     | (go_at_call 175
        (with_reducible refine(place to A1 n c1 room fuse true l _ (X.out.own.files.q ((Q.refl W).drew.trans q2)) HN.out).mono ?_)
        rw[HT.out]
        rintro e w3 ⟨rfl,q3⟩))
 have Y:=hid (X.out.step (((Q.refl W).drew.trans q2).trans q3))
 clear X q2 q3 e0 e1 e2 e3 f0 f1 f2' f3
 obtain⟨⟨e0,e1,e2,e3⟩,f0,f1,f2',f3⟩:=Y.out.get
 obtain⟨⟨s0,s1,s2,s3⟩,h0,h1,h2,h3⟩:=Y.out.getR
 go_wp2
 refine bodyPost_ret (v:=.tuple #[dkv A1 n c1 room fuse true,.int .i64 6]) (by simp[results,Tryz.results155,go_sem,s0,s1,s2,s3]) rfl ?_
 exact Y.out.endDE 6 _ _ _ _
theorem ren_arg (fr to:ByteArray)(A:Option Addr)(n c:Nat)(room fuse:Int)(l:List Fil)(w:World)(hd:Dsk w A n c l)(p o:Int)(hp:plc fr l 0=p)(ht:plc to l 0=o)(hk:nmOk to=false) :
  Calls Tryz.prog 155 #[dkv A n c room fuse false,.string fr,.string to] w fun e w'=>RetDE w ⟨l,room,fuse,false⟩ 1 e w':=by
 have HD:=hid hd
 have HN:=hid hd.max
 have HP:=hid hp
 have HT:=hid ht
 clear hd hp ht
 have HK:=hid hk
 clear hk
 go_enter Tryz.func155,Tryz.ntmps155
 go_wp2_with fail
 refine(own_any A n c room fuse false l _ (HD.out.q (((Q.refl _).alloc _).alloc _))).mono ?_
 rintro e w1 ⟨A1,c1,rfl,ho,q1⟩
 have X:=hid (St.new (room1:=room) (fuse1:=fuse) (off1:=false) ho q1)
 obtain⟨⟨e0,e1,e2,e3⟩,f0,f1,f2',f3⟩:=St.get0 q1
 clear q1 ho
 go_upto_region 2 with (fail)
 generalize ((((w1.setCell ⟨w.heap.size,0,none⟩ (.slice A1 n c1)).setCell ⟨w.heap.size,1,none⟩ (.int .i64 room)).setCell ⟨w.heap.size,2,none⟩ (.int .i64 fuse)).setCell ⟨w.heap.size,3,none⟩ (.bool false))=W at X ⊢
 clear e0 e1 e2 e3 f0 f1 f2' f3
 obtain⟨⟨e0,e1,e2,e3⟩,f0,f1,f2',f3⟩:=X.out.get
 go_region_held3 (fun w'=>w'.cell? ⟨w.heap.size,0,none⟩=some (.slice A1 n c1)∧w'.cell? ⟨w.heap.size,1,none⟩=some (.int .i64 room)∧w'.cell? ⟨w.heap.size,2,none⟩=some (.int .i64 fuse)∧w'.cell? ⟨w.heap.size,3,none⟩=some (.bool false))
   (first
     | go_keep
     | (go_split_ands
        (repeat' apply And.intro)<;>exact box_ ‹Q _ _› (by assumption)))
   (first
     | (go_at_call 175
        (with_reducible refine(place fr A1 n c1 room fuse false l _ (X.out.own.files.q (Q.refl W).drew) HN.out).mono ?_)
        rw[HP.out]
        rintro e w2 ⟨rfl,q2⟩)
     | (go_at_call 175
        (with_reducible refine(place to A1 n c1 room fuse false l _ (X.out.own.files.q ((Q.refl W).drew.trans q2)) HN.out).mono ?_)
        rw[HT.out]
        rintro e w3 ⟨rfl,q3⟩))
 have Y:=hid (X.out.step (((Q.refl W).drew.trans q2).trans q3))
 clear X q2 q3 e0 e1 e2 e3 f0 f1 f2' f3
 obtain⟨⟨e0,e1,e2,e3⟩,f0,f1,f2',f3⟩:=Y.out.get
 go_wp2_with fail
 refine(named_any to _).mono ?_
 rintro e w4 ⟨rfl,rfl⟩
 rw[HK.out]
 obtain⟨⟨s0,s1,s2,s3⟩,h0,h1,h2,h3⟩:=Y.out.getR
 go_wp2
 refine bodyPost_ret (v:=.tuple #[dkv A1 n c1 room fuse false,.int .i64 1]) (by simp[results,Tryz.results155,go_sem,s0,s1,s2,s3]) rfl ?_
 exact Y.out.endDE 1 _ _ _ _
theorem ren_same (fr to:ByteArray)(A:Option Addr)(n c:Nat)(room fuse:Int)(l:List Fil)(w:World)(hd:Dsk w A n c l)(p o:Int)(hp:plc fr l 0=p)(ht:plc to l 0=o)(hk:nmOk to=true)(h0:0≤p)(he:fr=to) :
  Calls Tryz.prog 155 #[dkv A n c room fuse false,.string fr,.string to] w fun e w'=>RetDE w ⟨l,room,fuse,false⟩ 0 e w':=by
 have HD:=hid hd
 have HN:=hid hd.max
 have HP:=hid hp
 have HT:=hid ht
 clear hd hp ht
 have HK:=hid hk
 have hb:=str_eqb he
 clear hk he
 go_enter Tryz.func155,Tryz.ntmps155
 go_wp2_with fail
 refine(own_any A n c room fuse false l _ (HD.out.q (((Q.refl _).alloc _).alloc _))).mono ?_
 rintro e w1 ⟨A1,c1,rfl,ho,q1⟩
 have X:=hid (St.new (room1:=room) (fuse1:=fuse) (off1:=false) ho q1)
 obtain⟨⟨e0,e1,e2,e3⟩,f0,f1,f2',f3⟩:=St.get0 q1
 clear q1 ho
 go_upto_region 2 with (fail)
 generalize ((((w1.setCell ⟨w.heap.size,0,none⟩ (.slice A1 n c1)).setCell ⟨w.heap.size,1,none⟩ (.int .i64 room)).setCell ⟨w.heap.size,2,none⟩ (.int .i64 fuse)).setCell ⟨w.heap.size,3,none⟩ (.bool false))=W at X ⊢
 clear e0 e1 e2 e3 f0 f1 f2' f3
 obtain⟨⟨e0,e1,e2,e3⟩,f0,f1,f2',f3⟩:=X.out.get
 go_region_held3 (fun w'=>w'.cell? ⟨w.heap.size,0,none⟩=some (.slice A1 n c1)∧w'.cell? ⟨w.heap.size,1,none⟩=some (.int .i64 room)∧w'.cell? ⟨w.heap.size,2,none⟩=some (.int .i64 fuse)∧w'.cell? ⟨w.heap.size,3,none⟩=some (.bool false))
   (first
     | go_keep
     | (go_split_ands
        (repeat' apply And.intro)<;>exact box_ ‹Q _ _› (by assumption)))
   (first
     | (go_at_call 175
        (with_reducible refine(place fr A1 n c1 room fuse false l _ (X.out.own.files.q (Q.refl W).drew) HN.out).mono ?_)
        rw[HP.out]
        rintro e w2 ⟨rfl,q2⟩)
     | (go_at_call 175
        (with_reducible refine(place to A1 n c1 room fuse false l _ (X.out.own.files.q ((Q.refl W).drew.trans q2)) HN.out).mono ?_)
        rw[HT.out]
        rintro e w3 ⟨rfl,q3⟩))
 have Y:=hid (X.out.step (((Q.refl W).drew.trans q2).trans q3))
 clear X q2 q3 e0 e1 e2 e3 f0 f1 f2' f3
 obtain⟨⟨e0,e1,e2,e3⟩,f0,f1,f2',f3⟩:=Y.out.get
 go_wp2_with fail
 refine(named_any to _).mono ?_
 rintro e w4 ⟨rfl,rfl⟩
 rw[HK.out]
 obtain⟨⟨s0,s1,s2,s3⟩,h0,h1,h2,h3⟩:=Y.out.getR
 go_wp2
 refine bodyPost_ret (v:=.tuple #[dkv A1 n c1 room fuse false,.int .i64 0]) (by simp[results,Tryz.results155,go_sem,s0,s1,s2,s3]) rfl ?_
 exact Y.out.endDE 0 _ _ _ _
theorem ren_no1 (fr to:ByteArray)(A:Option Addr)(n c:Nat)(room fuse:Int)(l:List Fil)(w:World)(hd:Dsk w A n c l)(p o:Int)(hp:plc fr l 0=p)(ht:plc to l 0=o)(hk:nmOk to=true)(h0:p<0)(hfu:fuse≤9223372036854775807)(f2 er:Int)(o2:Bool)(hc:chg p fuse false=(f2,o2,er))(hne:er≠0) :
  Calls Tryz.prog 155 #[dkv A n c room fuse false,.string fr,.string to] w fun e w'=>RetDE w ⟨l,room,f2,o2⟩ er e w':=by
 have HD:=hid hd
 have HN:=hid hd.max
 have HP:=hid hp
 have HT:=hid ht
 clear hd hp ht
 have HK:=hid hk
 clear hk
 have HC:=hid hc
 have b1:(er == 0)=false:=by simpa using hne
 have b2:(er != 0)=true:=by simpa using hne
 clear hc hne
 go_enter Tryz.func155,Tryz.ntmps155
 go_wp2_with fail
 refine(own_any A n c room fuse false l _ (HD.out.q (((Q.refl _).alloc _).alloc _))).mono ?_
 rintro e w1 ⟨A1,c1,rfl,ho,q1⟩
 have X:=hid (St.new (room1:=room) (fuse1:=fuse) (off1:=false) ho q1)
 obtain⟨⟨e0,e1,e2,e3⟩,f0,f1,f2',f3⟩:=St.get0 q1
 clear q1 ho
 go_upto_region 2 with (fail)
 generalize ((((w1.setCell ⟨w.heap.size,0,none⟩ (.slice A1 n c1)).setCell ⟨w.heap.size,1,none⟩ (.int .i64 room)).setCell ⟨w.heap.size,2,none⟩ (.int .i64 fuse)).setCell ⟨w.heap.size,3,none⟩ (.bool false))=W at X ⊢
 clear e0 e1 e2 e3 f0 f1 f2' f3
 obtain⟨⟨e0,e1,e2,e3⟩,f0,f1,f2',f3⟩:=X.out.get
 go_region_held3 (fun w'=>w'.cell? ⟨w.heap.size,0,none⟩=some (.slice A1 n c1)∧w'.cell? ⟨w.heap.size,1,none⟩=some (.int .i64 room)∧w'.cell? ⟨w.heap.size,2,none⟩=some (.int .i64 fuse)∧w'.cell? ⟨w.heap.size,3,none⟩=some (.bool false))
   (first
     | go_keep
     | (go_split_ands
        (repeat' apply And.intro)<;>exact box_ ‹Q _ _› (by assumption)))
   (first
     | (go_at_call 175
        (with_reducible refine(place fr A1 n c1 room fuse false l _ (X.out.own.files.q (Q.refl W).drew) HN.out).mono ?_)
        rw[HP.out]
        rintro e w2 ⟨rfl,q2⟩)
     | (go_at_call 175
        (with_reducible refine(place to A1 n c1 room fuse false l _ (X.out.own.files.q ((Q.refl W).drew.trans q2)) HN.out).mono ?_)
        rw[HT.out]
        rintro e w3 ⟨rfl,q3⟩))
 have Y:=hid (X.out.step (((Q.refl W).drew.trans q2).trans q3))
 clear X q2 q3 e0 e1 e2 e3 f0 f1 f2' f3
 obtain⟨⟨e0,e1,e2,e3⟩,f0,f1,f2',f3⟩:=Y.out.get
 go_wp2_with fail
 refine(named_any to _).mono ?_
 rintro e w4 ⟨rfl,rfl⟩
 rw[HK.out]
 go_wp2_with fail
 have k3:=change_any A1 n c1 room fuse false p w3 hfu
 rw[HC.out] at k3
 refine k3.mono ?_
 clear k3
 rintro e w5 ⟨rfl,q5⟩
 have Z:=hid ((Y.out.step q5).put4 (room2:=room) (fuse2:=f2) (off2:=o2) (Y.out.step q5).own)
 have Z0:=Y.out.step q5
 clear Y q5 e0 e1 e2 e3 f0 f1 f2' f3
 obtain⟨⟨e0,e1,e2,e3⟩,f0,f1,f2',f3⟩:=Z0.get
 clear Z0
 go_upto_region 10 with (fail)
 generalize ((((w5.setCell ⟨w.heap.size,0,none⟩ (.slice A1 n c1)).setCell ⟨w.heap.size,1,none⟩ (.int .i64 room)).setCell ⟨w.heap.size,2,none⟩ (.int .i64 f2)).setCell ⟨w.heap.size,3,none⟩ (.bool o2))=w6 at Z ⊢
 clear e0 e1 e2 e3 f0 f1 f2' f3
 obtain⟨⟨e0,e1,e2,e3⟩,f0,f1,f2',f3⟩:=Z.out.get
 obtain⟨⟨s0,s1,s2,s3⟩,h0',h1,h2,h3⟩:=Z.out.getR
 go_wp2
 refine bodyPost_ret (v:=.tuple #[dkv A1 n c1 room f2 o2,.int .i64 er]) (by simp[results,Tryz.results155,go_sem,s0,s1,s2,s3]) rfl ?_
 exact Z.out.endDE er _ _ _ _
theorem ren_no2 (fr to:ByteArray)(A:Option Addr)(n c:Nat)(room fuse:Int)(l:List Fil)(w:World)(hd:Dsk w A n c l)(p o:Int)(hp:plc fr l 0=p)(ht:plc to l 0=o)(hk:nmOk to=true)(h0:0≤p)(he:fr≠to)(hfu:fuse≤9223372036854775807)(f2 er:Int)(o2:Bool)(hc:chg p fuse false=(f2,o2,er))(hne:er≠0) :
  Calls Tryz.prog 155 #[dkv A n c room fuse false,.string fr,.string to] w fun e w'=>RetDE w ⟨l,room,f2,o2⟩ er e w':=by
 have HD:=hid hd
 have HN:=hid hd.max
 have HP:=hid hp
 have HT:=hid ht
 clear hd hp ht
 have HK:=hid hk
 clear hk
 have HC:=hid hc
 have b1:(er == 0)=false:=by simpa using hne
 have b2:(er != 0)=true:=by simpa using hne
 clear hc hne
 have hb:=str_ne he
 clear he
 go_enter Tryz.func155,Tryz.ntmps155
 go_wp2_with fail
 refine(own_any A n c room fuse false l _ (HD.out.q (((Q.refl _).alloc _).alloc _))).mono ?_
 rintro e w1 ⟨A1,c1,rfl,ho,q1⟩
 have X:=hid (St.new (room1:=room) (fuse1:=fuse) (off1:=false) ho q1)
 obtain⟨⟨e0,e1,e2,e3⟩,f0,f1,f2',f3⟩:=St.get0 q1
 clear q1 ho
 go_upto_region 2 with (fail)
 generalize ((((w1.setCell ⟨w.heap.size,0,none⟩ (.slice A1 n c1)).setCell ⟨w.heap.size,1,none⟩ (.int .i64 room)).setCell ⟨w.heap.size,2,none⟩ (.int .i64 fuse)).setCell ⟨w.heap.size,3,none⟩ (.bool false))=W at X ⊢
 clear e0 e1 e2 e3 f0 f1 f2' f3
 obtain⟨⟨e0,e1,e2,e3⟩,f0,f1,f2',f3⟩:=X.out.get
 go_region_held3 (fun w'=>w'.cell? ⟨w.heap.size,0,none⟩=some (.slice A1 n c1)∧w'.cell? ⟨w.heap.size,1,none⟩=some (.int .i64 room)∧w'.cell? ⟨w.heap.size,2,none⟩=some (.int .i64 fuse)∧w'.cell? ⟨w.heap.size,3,none⟩=some (.bool false))
   (first
     | go_keep
     | (go_split_ands
        (repeat' apply And.intro)<;>exact box_ ‹Q _ _› (by assumption)))
   (first
     | (go_at_call 175
        (with_reducible refine(place fr A1 n c1 room fuse false l _ (X.out.own.files.q (Q.refl W).drew) HN.out).mono ?_)
        rw[HP.out]
        rintro e w2 ⟨rfl,q2⟩)
     | (go_at_call 175
        (with_reducible refine(place to A1 n c1 room fuse false l _ (X.out.own.files.q ((Q.refl W).drew.trans q2)) HN.out).mono ?_)
        rw[HT.out]
        rintro e w3 ⟨rfl,q3⟩))
 have Y:=hid (X.out.step (((Q.refl W).drew.trans q2).trans q3))
 clear X q2 q3 e0 e1 e2 e3 f0 f1 f2' f3
 obtain⟨⟨e0,e1,e2,e3⟩,f0,f1,f2',f3⟩:=Y.out.get
 go_wp2_with fail
 refine(named_any to _).mono ?_
 rintro e w4 ⟨rfl,rfl⟩
 rw[HK.out]
 go_wp2_with fail
 have k3:=change_any A1 n c1 room fuse false p w3 hfu
 rw[HC.out] at k3
 refine k3.mono ?_
 clear k3
 rintro e w5 ⟨rfl,q5⟩
 have Z:=hid ((Y.out.step q5).put4 (room2:=room) (fuse2:=f2) (off2:=o2) (Y.out.step q5).own)
 have Z0:=Y.out.step q5
 clear Y q5 e0 e1 e2 e3 f0 f1 f2' f3
 obtain⟨⟨e0,e1,e2,e3⟩,f0,f1,f2',f3⟩:=Z0.get
 clear Z0
 go_upto_region 10 with (fail)
 generalize ((((w5.setCell ⟨w.heap.size,0,none⟩ (.slice A1 n c1)).setCell ⟨w.heap.size,1,none⟩ (.int .i64 room)).setCell ⟨w.heap.size,2,none⟩ (.int .i64 f2)).setCell ⟨w.heap.size,3,none⟩ (.bool o2))=w6 at Z ⊢
 clear e0 e1 e2 e3 f0 f1 f2' f3
 obtain⟨⟨e0,e1,e2,e3⟩,f0,f1,f2',f3⟩:=Z.out.get
 obtain⟨⟨s0,s1,s2,s3⟩,h0',h1,h2,h3⟩:=Z.out.getR
 go_wp2
 refine bodyPost_ret (v:=.tuple #[dkv A1 n c1 room f2 o2,.int .i64 er]) (by simp[results,Tryz.results155,go_sem,s0,s1,s2,s3]) rfl ?_
 exact Z.out.endDE er _ _ _ _
theorem ren_plain (fr to:ByteArray)(A:Option Addr)(n c:Nat)(room fuse:Int)(l:List Fil)(w:World)(hd:Dsk w A n c l)(o:Int)(k:Nat)(hk:k<l.length)(hp:plc fr l 0=k)(ht:plc to l 0=o)(hok:nmOk to=true)(he:fr≠to)(hfu:fuse≤9223372036854775807)(f2:Int)(hc:chg k fuse false=(f2,false,0))(h0:o<0) :
  Calls Tryz.prog 155 #[dkv A n c room fuse false,.string fr,.string to] w fun e w'=>RetDE w ⟨l.set k ⟨to,l[k].sf,l[k].wt⟩,room,f2,false⟩ 0 e w':=by
 have hkn:k<n:=by have:=hd.len;omega
 obtain⟨m,rfl⟩:∃ m,n=m+1:=⟨n - 1,by omega⟩
 have HD:=hid hd
 have HN:=hid hd.max
 have HP:=hid hp
 have HT:=hid ht
 clear hd hp ht
 have HK:=hid hok
 clear hok
 have HC:=hid hc
 clear hc
 have hb:=str_ne he
 clear he
 go_enter Tryz.func155,Tryz.ntmps155
 go_wp2_with fail
 refine(own_any A (m+1) c room fuse false l _ (HD.out.q (((Q.refl _).alloc _).alloc _))).mono ?_
 rintro e w1 ⟨A1,c1,rfl,ho,q1⟩
 have X:=hid (St.new (room1:=room) (fuse1:=fuse) (off1:=false) ho q1)
 obtain⟨⟨e0,e1,e2,e3⟩,f0,f1,f2',f3⟩:=St.get0 q1
 clear q1 ho
 go_upto_region 2 with (fail)
 generalize ((((w1.setCell ⟨w.heap.size,0,none⟩ (.slice A1 (m+1) c1)).setCell ⟨w.heap.size,1,none⟩ (.int .i64 room)).setCell ⟨w.heap.size,2,none⟩ (.int .i64 fuse)).setCell ⟨w.heap.size,3,none⟩ (.bool false))=W at X ⊢
 clear e0 e1 e2 e3 f0 f1 f2' f3
 obtain⟨⟨e0,e1,e2,e3⟩,f0,f1,f2',f3⟩:=X.out.get
 go_region_held3 (fun w'=>w'.cell? ⟨w.heap.size,0,none⟩=some (.slice A1 (m+1) c1)∧w'.cell? ⟨w.heap.size,1,none⟩=some (.int .i64 room)∧w'.cell? ⟨w.heap.size,2,none⟩=some (.int .i64 fuse)∧w'.cell? ⟨w.heap.size,3,none⟩=some (.bool false))
   (first
     | go_keep
     | (go_split_ands
        (repeat' apply And.intro)<;>exact box_ ‹Q _ _› (by assumption)))
   (first
     | (go_at_call 175
        (with_reducible refine(place fr A1 (m+1) c1 room fuse false l _ (X.out.own.files.q (Q.refl W).drew) HN.out).mono ?_)
        rw[HP.out]
        rintro e w2 ⟨rfl,q2⟩)
     | (go_at_call 175
        (with_reducible refine(place to A1 (m+1) c1 room fuse false l _ (X.out.own.files.q ((Q.refl W).drew.trans q2)) HN.out).mono ?_)
        rw[HT.out]
        rintro e w3 ⟨rfl,q3⟩))
 have Y:=hid (X.out.step (((Q.refl W).drew.trans q2).trans q3))
 clear X q2 q3 e0 e1 e2 e3 f0 f1 f2' f3
 obtain⟨⟨e0,e1,e2,e3⟩,f0,f1,f2',f3⟩:=Y.out.get
 go_wp2_with fail
 refine(named_any to _).mono ?_
 rintro e w4 ⟨rfl,rfl⟩
 rw[HK.out]
 go_wp2_with fail
 have k3:=change_any A1 (m+1) c1 room fuse false k w3 hfu
 rw[HC.out] at k3
 refine k3.mono ?_
 clear k3
 rintro e w5 ⟨rfl,q5⟩
 have Z:=hid ((Y.out.step q5).put4 (room2:=room) (fuse2:=f2) (off2:=false) (Y.out.step q5).own)
 have Z0:=Y.out.step q5
 clear Y q5 e0 e1 e2 e3 f0 f1 f2' f3
 obtain⟨⟨e0,e1,e2,e3⟩,f0,f1,f2',f3⟩:=Z0.get
 clear Z0
 go_upto_region 10 with (fail)
 generalize ((((w5.setCell ⟨w.heap.size,0,none⟩ (.slice A1 (m+1) c1)).setCell ⟨w.heap.size,1,none⟩ (.int .i64 room)).setCell ⟨w.heap.size,2,none⟩ (.int .i64 f2)).setCell ⟨w.heap.size,3,none⟩ (.bool false))=w6 at Z ⊢
 clear e0 e1 e2 e3 f0 f1 f2' f3
 obtain⟨⟨e0,e1,e2,e3⟩,f0,f1,f2',f3⟩:=Z.out.get
 have hkl:k<l.length:=hk
 obtain⟨g,rfl,hg⟩:∃ g,A1=some ⟨g,0,none⟩∧w.heap.size+2≤g:=by
  rcases Z.out.own.parts with ⟨_,e,_⟩ | ⟨g,cur,rfl,hb,_⟩
  · cases e
  · exact⟨g,rfl,hb⟩
 obtain⟨c0,c1',c2,gw⟩:=own_file Z.out.own hkl
 obtain⟨z0,z1,z2,z3⟩:=Z.out.lt
 go_wp2_with fail
 refine(set_mid (w.heap.size+2) (some ⟨g,0,none⟩) (m+1) c1 k ⟨to,l[k].sf,l[k].wt⟩ l _ (Z.out.own.alloc _) hkn).mono ?_
 rintro e w7 ⟨rfl,o7,b7⟩
 have V:=hid ((Z.out.alloc (.cells #[.string to,.string l[k].sf,.string l[k].wt] 119)).wrote o7 b7)
 have V0:=(Z.out.alloc (.cells #[.string to,.string l[k].sf,.string l[k].wt] 119)).box.below b7 (by omega)
 clear Z o7 b7 e0 e1 e2 e3 f0 f1 f2' f3 c0 c1' c2
 obtain⟨⟨e0,e1,e2,e3⟩,f0,f1,f2',f3⟩:=V0.get4
 clear V0
 go_upto_region 15 with (fail)
 generalize w7.setCell ⟨w.heap.size,0,none⟩ (.slice (some ⟨g,0,none⟩) (m+1) c1)=w8 at V ⊢
 clear e0 e1 e2 e3 f0 f1 f2' f3
 obtain⟨⟨e0,e1,e2,e3⟩,f0,f1,f2',f3⟩:=V.out.get
 obtain⟨⟨s0,s1,s2,s3⟩,h0',h1,h2,h3⟩:=V.out.getR
 go_wp2
 refine bodyPost_ret (v:=.tuple #[dkv (some ⟨g,0,none⟩) (m+1) c1 room f2 false,.int .i64 0]) (by simp[results,Tryz.results155,go_sem,s0,s1,s2,s3]) rfl ?_
 exact V.out.endDE 0 _ _ _ _
theorem ren_over (fr to:ByteArray)(A:Option Addr)(n c:Nat)(room fuse:Int)(l:List Fil)(w:World)(hd:Dsk w A n c l)(o k:Nat)(hk:k<l.length)(ho:o<l.length)(hp:plc fr l 0=k)(ht:plc to l 0=o)(hok:nmOk to=true)(he:fr≠to)(hfu:fuse≤9223372036854775807)(f2:Int)(hc:chg k fuse false=(f2,false,0))(hs:l[o].sf.size+l[o].wt.size≤maxLen)(hok2:o≠k)(room2:Int)(hR:wrap64 (room+((l[o].sf.size+l[o].wt.size:Nat):Int))=room2) :
  Calls Tryz.prog 155 #[dkv A n c room fuse false,.string fr,.string to] w fun e w'=>RetDE w ⟨(l.set k ⟨to,l[k].sf,l[k].wt⟩).eraseIdx o,room2,f2,false⟩ 0 e w':=by
 have hkn:k<n:=by have:=hd.len;omega
 obtain⟨m,rfl⟩:∃ m,n=m+1:=⟨n - 1,by omega⟩
 have hon:o<m+1:=by have:=hd.len;omega
 have HD:=hid hd
 have HN:=hid hd.max
 have HP:=hid hp
 have HT:=hid ht
 clear hd hp ht
 have HK:=hid hok
 clear hok
 have HC:=hid hc
 clear hc
 have hb:=str_ne he
 clear he
 have ho2:o<(l.set k ⟨to,l[k].sf,l[k].wt⟩).length:=by simpa using ho
 have hge:(l.set k ⟨to,l[k].sf,l[k].wt⟩)[o]=l[o]:=List.getElem_set_ne (by omega) _
 have HG:=hid hge
 have HS:=hid hs
 have HR:=hid hR
 clear hge hs hR
 go_enter Tryz.func155,Tryz.ntmps155
 go_wp2_with fail
 refine(own_any A (m+1) c room fuse false l _ (HD.out.q (((Q.refl _).alloc _).alloc _))).mono ?_
 rintro e w1 ⟨A1,c1,rfl,ho,q1⟩
 have X:=hid (St.new (room1:=room) (fuse1:=fuse) (off1:=false) ho q1)
 obtain⟨⟨e0,e1,e2,e3⟩,f0,f1,f2',f3⟩:=St.get0 q1
 clear q1 ho
 go_upto_region 2 with (fail)
 generalize ((((w1.setCell ⟨w.heap.size,0,none⟩ (.slice A1 (m+1) c1)).setCell ⟨w.heap.size,1,none⟩ (.int .i64 room)).setCell ⟨w.heap.size,2,none⟩ (.int .i64 fuse)).setCell ⟨w.heap.size,3,none⟩ (.bool false))=W at X ⊢
 clear e0 e1 e2 e3 f0 f1 f2' f3
 obtain⟨⟨e0,e1,e2,e3⟩,f0,f1,f2',f3⟩:=X.out.get
 go_region_held3 (fun w'=>w'.cell? ⟨w.heap.size,0,none⟩=some (.slice A1 (m+1) c1)∧w'.cell? ⟨w.heap.size,1,none⟩=some (.int .i64 room)∧w'.cell? ⟨w.heap.size,2,none⟩=some (.int .i64 fuse)∧w'.cell? ⟨w.heap.size,3,none⟩=some (.bool false))
   (first
     | go_keep
     | (go_split_ands
        (repeat' apply And.intro)<;>exact box_ ‹Q _ _› (by assumption)))
   (first
     | (go_at_call 175
        (with_reducible refine(place fr A1 (m+1) c1 room fuse false l _ (X.out.own.files.q (Q.refl W).drew) HN.out).mono ?_)
        rw[HP.out]
        rintro e w2 ⟨rfl,q2⟩)
     | (go_at_call 175
        (with_reducible refine(place to A1 (m+1) c1 room fuse false l _ (X.out.own.files.q ((Q.refl W).drew.trans q2)) HN.out).mono ?_)
        rw[HT.out]
        rintro e w3 ⟨rfl,q3⟩))
 have Y:=hid (X.out.step (((Q.refl W).drew.trans q2).trans q3))
 clear X q2 q3 e0 e1 e2 e3 f0 f1 f2' f3
 obtain⟨⟨e0,e1,e2,e3⟩,f0,f1,f2',f3⟩:=Y.out.get
 go_wp2_with fail
 refine(named_any to _).mono ?_
 rintro e w4 ⟨rfl,rfl⟩
 rw[HK.out]
 go_wp2_with fail
 have k3:=change_any A1 (m+1) c1 room fuse false k w3 hfu
 rw[HC.out] at k3
 refine k3.mono ?_
 clear k3
 rintro e w5 ⟨rfl,q5⟩
 have Z:=hid ((Y.out.step q5).put4 (room2:=room) (fuse2:=f2) (off2:=false) (Y.out.step q5).own)
 have Z0:=Y.out.step q5
 clear Y q5 e0 e1 e2 e3 f0 f1 f2' f3
 obtain⟨⟨e0,e1,e2,e3⟩,f0,f1,f2',f3⟩:=Z0.get
 clear Z0
 go_upto_region 10 with (fail)
 generalize ((((w5.setCell ⟨w.heap.size,0,none⟩ (.slice A1 (m+1) c1)).setCell ⟨w.heap.size,1,none⟩ (.int .i64 room)).setCell ⟨w.heap.size,2,none⟩ (.int .i64 f2)).setCell ⟨w.heap.size,3,none⟩ (.bool false))=w6 at Z ⊢
 clear e0 e1 e2 e3 f0 f1 f2' f3
 obtain⟨⟨e0,e1,e2,e3⟩,f0,f1,f2',f3⟩:=Z.out.get
 have hkl:k<l.length:=hk
 obtain⟨g,rfl,hg⟩:∃ g,A1=some ⟨g,0,none⟩∧w.heap.size+2≤g:=by
  rcases Z.out.own.parts with ⟨_,e,_⟩ | ⟨g,cur,rfl,hb,_⟩
  · cases e
  · exact⟨g,rfl,hb⟩
 obtain⟨c0,c1',c2,gw⟩:=own_file Z.out.own hkl
 obtain⟨z0,z1,z2,z3⟩:=Z.out.lt
 go_wp2_with fail
 refine(set_mid (w.heap.size+2) (some ⟨g,0,none⟩) (m+1) c1 k ⟨to,l[k].sf,l[k].wt⟩ l _ (Z.out.own.alloc _) hkn).mono ?_
 rintro e w7 ⟨rfl,o7,b7⟩
 have V:=hid ((Z.out.alloc (.cells #[.string to,.string l[k].sf,.string l[k].wt] 119)).wrote o7 b7)
 have V0:=(Z.out.alloc (.cells #[.string to,.string l[k].sf,.string l[k].wt] 119)).box.below b7 (by omega)
 clear Z o7 b7 e0 e1 e2 e3 f0 f1 f2' f3 c0 c1' c2
 obtain⟨⟨e0,e1,e2,e3⟩,f0,f1,f2',f3⟩:=V0.get4
 clear V0
 go_upto_region 15 with (fail)
 generalize w7.setCell ⟨w.heap.size,0,none⟩ (.slice (some ⟨g,0,none⟩) (m+1) c1)=w8 at V ⊢
 clear e0 e1 e2 e3 f0 f1 f2' f3
 obtain⟨⟨e0,e1,e2,e3⟩,f0,f1,f2',f3⟩:=V.out.get
 go_wp2_with fail
 have k9:=drop_at (w.heap.size+2) g m c1 o room f2 false (l.set k ⟨to,l[k].sf,l[k].wt⟩) w8 V.out.own hon ho2 (by rw[HG.out];exact HS.out) HN.out
 rw[HG.out,HR.out] at k9
 refine k9.mono ?_
 clear k9
 rintro e w9 ⟨rfl,o9,g9⟩
 have B9:=V.out.box.only g9 (by omega)
 have R9:=V.out.res.only g9 (by omega)
 have Q9:Q w w9:=V.out.q.below.trans (only_below g9 (by omega) V.out.q.size)
 have U:=hid (And.intro (o9.set4 (b:=w.heap.size) (by omega) (.slice (some ⟨g,0,none⟩) m c1) (.int .i64 room2) (.int .i64 f2) (.bool false)) (And.intro (B9.put4 (.slice (some ⟨g,0,none⟩) m c1) (.int .i64 room2) (.int .i64 f2) (.bool false)) (And.intro (R9.far4 (c:=w.heap.size) (by omega) (.slice (some ⟨g,0,none⟩) m c1) (.int .i64 room2) (.int .i64 f2) (.bool false)) (Q9.set4 (b:=w.heap.size) (Nat.le_refl _) (.slice (some ⟨g,0,none⟩) m c1) (.int .i64 room2) (.int .i64 f2) (.bool false)))))
 clear R9 Q9 o9 g9 e0 e1 e2 e3 f0 f1 f2' f3
 obtain⟨⟨e0,e1,e2,e3⟩,f0,f1,f2',f3⟩:=B9.get4
 clear B9
 go_upto_region 17 with (fail)
 generalize ((((w9.setCell ⟨w.heap.size,0,none⟩ (.slice (some ⟨g,0,none⟩) m c1)).setCell ⟨w.heap.size,1,none⟩ (.int .i64 room2)).setCell ⟨w.heap.size,2,none⟩ (.int .i64 f2)).setCell ⟨w.heap.size,3,none⟩ (.bool false))=w10 at U ⊢
 clear e0 e1 e2 e3 f0 f1 f2' f3
 have S:Hid (St w (some ⟨g,0,none⟩) m c1 room2 f2 false ((l.set k ⟨to,l[k].sf,l[k].wt⟩).eraseIdx o) w10):=hid ⟨U.out.1,U.out.2.1,U.out.2.2.1,U.out.2.2.2⟩
 clear U
 obtain⟨⟨e0,e1,e2,e3⟩,f0,f1,f2',f3⟩:=S.out.get
 obtain⟨⟨s0,s1,s2,s3⟩,h0',h1,h2,h3⟩:=S.out.getR
 go_wp2
 refine bodyPost_ret (v:=.tuple #[dkv (some ⟨g,0,none⟩) m c1 room2 f2 false,.int .i64 0]) (by simp[results,Tryz.results155,go_sem,s0,s1,s2,s3]) rfl ?_
 exact S.out.endDE 0 _ _ _ _
end
section
open Go.RowKit Dkm
theorem chg_none (p fuse:Int)(h:p<0):chg p fuse false=(fuse,false,7):=by simp[chg,h]
theorem chg_off (p fuse:Int):chg p fuse true=(fuse,true,6):=by simp[chg]
theorem chg_zero (k:Nat):chg k 0 false=(0,true,6):=by unfold chg;rw[if_neg (by simp),if_pos (by simp)]
theorem chg_pos (k:Nat)(fuse:Int)(h:0<fuse):chg k fuse false=(fuse - 1,false,0):=by unfold chg;rw[if_neg (by simp),if_neg (by simp;omega),if_pos h]
theorem chg_neg (k:Nat)(fuse:Int)(h:fuse<0):chg k fuse false=(fuse,false,0):=by unfold chg;rw[if_neg (by simp),if_neg (by simp;omega),if_neg (by omega)]
theorem pow_zero (l:List Fil)(room:Int)(off:Bool):pow ⟨l,room,0,off⟩=(⟨l,room,0,true⟩,false):=by simp[pow]
theorem pow_pos (l:List Fil)(room fuse:Int)(off:Bool)(h:0<fuse):pow ⟨l,room,fuse,off⟩=(⟨l,room,fuse - 1,off⟩,true):=by
 unfold pow;simp only;rw[if_neg (by omega),if_pos h]
theorem pow_neg (l:List Fil)(room fuse:Int)(off:Bool)(h:fuse<0):pow ⟨l,room,fuse,off⟩=(⟨l,room,fuse,off⟩,true):=by
 unfold pow;simp only;rw[if_neg (by omega),if_neg (by omega)]
theorem lss_at {l:List Fil}{room fuse:Int}{off:Bool}{k:Nat}(hk:k<l.length):lss ⟨l,room,fuse,off⟩ k=⟨l.eraseIdx k,wrap64 (room+((l[k].sf.size+l[k].wt.size:Nat):Int)),fuse,off⟩:=by
 simp[lss,hk]
theorem nmd_at {l:List Fil}{room fuse:Int}{off:Bool}{k:Nat}(hk:k<l.length)(to:ByteArray):nmd ⟨l,room,fuse,off⟩ k to=⟨l.set k ⟨to,l[k].sf,l[k].wt⟩,room,fuse,off⟩:=by
 simp[nmd,hk]
theorem del_any (nm:ByteArray)(A:Option Addr)(n c:Nat)(d:Dk)(w:World)(hd:Dsk w A n c d.fs)(hs:∀ f∈d.fs,f.sf.size+f.wt.size≤maxLen)(hfu:d.fuse≤9223372036854775807) :
  Calls Tryz.prog 154 #[dkv A n c d.room d.fuse d.off,.string nm] w fun e w'=>RetDE w (del d nm).1 (del d nm).2 e w':=by
 obtain⟨l,room,fuse,off⟩:=d
 simp only at hd hs hfu ⊢
 cases off
 · rcases plc_cases nm l with ⟨hp,hall⟩ | ⟨k,hk,hp,hkn,hfirst⟩
   · rw[show del ⟨l,room,fuse,false⟩ nm=(⟨l,room,fuse,false⟩,7) by simp[del,hit_none hall]]
     exact delete_no nm A n c room fuse false l w hd hfu _ hp fuse 7 false (chg_none _ _ (by omega)) (by omega)
   · rcases Int.lt_trichotomy fuse 0 with h2 | h2 | h2
     · rw[show del ⟨l,room,fuse,false⟩ nm=(lss ⟨l,room,fuse,false⟩ k,0) by simp[del,hit_at hk hkn hfirst,opn_at hk hkn hfirst,pow_neg _ _ _ _ h2],lss_at hk]
       exact delete_yes nm A n c room fuse l w hd hfu k hk hp fuse (chg_neg k fuse h2) (hs _ (List.getElem_mem hk))
     · subst h2
       rw[show del ⟨l,room,0,false⟩ nm=(⟨l,room,0,true⟩,6) by simp[del,hit_at hk hkn hfirst,pow_zero]]
       exact delete_no nm A n c room 0 false l w hd hfu _ hp 0 6 true (chg_zero k) (by omega)
     · rw[show del ⟨l,room,fuse,false⟩ nm=(lss ⟨l,room,fuse - 1,false⟩ k,0) by simp[del,hit_at hk hkn hfirst,opn_at hk hkn hfirst,pow_pos _ _ _ _ h2],lss_at hk]
       exact delete_yes nm A n c room fuse l w hd hfu k hk hp (fuse - 1) (chg_pos k fuse h2) (hs _ (List.getElem_mem hk))
 · exact delete_no nm A n c room fuse true l w hd hfu _ rfl fuse 6 true (chg_off _ _) (by omega)
theorem ren_any (fr to:ByteArray)(A:Option Addr)(n c:Nat)(d:Dk)(w:World)(hd:Dsk w A n c d.fs)(hs:∀ f∈d.fs,f.sf.size+f.wt.size≤maxLen)(hfu:d.fuse≤9223372036854775807) :
  Calls Tryz.prog 155 #[dkv A n c d.room d.fuse d.off,.string fr,.string to] w fun e w'=>RetDE w (ren d fr to).1 (ren d fr to).2 e w':=by
 obtain⟨l,room,fuse,off⟩:=d
 simp only at hd hs hfu ⊢
 cases off
 · cases hok : nmOk to
   · rw[show ren ⟨l,room,fuse,false⟩ fr to=(⟨l,room,fuse,false⟩,1) by simp[ren,hok]]
     exact ren_arg fr to A n c room fuse l w hd _ _ rfl rfl hok
   · rcases plc_cases fr l with ⟨hp,hall⟩ | ⟨k,hk,hp,hkn,hfirst⟩
     · rw[show ren ⟨l,room,fuse,false⟩ fr to=(⟨l,room,fuse,false⟩,7) by simp[ren,hok,hit_none hall]]
       exact ren_no1 fr to A n c room fuse l w hd _ _ hp rfl hok (by omega) hfu fuse 7 false (chg_none _ _ (by omega)) (by omega)
     · by_cases he:fr=to
       · rw[show ren ⟨l,room,fuse,false⟩ fr to=(⟨l,room,fuse,false⟩,0) by subst he;simp[ren,hok,hit_at hk hkn hfirst]]
         exact ren_same fr to A n c room fuse l w hd _ _ hp rfl hok (by omega) he
       · by_cases hz:fuse=0
         · subst hz
           rw[show ren ⟨l,room,0,false⟩ fr to=(⟨l,room,0,true⟩,6) by simp[ren,hok,hit_at hk hkn hfirst,he,pow_zero]]
           exact ren_no2 fr to A n c room 0 l w hd _ _ hp rfl hok (by omega) he hfu 0 6 true (chg_zero k) (by omega)
         · obtain⟨f2,hc,hpw⟩:∃ f2,chg k fuse false=(f2,false,0)∧pow ⟨l,room,fuse,false⟩=(⟨l,room,f2,false⟩,true):=by
             rcases Int.lt_or_gt_of_ne hz with h | h
             · exact⟨fuse,chg_neg k fuse h,pow_neg _ _ _ _ h⟩
             · exact⟨fuse - 1,chg_pos k fuse h,pow_pos _ _ _ _ h⟩
           rcases plc_cases to l with ⟨hp2,hall2⟩ | ⟨o,ho,hp2,hon,hfirst2⟩
           · rw[show ren ⟨l,room,fuse,false⟩ fr to=(nmd ⟨l,room,f2,false⟩ k to,0) by simp[ren,hok,hit_at hk hkn hfirst,opn_at hk hkn hfirst,he,hpw,hit_none hall2],nmd_at hk]
             exact ren_plain fr to A n c room fuse l w hd _ k hk hp hp2 hok he hfu f2 hc (by omega)
           · have hne:o≠k:=by rintro rfl;exact he (hkn.symm.trans hon)
             have ho2:o<(l.set k ⟨to,l[k].sf,l[k].wt⟩).length:=by simpa using ho
             have hge:(l.set k ⟨to,l[k].sf,l[k].wt⟩)[o]=l[o]:=List.getElem_set_ne (by omega) _
             rw[show ren ⟨l,room,fuse,false⟩ fr to=(lss (nmd ⟨l,room,f2,false⟩ k to) o,0) by simp[ren,hok,hit_at hk hkn hfirst,opn_at hk hkn hfirst,he,hpw,hit_at ho hon hfirst2,opn_at ho hon hfirst2],nmd_at hk,lss_at ho2,hge]
             exact ren_over fr to A n c room fuse l w hd o k hk ho hp hp2 hok he hfu f2 hc (hs _ (List.getElem_mem ho)) hne _ rfl
 · exact ren_off fr to A n c room fuse l w hd _ _ rfl rfl
end
section
open Go.RowKit Dkm
theorem crash_any (A:Option Addr)(n c:Nat)(room fuse:Int)(off:Bool)(K:Option Addr)(kn kc:Nat)(ks:List Int)(l:List Fil)(w:World)(hd:Dsk w A n c l)(hk:Ints w K kn ks)(hkn:kn≤maxLen)(hs:∀ f∈l,f.sf.size+f.wt.size≤maxLen) :
  Calls Tryz.prog 61 #[dkv A n c room fuse off,.slice K kn kc] w fun e w'=>RetD w (crs ⟨l,room,fuse,off⟩ ks) e w':=by
 have hnm:=hd.max
 unfold maxLen at hnm hkn
 have HD:=hid hd
 have HK:=hid hk
 have HL:=hid hd.len
 have HKL:=hid hk.len
 have HS:=hid hs
 clear hd hk hs
 go_enter Tryz.func61,Tryz.ntmps61
 go_wp2_with fail
 refine(own_any A n c room fuse off l _ (HD.out.q (((Q.refl _).alloc _).alloc _))).mono ?_
 rintro e w1 ⟨A1,c1,rfl,ho,q1⟩
 have X:=hid (St.new (room1:=room) (fuse1:=fuse) (off1:=off) ho q1)
 obtain⟨⟨e0,e1,e2,e3⟩,f0,f1,f2,f3⟩:=St.get0 q1
 clear q1 ho
 go_upto_region 2 with (fail)
 generalize ((((w1.setCell ⟨w.heap.size,0,none⟩ (.slice A1 n c1)).setCell ⟨w.heap.size,1,none⟩ (.int .i64 room)).setCell ⟨w.heap.size,2,none⟩ (.int .i64 fuse)).setCell ⟨w.heap.size,3,none⟩ (.bool off))=w2 at X ⊢
 clear e0 e1 e2 e3 f0 f1 f2 f3
 obtain⟨⟨e0,e1,e2,e3⟩,f0,f1,f2,f3⟩:=X.out.get
 go_wp2
 go_loopw [13] (fun i wr=>∃ k:Nat,k≤n∧i=.int .i64 k∧St w A1 n c1 (croom ks l room k) fuse off (crl ks l k) wr) (fun i _=>n - (intOf i).toNat)
 case atStart=>exact⟨0,Nat.zero_le _,rfl,by rw[crl_zero];exact X.out⟩
 case round =>
  obtain⟨k,hk,rfl,hst⟩:=hrel
  have Y:=hid hst
  clear e0 e1 e2 e3 f0 f1 f2 f3 hst
  obtain⟨⟨d0,d1,d2,d3⟩,g0,g1,g2,g3⟩:=Y.out.get
  obtain⟨z0,z1,z2,z3⟩:=Y.out.lt
  by_cases hlt:k<n
  · have hkl:k<l.length:=by have:=HL.out;omega
    obtain⟨ad,rfl,hb,c0,c1',c2⟩:=Y.out.own.files.load hlt (by rw[crl_len];exact hkl)
    rw[crl_get ks l k hkl] at c0 c1' c2
    have hsz:=HS.out l[k] (List.getElem_mem hkl)
    unfold maxLen at hsz
    have hkp:=kp_le ks k l[k]
    by_cases hkk:k<kn
    · have hkk':k<ks.length:=by have:=HKL.out;omega
      obtain⟨ka,rfl,hkb,kc0⟩:=(HK.out.q (Y.out.q.alloc (.cells #[.string l[k].nm,.string l[k].sf,.string l[k].wt] 119))).load hkk'
      have hmin:=kp_in l[k] hkk'
      go_wp2
      go_region
      clear hmin kc0
      go_wp2
      go_region
      go_wp2_with fail
      have Z:=((Y.out.setRoom (wrap64 (croom ks l room k+((l[k].wt.size:Int) - (kp ks k l[k]:Int))))).alloc (.cells #[.string l[k].nm,.string (l[k].sf++l[k].wt.extract 0 (kp ks k l[k])),.string ⟨#[]⟩] 119)).drew.drew
      refine(set_mid (w.heap.size+2) (some ad) n c1 k ⟨l[k].nm,l[k].sf++l[k].wt.extract 0 (kp ks k l[k]),⟨#[]⟩⟩ (crl ks l k) _ Z.own hlt).mono ?_
      rintro e w3 ⟨rfl,ho3,b3⟩
      have V:=hid (Z.wrote ho3 b3)
      clear d0 d1 d2 d3 g0 g1 g2 g3 c0 c1' c2
      obtain⟨⟨d0,d1,d2,d3⟩,g0,g1,g2,g3⟩:=(Z.box.below b3 (by omega)).get4
      clear Z ho3 b3
      go_wp2
      go_roundw
      case rel=>exact⟨k+1,by omega,by go_num,by rw[crl_succ ks l k hkl,croom_succ ks l room k hkl];exact V.out⟩
      case measure=>simp[intOf];omega
    · have hkk':¬ k<ks.length:=by have:=HKL.out;omega
      have HKP:=hid (kp_out l[k] hkk')
      clear hkk'
      go_wp2
      go_region
      go_wp2_with fail
      have Z:=((Y.out.setRoom (wrap64 (croom ks l room k+(l[k].wt.size:Int)))).alloc (.cells #[.string l[k].nm,.string l[k].sf,.string ⟨#[]⟩] 119)).drew
      refine(set_mid (w.heap.size+2) (some ad) n c1 k ⟨l[k].nm,l[k].sf,⟨#[]⟩⟩ (crl ks l k) _ Z.own hlt).mono ?_
      rintro e w3 ⟨rfl,ho3,b3⟩
      have V:=hid (Z.wrote ho3 b3)
      clear d0 d1 d2 d3 g0 g1 g2 g3 c0 c1' c2
      obtain⟨⟨d0,d1,d2,d3⟩,g0,g1,g2,g3⟩:=(Z.box.below b3 (by omega)).get4
      clear Z ho3 b3
      go_wp2
      go_roundw
      case rel=>exact⟨k+1,by omega,by go_num,by rw[crl_succ ks l k hkl,croom_succ ks l room k hkl,crf_zero HKP.out,HKP.out];simpa using V.out⟩
      case measure=>simp[intOf];omega
  · have e:n=k:=by omega
    subst e
    obtain⟨⟨s0,s1,s2,s3⟩,h0,h1,h2,h3⟩:=Y.out.getR
    go_wp2
    refine bodyPost_ret (v:=dkv A1 n c1 (croom ks l room n) (-1) false) (by simp[results,Tryz.results61,go_sem,s0,s1,s2,s3]) rfl ?_
    have E:=((Y.out.setFuse (-1)).setOff false).endD (.slice A1 n c1) (.int .i64 (croom ks l room n)) (.int .i64 (-1)) (.bool false)
    rw[show crs ⟨l,room,fuse,off⟩ ks=⟨crl ks l n,croom ks l room n,-1,false⟩ by unfold crs;rw[HL.out]]
    exact E
end
section
open Go.RowKit Dkm
theorem Own.setNew {w0 w:World}{base:Nat}{A:Option Addr}{n c:Nat}{l0 l:List Fil}(h0:Own w0 base A n c l0)(h:Own w base A n c l){p:Addr}(hp:w0.heap.size≤p.block)(u:Value):Own (w.setCell p u) base A n c l:=by
 refine⟨h.1,?_⟩
 rcases h.2 with ⟨e,hz⟩ | ⟨g,cap,cur,e,hg,hh,r⟩
 · exact .inl ⟨e,hz⟩
 · refine .inr ⟨g,cap,cur,e,hg,(heap_setCell_other w p g u ?_).trans hh,r⟩
   rcases h0.parts with ⟨rfl,_⟩ | ⟨g',cur',rfl,hb,hh',_⟩
   · injection e with e;cases e
   · injection e with e;injection e with e;injection e with e
     subst e
     have:g' < w0.heap.size:=by
      rcases Nat.lt_or_ge g' w0.heap.size with hlt | hge
      · exact hlt
      · rw[Array.getElem?_eq_none hge] at hh';cases hh'
     omega
theorem append_off (nm s:ByteArray)(A:Option Addr)(n c:Nat)(room fuse:Int)(l:List Fil)(w:World)(hd:Dsk w A n c l)(f:Fil)(k:Nat)(hop:opn nm l=(f,k))(hk:k≤n)(hf:f.sf.size+f.wt.size≤2305843009213693952)(hs:s.size≤2305843009213693952) :
  Calls Tryz.prog 147 #[dkv A n c room fuse true,.string nm,.string s] w fun e w'=>RetDE w ⟨l,room,fuse,true⟩ 6 e w':=by
 have HD:=hid hd
 have HN:=hid hd.max
 have hlen:=hid hd.len
 have hnm:=hd.max
 unfold maxLen at hnm
 have HOP:=hid hop
 clear hd hop
 obtain⟨fa,fb,fc⟩:=f
 simp only at hf
 go_enter Tryz.func147,Tryz.ntmps147
 go_wp2_with fail
 have B0:=two_new w (.slice A n c) (.int .i64 room) (.int .i64 fuse) (.bool true) (.slice none 0 0) (.int .i64 0) (.int .i64 0) (.bool false) 24
 refine(own_any A n c room fuse true l _ (HD.out.q (((Q.refl _).alloc _).alloc _))).mono ?_
 rintro e w1 ⟨A1,c1,rfl,ho,q1⟩
 rw[size_two] at ho
 have HO:=hid (ho.set4 (b:=w.heap.size) (by omega) (.slice A1 n c1) (.int .i64 room) (.int .i64 fuse) (.bool true))
 have D1:=hid ((B0.1.q q1).put4 (.slice A1 n c1) (.int .i64 room) (.int .i64 fuse) (.bool true))
 have R1:=hid ((B0.2.q q1).far4 (c:=w.heap.size) (by omega) (.slice A1 n c1) (.int .i64 room) (.int .i64 fuse) (.bool true))
 have Q1:=hid ((((((Q.refl w).alloc _).alloc _).trans q1)).set4 (b:=w.heap.size) (Nat.le_refl _) (.slice A1 n c1) (.int .i64 room) (.int .i64 fuse) (.bool true))
 obtain⟨⟨e0,e1,e2,e3⟩,f0,f1,f2,f3⟩:=(B0.1.q q1).get4
 clear B0 q1 ho
 go_wp2_with fail
 refine(open_any nm A1 n c1 room fuse true l _ HO.out.files HN.out).mono ?_
 rintro e w2 ⟨rfl,q2⟩
 rw[HOP.out]
 have HO2:=hid (HO.out.q q2)
 have Q2:=hid (Q1.out.trans q2)
 have z0:w.heap.size<w2.heap.size:=(D1.out.q q2).lt
 have z1:w.heap.size+1<w2.heap.size:=(R1.out.q q2).lt
 have z2:w.heap.size≠w2.heap.size:=by omega
 have z3:w.heap.size+1≠w2.heap.size:=by omega
 have D2:=hid (D1.out.q q2)
 have R2:=hid (R1.out.q q2)
 obtain⟨⟨d0,d1,d2,d3⟩,g0,g1,g2,g3⟩:=(D1.out.q q2).get4
 obtain⟨⟨s0,s1,s2,s3⟩,h0,h1,h2,h3⟩:=(R1.out.q q2).get4
 clear q2 e0 e1 e2 e3 f0 f1 f2 f3
 go_wp2
 refine bodyPost_ret (v:=.tuple #[dkv A1 n c1 room fuse true,.int .i64 6]) (by simp[results,Tryz.results147,go_sem,s0,s1,s2,s3,z1]) rfl ⟨A1,n,c1,rfl,(((HO2.out).set4 (b:=w.heap.size+1) (by omega) _ _ _ _).alloc _).lower (by omega),((Q2.out).set4 (b:=w.heap.size+1) (by omega) _ _ _ _).alloc _⟩
theorem append_arg (nm s:ByteArray)(A:Option Addr)(n c:Nat)(room fuse:Int)(l:List Fil)(w:World)(hd:Dsk w A n c l)(f:Fil)(k:Nat)(hop:opn nm l=(f,k))(hk:k≤n)(hf:f.sf.size+f.wt.size≤2305843009213693952)(hs:s.size≤2305843009213693952)(hn:nmOk nm=false) :
  Calls Tryz.prog 147 #[dkv A n c room fuse false,.string nm,.string s] w fun e w'=>RetDE w ⟨l,room,fuse,false⟩ 1 e w':=by
 have HNM:=hid hn
 clear hn
 have HD:=hid hd
 have HN:=hid hd.max
 have hlen:=hid hd.len
 have hnm:=hd.max
 unfold maxLen at hnm
 have HOP:=hid hop
 clear hd hop
 obtain⟨fa,fb,fc⟩:=f
 simp only at hf
 go_enter Tryz.func147,Tryz.ntmps147
 go_wp2_with fail
 have B0:=two_new w (.slice A n c) (.int .i64 room) (.int .i64 fuse) (.bool false) (.slice none 0 0) (.int .i64 0) (.int .i64 0) (.bool false) 24
 refine(own_any A n c room fuse false l _ (HD.out.q (((Q.refl _).alloc _).alloc _))).mono ?_
 rintro e w1 ⟨A1,c1,rfl,ho,q1⟩
 rw[size_two] at ho
 have HO:=hid (ho.set4 (b:=w.heap.size) (by omega) (.slice A1 n c1) (.int .i64 room) (.int .i64 fuse) (.bool false))
 have D1:=hid ((B0.1.q q1).put4 (.slice A1 n c1) (.int .i64 room) (.int .i64 fuse) (.bool false))
 have R1:=hid ((B0.2.q q1).far4 (c:=w.heap.size) (by omega) (.slice A1 n c1) (.int .i64 room) (.int .i64 fuse) (.bool false))
 have Q1:=hid ((((((Q.refl w).alloc _).alloc _).trans q1)).set4 (b:=w.heap.size) (Nat.le_refl _) (.slice A1 n c1) (.int .i64 room) (.int .i64 fuse) (.bool false))
 obtain⟨⟨e0,e1,e2,e3⟩,f0,f1,f2,f3⟩:=(B0.1.q q1).get4
 clear B0 q1 ho
 go_wp2_with fail
 refine(open_any nm A1 n c1 room fuse false l _ HO.out.files HN.out).mono ?_
 rintro e w2 ⟨rfl,q2⟩
 rw[HOP.out]
 have HO2:=hid (HO.out.q q2)
 have Q2:=hid (Q1.out.trans q2)
 have z0:w.heap.size<w2.heap.size:=(D1.out.q q2).lt
 have z1:w.heap.size+1<w2.heap.size:=(R1.out.q q2).lt
 have z2:w.heap.size≠w2.heap.size:=by omega
 have z3:w.heap.size+1≠w2.heap.size:=by omega
 have D2:=hid (D1.out.q q2)
 have R2:=hid (R1.out.q q2)
 obtain⟨⟨d0,d1,d2,d3⟩,g0,g1,g2,g3⟩:=(D1.out.q q2).get4
 obtain⟨⟨s0,s1,s2,s3⟩,h0,h1,h2,h3⟩:=(R1.out.q q2).get4
 clear q2 e0 e1 e2 e3 f0 f1 f2 f3
 go_wp2_with fail
 refine(named_any nm _).mono ?_
 rintro e w' ⟨rfl,rfl⟩
 rw[HNM.out]
 go_wp2
 refine bodyPost_ret (v:=.tuple #[dkv A1 n c1 room fuse false,.int .i64 1]) (by simp[results,Tryz.results147,go_sem,s0,s1,s2,s3,z1]) rfl ⟨A1,n,c1,rfl,(((HO2.out).set4 (b:=w.heap.size+1) (by omega) _ _ _ _).alloc _).lower (by omega),((Q2.out).set4 (b:=w.heap.size+1) (by omega) _ _ _ _).alloc _⟩
theorem append_full1 (nm s:ByteArray)(A:Option Addr)(n c:Nat)(room fuse:Int)(l:List Fil)(w:World)(hd:Dsk w A n c l)(f:Fil)(k:Nat)(hop:opn nm l=(f,k))(hk:k≤n)(hf:f.sf.size+f.wt.size≤2305843009213693952)(hs:s.size≤2305843009213693952)(hn:nmOk nm=true)(hkn:k=n)(h64:64≤n) :
  Calls Tryz.prog 147 #[dkv A n c room fuse false,.string nm,.string s] w fun e w'=>RetDE w ⟨l,room,fuse,false⟩ 5 e w':=by
 have hkn2:n=k:=hkn.symm
 subst hkn2
 clear hkn
 have HNM:=hid hn
 clear hn
 have HD:=hid hd
 have HN:=hid hd.max
 have hlen:=hid hd.len
 have hnm:=hd.max
 unfold maxLen at hnm
 have HOP:=hid hop
 clear hd hop
 obtain⟨fa,fb,fc⟩:=f
 simp only at hf
 go_enter Tryz.func147,Tryz.ntmps147
 go_wp2_with fail
 have B0:=two_new w (.slice A n c) (.int .i64 room) (.int .i64 fuse) (.bool false) (.slice none 0 0) (.int .i64 0) (.int .i64 0) (.bool false) 24
 refine(own_any A n c room fuse false l _ (HD.out.q (((Q.refl _).alloc _).alloc _))).mono ?_
 rintro e w1 ⟨A1,c1,rfl,ho,q1⟩
 rw[size_two] at ho
 have HO:=hid (ho.set4 (b:=w.heap.size) (by omega) (.slice A1 n c1) (.int .i64 room) (.int .i64 fuse) (.bool false))
 have D1:=hid ((B0.1.q q1).put4 (.slice A1 n c1) (.int .i64 room) (.int .i64 fuse) (.bool false))
 have R1:=hid ((B0.2.q q1).far4 (c:=w.heap.size) (by omega) (.slice A1 n c1) (.int .i64 room) (.int .i64 fuse) (.bool false))
 have Q1:=hid ((((((Q.refl w).alloc _).alloc _).trans q1)).set4 (b:=w.heap.size) (Nat.le_refl _) (.slice A1 n c1) (.int .i64 room) (.int .i64 fuse) (.bool false))
 obtain⟨⟨e0,e1,e2,e3⟩,f0,f1,f2,f3⟩:=(B0.1.q q1).get4
 clear B0 q1 ho
 go_wp2_with fail
 refine(open_any nm A1 n c1 room fuse false l _ HO.out.files HN.out).mono ?_
 rintro e w2 ⟨rfl,q2⟩
 rw[HOP.out]
 have HO2:=hid (HO.out.q q2)
 have Q2:=hid (Q1.out.trans q2)
 have z0:w.heap.size<w2.heap.size:=(D1.out.q q2).lt
 have z1:w.heap.size+1<w2.heap.size:=(R1.out.q q2).lt
 have z2:w.heap.size≠w2.heap.size:=by omega
 have z3:w.heap.size+1≠w2.heap.size:=by omega
 have D2:=hid (D1.out.q q2)
 have R2:=hid (R1.out.q q2)
 obtain⟨⟨d0,d1,d2,d3⟩,g0,g1,g2,g3⟩:=(D1.out.q q2).get4
 obtain⟨⟨s0,s1,s2,s3⟩,h0,h1,h2,h3⟩:=(R1.out.q q2).get4
 clear q2 e0 e1 e2 e3 f0 f1 f2 f3
 go_wp2_with fail
 refine(named_any nm _).mono ?_
 rintro e w' ⟨rfl,rfl⟩
 rw[HNM.out]
 go_wp2
 refine bodyPost_ret (v:=.tuple #[dkv A1 n c1 room fuse false,.int .i64 5]) (by simp[results,Tryz.results147,go_sem,s0,s1,s2,s3,z1]) rfl ⟨A1,n,c1,rfl,(((HO2.out).set4 (b:=w.heap.size+1) (by omega) _ _ _ _).alloc _).lower (by omega),((Q2.out).set4 (b:=w.heap.size+1) (by omega) _ _ _ _).alloc _⟩
end
section
open Go.RowKit Dkm
theorem append_full2_eq (nm s:ByteArray)(A:Option Addr)(n c:Nat)(room fuse:Int)(l:List Fil)(w:World)(hd:Dsk w A n c l)(f:Fil)(k:Nat)(hop:opn nm l=(f,k))(hk:k≤n)(hf:f.sf.size+f.wt.size≤2305843009213693952)(hs:s.size≤2305843009213693952)(hn:nmOk nm=true)(hkn:k=n)(h64:n<64)(hr:room<s.size) :
  Calls Tryz.prog 147 #[dkv A n c room fuse false,.string nm,.string s] w fun e w'=>RetDE w ⟨l,room,fuse,false⟩ 5 e w':=by
 have hkn2:n=k:=hkn.symm
 subst hkn2
 clear hkn
 have HNM:=hid hn
 clear hn
 have HD:=hid hd
 have HN:=hid hd.max
 have hlen:=hid hd.len
 have hnm:=hd.max
 unfold maxLen at hnm
 have HOP:=hid hop
 clear hd hop
 obtain⟨fa,fb,fc⟩:=f
 simp only at hf
 go_enter Tryz.func147,Tryz.ntmps147
 go_wp2_with fail
 have B0:=two_new w (.slice A n c) (.int .i64 room) (.int .i64 fuse) (.bool false) (.slice none 0 0) (.int .i64 0) (.int .i64 0) (.bool false) 24
 refine(own_any A n c room fuse false l _ (HD.out.q (((Q.refl _).alloc _).alloc _))).mono ?_
 rintro e w1 ⟨A1,c1,rfl,ho,q1⟩
 rw[size_two] at ho
 have HO:=hid (ho.set4 (b:=w.heap.size) (by omega) (.slice A1 n c1) (.int .i64 room) (.int .i64 fuse) (.bool false))
 have D1:=hid ((B0.1.q q1).put4 (.slice A1 n c1) (.int .i64 room) (.int .i64 fuse) (.bool false))
 have R1:=hid ((B0.2.q q1).far4 (c:=w.heap.size) (by omega) (.slice A1 n c1) (.int .i64 room) (.int .i64 fuse) (.bool false))
 have Q1:=hid ((((((Q.refl w).alloc _).alloc _).trans q1)).set4 (b:=w.heap.size) (Nat.le_refl _) (.slice A1 n c1) (.int .i64 room) (.int .i64 fuse) (.bool false))
 obtain⟨⟨e0,e1,e2,e3⟩,f0,f1,f2,f3⟩:=(B0.1.q q1).get4
 clear B0 q1 ho
 go_wp2_with fail
 refine(open_any nm A1 n c1 room fuse false l _ HO.out.files HN.out).mono ?_
 rintro e w2 ⟨rfl,q2⟩
 rw[HOP.out]
 have HO2:=hid (HO.out.q q2)
 have Q2:=hid (Q1.out.trans q2)
 have z0:w.heap.size<w2.heap.size:=(D1.out.q q2).lt
 have z1:w.heap.size+1<w2.heap.size:=(R1.out.q q2).lt
 have z2:w.heap.size≠w2.heap.size:=by omega
 have z3:w.heap.size+1≠w2.heap.size:=by omega
 have D2:=hid (D1.out.q q2)
 have R2:=hid (R1.out.q q2)
 obtain⟨⟨d0,d1,d2,d3⟩,g0,g1,g2,g3⟩:=(D1.out.q q2).get4
 obtain⟨⟨s0,s1,s2,s3⟩,h0,h1,h2,h3⟩:=(R1.out.q q2).get4
 clear q2 e0 e1 e2 e3 f0 f1 f2 f3
 go_wp2_with fail
 refine(named_any nm _).mono ?_
 rintro e w' ⟨rfl,rfl⟩
 rw[HNM.out]
 go_wp2
 refine bodyPost_ret (v:=.tuple #[dkv A1 n c1 room fuse false,.int .i64 5]) (by simp[results,Tryz.results147,go_sem,s0,s1,s2,s3,z1]) rfl ⟨A1,n,c1,rfl,(((HO2.out).set4 (b:=w.heap.size+1) (by omega) _ _ _ _).alloc _).lower (by omega),((Q2.out).set4 (b:=w.heap.size+1) (by omega) _ _ _ _).alloc _⟩
theorem append_big_eq (nm s:ByteArray)(A:Option Addr)(n c:Nat)(room fuse:Int)(l:List Fil)(w:World)(hd:Dsk w A n c l)(f:Fil)(k:Nat)(hop:opn nm l=(f,k))(hk:k≤n)(hf:f.sf.size+f.wt.size≤2305843009213693952)(hs:s.size≤2305843009213693952)(hn:nmOk nm=true)(hkn:k=n)(h64:n<64)(hr:(s.size:Int)≤room)(hb:65536<f.sf.size+f.wt.size+s.size) :
  Calls Tryz.prog 147 #[dkv A n c room fuse false,.string nm,.string s] w fun e w'=>RetDE w ⟨l,room,fuse,false⟩ 4 e w':=by
 have hkn2:n=k:=hkn.symm
 subst hkn2
 clear hkn
 have HNM:=hid hn
 clear hn
 have HD:=hid hd
 have HN:=hid hd.max
 have hlen:=hid hd.len
 have hnm:=hd.max
 unfold maxLen at hnm
 have HOP:=hid hop
 clear hd hop
 obtain⟨fa,fb,fc⟩:=f
 simp only at hf hb
 go_enter Tryz.func147,Tryz.ntmps147
 go_wp2_with fail
 have B0:=two_new w (.slice A n c) (.int .i64 room) (.int .i64 fuse) (.bool false) (.slice none 0 0) (.int .i64 0) (.int .i64 0) (.bool false) 24
 refine(own_any A n c room fuse false l _ (HD.out.q (((Q.refl _).alloc _).alloc _))).mono ?_
 rintro e w1 ⟨A1,c1,rfl,ho,q1⟩
 rw[size_two] at ho
 have HO:=hid (ho.set4 (b:=w.heap.size) (by omega) (.slice A1 n c1) (.int .i64 room) (.int .i64 fuse) (.bool false))
 have D1:=hid ((B0.1.q q1).put4 (.slice A1 n c1) (.int .i64 room) (.int .i64 fuse) (.bool false))
 have R1:=hid ((B0.2.q q1).far4 (c:=w.heap.size) (by omega) (.slice A1 n c1) (.int .i64 room) (.int .i64 fuse) (.bool false))
 have Q1:=hid ((((((Q.refl w).alloc _).alloc _).trans q1)).set4 (b:=w.heap.size) (Nat.le_refl _) (.slice A1 n c1) (.int .i64 room) (.int .i64 fuse) (.bool false))
 obtain⟨⟨e0,e1,e2,e3⟩,f0,f1,f2,f3⟩:=(B0.1.q q1).get4
 clear B0 q1 ho
 go_wp2_with fail
 refine(open_any nm A1 n c1 room fuse false l _ HO.out.files HN.out).mono ?_
 rintro e w2 ⟨rfl,q2⟩
 rw[HOP.out]
 have HO2:=hid (HO.out.q q2)
 have Q2:=hid (Q1.out.trans q2)
 have z0:w.heap.size<w2.heap.size:=(D1.out.q q2).lt
 have z1:w.heap.size+1<w2.heap.size:=(R1.out.q q2).lt
 have z2:w.heap.size≠w2.heap.size:=by omega
 have z3:w.heap.size+1≠w2.heap.size:=by omega
 have D2:=hid (D1.out.q q2)
 have R2:=hid (R1.out.q q2)
 obtain⟨⟨d0,d1,d2,d3⟩,g0,g1,g2,g3⟩:=(D1.out.q q2).get4
 obtain⟨⟨s0,s1,s2,s3⟩,h0,h1,h2,h3⟩:=(R1.out.q q2).get4
 clear q2 e0 e1 e2 e3 f0 f1 f2 f3
 go_wp2_with fail
 refine(named_any nm _).mono ?_
 rintro e w' ⟨rfl,rfl⟩
 rw[HNM.out]
 go_wp2_with fail
 have F2:=Bx.new w2 [.string fa,.string fb,.string fc] 119
 refine(size_any ⟨fa,fb,fc⟩ _ (by unfold maxLen;show fb.size+fc.size≤_;omega)).mono ?_
 rintro e w3 ⟨rfl,q3⟩
 simp only
 have HO3:=hid ((HO2.out.alloc _).q q3)
 have Q3:=hid ((Q2.out.alloc _).trans q3)
 have D3:=hid ((D2.out.alloc _).q q3)
 have R3:=hid ((R2.out.alloc _).q q3)
 have F3:=hid (F2.q q3)
 have y0:w2.heap.size<w3.heap.size:=F3.out.lt
 clear d0 d1 d2 d3 g0 g1 g2 g3 s0 s1 s2 s3 h0 h1 h2 h3 F2 q3
 obtain⟨⟨d0,d1,d2,d3⟩,g0,g1,g2,g3⟩:=D3.out.get4
 obtain⟨⟨s0,s1,s2,s3⟩,h0,h1,h2,h3⟩:=R3.out.get4
 obtain⟨⟨t0,t1,t2⟩,u0,u1,u2⟩:=F3.out.get3
 go_wp2
 refine bodyPost_ret (v:=.tuple #[dkv A1 n c1 room fuse false,.int .i64 4]) (by simp[results,Tryz.results147,go_sem,s0,s1,s2,s3]) rfl ⟨A1,n,c1,rfl,(((HO3.out).set4 (b:=w.heap.size+1) (by omega) _ _ _ _)).lower (by omega),((Q3.out).set4 (b:=w.heap.size+1) (by omega) _ _ _ _)⟩
theorem append_full2_lt (nm s:ByteArray)(A:Option Addr)(n c:Nat)(room fuse:Int)(l:List Fil)(w:World)(hd:Dsk w A n c l)(f:Fil)(k:Nat)(hop:opn nm l=(f,k))(hk:k≤n)(hf:f.sf.size+f.wt.size≤2305843009213693952)(hs:s.size≤2305843009213693952)(hn:nmOk nm=true)(hkn:k<n)(hr:room<s.size) :
  Calls Tryz.prog 147 #[dkv A n c room fuse false,.string nm,.string s] w fun e w'=>RetDE w ⟨l,room,fuse,false⟩ 5 e w':=by
 have k1:((k:Int) == (n:Int))=false:=by simp;omega
 have k2:(k == n)=false:=by simp;omega
 have HNM:=hid hn
 clear hn
 have HD:=hid hd
 have HN:=hid hd.max
 have hlen:=hid hd.len
 have hnm:=hd.max
 unfold maxLen at hnm
 have HOP:=hid hop
 clear hd hop
 obtain⟨fa,fb,fc⟩:=f
 simp only at hf
 go_enter Tryz.func147,Tryz.ntmps147
 go_wp2_with fail
 have B0:=two_new w (.slice A n c) (.int .i64 room) (.int .i64 fuse) (.bool false) (.slice none 0 0) (.int .i64 0) (.int .i64 0) (.bool false) 24
 refine(own_any A n c room fuse false l _ (HD.out.q (((Q.refl _).alloc _).alloc _))).mono ?_
 rintro e w1 ⟨A1,c1,rfl,ho,q1⟩
 rw[size_two] at ho
 have HO:=hid (ho.set4 (b:=w.heap.size) (by omega) (.slice A1 n c1) (.int .i64 room) (.int .i64 fuse) (.bool false))
 have D1:=hid ((B0.1.q q1).put4 (.slice A1 n c1) (.int .i64 room) (.int .i64 fuse) (.bool false))
 have R1:=hid ((B0.2.q q1).far4 (c:=w.heap.size) (by omega) (.slice A1 n c1) (.int .i64 room) (.int .i64 fuse) (.bool false))
 have Q1:=hid ((((((Q.refl w).alloc _).alloc _).trans q1)).set4 (b:=w.heap.size) (Nat.le_refl _) (.slice A1 n c1) (.int .i64 room) (.int .i64 fuse) (.bool false))
 obtain⟨⟨e0,e1,e2,e3⟩,f0,f1,f2,f3⟩:=(B0.1.q q1).get4
 clear B0 q1 ho
 go_wp2_with fail
 refine(open_any nm A1 n c1 room fuse false l _ HO.out.files HN.out).mono ?_
 rintro e w2 ⟨rfl,q2⟩
 rw[HOP.out]
 have HO2:=hid (HO.out.q q2)
 have Q2:=hid (Q1.out.trans q2)
 have z0:w.heap.size<w2.heap.size:=(D1.out.q q2).lt
 have z1:w.heap.size+1<w2.heap.size:=(R1.out.q q2).lt
 have z2:w.heap.size≠w2.heap.size:=by omega
 have z3:w.heap.size+1≠w2.heap.size:=by omega
 have D2:=hid (D1.out.q q2)
 have R2:=hid (R1.out.q q2)
 obtain⟨⟨d0,d1,d2,d3⟩,g0,g1,g2,g3⟩:=(D1.out.q q2).get4
 obtain⟨⟨s0,s1,s2,s3⟩,h0,h1,h2,h3⟩:=(R1.out.q q2).get4
 clear q2 e0 e1 e2 e3 f0 f1 f2 f3
 go_wp2_with fail
 refine(named_any nm _).mono ?_
 rintro e w' ⟨rfl,rfl⟩
 rw[HNM.out]
 go_wp2
 refine bodyPost_ret (v:=.tuple #[dkv A1 n c1 room fuse false,.int .i64 5]) (by simp[results,Tryz.results147,go_sem,s0,s1,s2,s3,z1]) rfl ⟨A1,n,c1,rfl,(((HO2.out).set4 (b:=w.heap.size+1) (by omega) _ _ _ _).alloc _).lower (by omega),((Q2.out).set4 (b:=w.heap.size+1) (by omega) _ _ _ _).alloc _⟩
theorem append_big_lt (nm s:ByteArray)(A:Option Addr)(n c:Nat)(room fuse:Int)(l:List Fil)(w:World)(hd:Dsk w A n c l)(f:Fil)(k:Nat)(hop:opn nm l=(f,k))(hk:k≤n)(hf:f.sf.size+f.wt.size≤2305843009213693952)(hs:s.size≤2305843009213693952)(hn:nmOk nm=true)(hkn:k<n)(hr:(s.size:Int)≤room)(hb:65536<f.sf.size+f.wt.size+s.size) :
  Calls Tryz.prog 147 #[dkv A n c room fuse false,.string nm,.string s] w fun e w'=>RetDE w ⟨l,room,fuse,false⟩ 4 e w':=by
 have k1:((k:Int) == (n:Int))=false:=by simp;omega
 have k2:(k == n)=false:=by simp;omega
 have HNM:=hid hn
 clear hn
 have HD:=hid hd
 have HN:=hid hd.max
 have hlen:=hid hd.len
 have hnm:=hd.max
 unfold maxLen at hnm
 have HOP:=hid hop
 clear hd hop
 obtain⟨fa,fb,fc⟩:=f
 simp only at hf hb
 go_enter Tryz.func147,Tryz.ntmps147
 go_wp2_with fail
 have B0:=two_new w (.slice A n c) (.int .i64 room) (.int .i64 fuse) (.bool false) (.slice none 0 0) (.int .i64 0) (.int .i64 0) (.bool false) 24
 refine(own_any A n c room fuse false l _ (HD.out.q (((Q.refl _).alloc _).alloc _))).mono ?_
 rintro e w1 ⟨A1,c1,rfl,ho,q1⟩
 rw[size_two] at ho
 have HO:=hid (ho.set4 (b:=w.heap.size) (by omega) (.slice A1 n c1) (.int .i64 room) (.int .i64 fuse) (.bool false))
 have D1:=hid ((B0.1.q q1).put4 (.slice A1 n c1) (.int .i64 room) (.int .i64 fuse) (.bool false))
 have R1:=hid ((B0.2.q q1).far4 (c:=w.heap.size) (by omega) (.slice A1 n c1) (.int .i64 room) (.int .i64 fuse) (.bool false))
 have Q1:=hid ((((((Q.refl w).alloc _).alloc _).trans q1)).set4 (b:=w.heap.size) (Nat.le_refl _) (.slice A1 n c1) (.int .i64 room) (.int .i64 fuse) (.bool false))
 obtain⟨⟨e0,e1,e2,e3⟩,f0,f1,f2,f3⟩:=(B0.1.q q1).get4
 clear B0 q1 ho
 go_wp2_with fail
 refine(open_any nm A1 n c1 room fuse false l _ HO.out.files HN.out).mono ?_
 rintro e w2 ⟨rfl,q2⟩
 rw[HOP.out]
 have HO2:=hid (HO.out.q q2)
 have Q2:=hid (Q1.out.trans q2)
 have z0:w.heap.size<w2.heap.size:=(D1.out.q q2).lt
 have z1:w.heap.size+1<w2.heap.size:=(R1.out.q q2).lt
 have z2:w.heap.size≠w2.heap.size:=by omega
 have z3:w.heap.size+1≠w2.heap.size:=by omega
 have D2:=hid (D1.out.q q2)
 have R2:=hid (R1.out.q q2)
 obtain⟨⟨d0,d1,d2,d3⟩,g0,g1,g2,g3⟩:=(D1.out.q q2).get4
 obtain⟨⟨s0,s1,s2,s3⟩,h0,h1,h2,h3⟩:=(R1.out.q q2).get4
 clear q2 e0 e1 e2 e3 f0 f1 f2 f3
 go_wp2_with fail
 refine(named_any nm _).mono ?_
 rintro e w' ⟨rfl,rfl⟩
 rw[HNM.out]
 go_wp2_with fail
 have F2:=Bx.new w2 [.string fa,.string fb,.string fc] 119
 refine(size_any ⟨fa,fb,fc⟩ _ (by unfold maxLen;show fb.size+fc.size≤_;omega)).mono ?_
 rintro e w3 ⟨rfl,q3⟩
 simp only
 have HO3:=hid ((HO2.out.alloc _).q q3)
 have Q3:=hid ((Q2.out.alloc _).trans q3)
 have D3:=hid ((D2.out.alloc _).q q3)
 have R3:=hid ((R2.out.alloc _).q q3)
 have F3:=hid (F2.q q3)
 have y0:w2.heap.size<w3.heap.size:=F3.out.lt
 clear d0 d1 d2 d3 g0 g1 g2 g3 s0 s1 s2 s3 h0 h1 h2 h3 F2 q3
 obtain⟨⟨d0,d1,d2,d3⟩,g0,g1,g2,g3⟩:=D3.out.get4
 obtain⟨⟨s0,s1,s2,s3⟩,h0,h1,h2,h3⟩:=R3.out.get4
 obtain⟨⟨t0,t1,t2⟩,u0,u1,u2⟩:=F3.out.get3
 go_wp2
 refine bodyPost_ret (v:=.tuple #[dkv A1 n c1 room fuse false,.int .i64 4]) (by simp[results,Tryz.results147,go_sem,s0,s1,s2,s3]) rfl ⟨A1,n,c1,rfl,(((HO3.out).set4 (b:=w.heap.size+1) (by omega) _ _ _ _)).lower (by omega),((Q3.out).set4 (b:=w.heap.size+1) (by omega) _ _ _ _)⟩
end
section
open Go.RowKit Dkm
theorem append_done_eq_neg (nm s:ByteArray)(A:Option Addr)(n c:Nat)(room fuse:Int)(l:List Fil)(w:World)(hd:Dsk w A n c l)(f:Fil)(k:Nat)(hop:opn nm l=(f,k))(hk:k≤n)(hf:f.sf.size+f.wt.size≤2305843009213693952)(hs:s.size≤2305843009213693952)(hn:nmOk nm=true)(hkn:k=n)(h64:n<64)(hr:(s.size:Int)≤room)(hr2:room≤9223372036854775807)(hb:f.sf.size+f.wt.size+s.size≤65536)(hz:fuse<0) :
  Calls Tryz.prog 147 #[dkv A n c room fuse false,.string nm,.string s] w fun e w'=>RetDE w ⟨l++[⟨f.nm,f.sf,f.wt++s⟩],room - (s).size,fuse,false⟩ 0 e w':=by
 have hkn2:n=k:=hkn.symm
 subst hkn2
 clear hkn
 have HNM:=hid hn
 clear hn
 have HD:=hid hd
 have HN:=hid hd.max
 have hlen:=hid hd.len
 have hnm:=hd.max
 unfold maxLen at hnm
 have HOP:=hid hop
 clear hd hop
 obtain⟨fa,fb,fc⟩:=f
 simp only at hf hb
 show Calls _ _ _ _ fun e w'=>RetDE w ⟨l++[⟨fa,fb,fc++s⟩],room - (s).size,fuse,false⟩ 0 e w'
 go_enter Tryz.func147,Tryz.ntmps147
 go_wp2_with fail
 have B0:=two_new w (.slice A n c) (.int .i64 room) (.int .i64 fuse) (.bool false) (.slice none 0 0) (.int .i64 0) (.int .i64 0) (.bool false) 24
 refine(own_any A n c room fuse false l _ (HD.out.q (((Q.refl _).alloc _).alloc _))).mono ?_
 rintro e w1 ⟨A1,c1,rfl,ho,q1⟩
 rw[size_two] at ho
 have HO:=hid (ho.set4 (b:=w.heap.size) (by omega) (.slice A1 n c1) (.int .i64 room) (.int .i64 fuse) (.bool false))
 have D1:=hid ((B0.1.q q1).put4 (.slice A1 n c1) (.int .i64 room) (.int .i64 fuse) (.bool false))
 have R1:=hid ((B0.2.q q1).far4 (c:=w.heap.size) (by omega) (.slice A1 n c1) (.int .i64 room) (.int .i64 fuse) (.bool false))
 have Q1:=hid ((((((Q.refl w).alloc _).alloc _).trans q1)).set4 (b:=w.heap.size) (Nat.le_refl _) (.slice A1 n c1) (.int .i64 room) (.int .i64 fuse) (.bool false))
 obtain⟨⟨e0,e1,e2,e3⟩,f0,f1,f2,f3⟩:=(B0.1.q q1).get4
 clear B0 q1 ho
 go_wp2_with fail
 refine(open_any nm A1 n c1 room fuse false l _ HO.out.files HN.out).mono ?_
 rintro e w2 ⟨rfl,q2⟩
 rw[HOP.out]
 have HO2:=hid (HO.out.q q2)
 have Q2:=hid (Q1.out.trans q2)
 have z0:w.heap.size<w2.heap.size:=(D1.out.q q2).lt
 have z1:w.heap.size+1<w2.heap.size:=(R1.out.q q2).lt
 have z2:w.heap.size≠w2.heap.size:=by omega
 have z3:w.heap.size+1≠w2.heap.size:=by omega
 have D2:=hid (D1.out.q q2)
 have R2:=hid (R1.out.q q2)
 obtain⟨⟨d0,d1,d2,d3⟩,g0,g1,g2,g3⟩:=(D1.out.q q2).get4
 obtain⟨⟨s0,s1,s2,s3⟩,h0,h1,h2,h3⟩:=(R1.out.q q2).get4
 clear q2 e0 e1 e2 e3 f0 f1 f2 f3
 go_wp2_with fail
 refine(named_any nm _).mono ?_
 rintro e w' ⟨rfl,rfl⟩
 rw[HNM.out]
 go_wp2_with fail
 have F2:=Bx.new w2 [.string fa,.string fb,.string fc] 119
 refine(size_any ⟨fa,fb,fc⟩ _ (by unfold maxLen;show fb.size+fc.size≤_;omega)).mono ?_
 rintro e w3 ⟨rfl,q3⟩
 simp only
 have HO3:=hid ((HO2.out.alloc _).q q3)
 have Q3:=hid ((Q2.out.alloc _).trans q3)
 have D3:=hid ((D2.out.alloc _).q q3)
 have R3:=hid ((R2.out.alloc _).q q3)
 have F3:=hid (F2.q q3)
 have y0:w2.heap.size<w3.heap.size:=F3.out.lt
 clear d0 d1 d2 d3 g0 g1 g2 g3 s0 s1 s2 s3 h0 h1 h2 h3 F2 q3
 obtain⟨⟨d0,d1,d2,d3⟩,g0,g1,g2,g3⟩:=D3.out.get4
 obtain⟨⟨s0,s1,s2,s3⟩,h0,h1,h2,h3⟩:=R3.out.get4
 obtain⟨⟨t0,t1,t2⟩,u0,u1,u2⟩:=F3.out.get3
 go_wp2_with fail
 refine(set_end (w.heap.size+2) A1 n c1 ⟨fa,fb,fc++s⟩ l _ (Own.setNew HO2.out HO3.out (p:=⟨w2.heap.size,2,none⟩) (Nat.le_refl _) _) (by omega) (by show w.heap.size+2≤(w3.setCell _ _).heap.size;simp;omega)).mono ?_
 rintro e w4 ⟨A4,c4,rfl,ho4,b4⟩
 have HO4:=hid ho4
 have Q4:=hid (show Q w w4 from (Q3.out.setCell (p:=⟨w2.heap.size,2,none⟩) (by show w.heap.size≤w2.heap.size;omega) _).below.trans (b4.mono (by omega)))
 have D4:=(D3.out.far (p:=⟨w2.heap.size,2,none⟩) (by show w2.heap.size≠w.heap.size;omega) _).below b4 (by omega)
 have R4:=(R3.out.far (p:=⟨w2.heap.size,2,none⟩) (by show w2.heap.size≠w.heap.size+1;omega) _).below b4 (by omega)
 clear ho4 b4 d0 d1 d2 d3 g0 g1 g2 g3 s0 s1 s2 s3 h0 h1 h2 h3 t0 t1 t2 u0 u1 u2
 obtain⟨⟨d0,d1,d2,d3⟩,g0,g1,g2,g3⟩:=D4.get4
 obtain⟨⟨s0,s1,s2,s3⟩,h0,h1,h2,h3⟩:=R4.get4
 clear D4 R4
 go_wp2
 refine bodyPost_ret (v:=.tuple #[dkv A4 (n+1) c4 (room - (s).size) (fuse) false,.int .i64 0]) (by simp[results,Tryz.results147,go_sem,s0,s1,s2,s3]) rfl ⟨A4,(n+1),c4,rfl,?_,?_⟩
 · exact(((HO4.out.setCell (p:=⟨w.heap.size,0,none⟩) (by simp) _).setCell (p:=⟨w.heap.size,1,none⟩) (by simp) _).set4 (b:=w.heap.size+1) (by omega) _ _ _ _).lower (by omega)
 · exact((Q4.out.setCell (p:=⟨w.heap.size,0,none⟩) (Nat.le_refl _) _).setCell (p:=⟨w.heap.size,1,none⟩) (Nat.le_refl _) _).set4 (b:=w.heap.size+1) (by omega) _ _ _ _
theorem append_done_eq_fits (nm s:ByteArray)(A:Option Addr)(n c:Nat)(room fuse:Int)(l:List Fil)(w:World)(hd:Dsk w A n c l)(f:Fil)(k:Nat)(hop:opn nm l=(f,k))(hk:k≤n)(hf:f.sf.size+f.wt.size≤2305843009213693952)(hs:s.size≤2305843009213693952)(hn:nmOk nm=true)(hkn:k=n)(h64:n<64)(hr:(s.size:Int)≤room)(hr2:room≤9223372036854775807)(hb:f.sf.size+f.wt.size+s.size≤65536)(hz:(s.size:Int)≤fuse)(hz2:fuse≤9223372036854775807) :
  Calls Tryz.prog 147 #[dkv A n c room fuse false,.string nm,.string s] w fun e w'=>RetDE w ⟨l++[⟨f.nm,f.sf,f.wt++s⟩],room - (s).size,fuse - s.size,false⟩ 0 e w':=by
 have hkn2:n=k:=hkn.symm
 subst hkn2
 clear hkn
 have HNM:=hid hn
 clear hn
 have HD:=hid hd
 have HN:=hid hd.max
 have hlen:=hid hd.len
 have hnm:=hd.max
 unfold maxLen at hnm
 have HOP:=hid hop
 clear hd hop
 obtain⟨fa,fb,fc⟩:=f
 simp only at hf hb
 show Calls _ _ _ _ fun e w'=>RetDE w ⟨l++[⟨fa,fb,fc++s⟩],room - (s).size,fuse - s.size,false⟩ 0 e w'
 go_enter Tryz.func147,Tryz.ntmps147
 go_wp2_with fail
 have B0:=two_new w (.slice A n c) (.int .i64 room) (.int .i64 fuse) (.bool false) (.slice none 0 0) (.int .i64 0) (.int .i64 0) (.bool false) 24
 refine(own_any A n c room fuse false l _ (HD.out.q (((Q.refl _).alloc _).alloc _))).mono ?_
 rintro e w1 ⟨A1,c1,rfl,ho,q1⟩
 rw[size_two] at ho
 have HO:=hid (ho.set4 (b:=w.heap.size) (by omega) (.slice A1 n c1) (.int .i64 room) (.int .i64 fuse) (.bool false))
 have D1:=hid ((B0.1.q q1).put4 (.slice A1 n c1) (.int .i64 room) (.int .i64 fuse) (.bool false))
 have R1:=hid ((B0.2.q q1).far4 (c:=w.heap.size) (by omega) (.slice A1 n c1) (.int .i64 room) (.int .i64 fuse) (.bool false))
 have Q1:=hid ((((((Q.refl w).alloc _).alloc _).trans q1)).set4 (b:=w.heap.size) (Nat.le_refl _) (.slice A1 n c1) (.int .i64 room) (.int .i64 fuse) (.bool false))
 obtain⟨⟨e0,e1,e2,e3⟩,f0,f1,f2,f3⟩:=(B0.1.q q1).get4
 clear B0 q1 ho
 go_wp2_with fail
 refine(open_any nm A1 n c1 room fuse false l _ HO.out.files HN.out).mono ?_
 rintro e w2 ⟨rfl,q2⟩
 rw[HOP.out]
 have HO2:=hid (HO.out.q q2)
 have Q2:=hid (Q1.out.trans q2)
 have z0:w.heap.size<w2.heap.size:=(D1.out.q q2).lt
 have z1:w.heap.size+1<w2.heap.size:=(R1.out.q q2).lt
 have z2:w.heap.size≠w2.heap.size:=by omega
 have z3:w.heap.size+1≠w2.heap.size:=by omega
 have D2:=hid (D1.out.q q2)
 have R2:=hid (R1.out.q q2)
 obtain⟨⟨d0,d1,d2,d3⟩,g0,g1,g2,g3⟩:=(D1.out.q q2).get4
 obtain⟨⟨s0,s1,s2,s3⟩,h0,h1,h2,h3⟩:=(R1.out.q q2).get4
 clear q2 e0 e1 e2 e3 f0 f1 f2 f3
 go_wp2_with fail
 refine(named_any nm _).mono ?_
 rintro e w' ⟨rfl,rfl⟩
 rw[HNM.out]
 go_wp2_with fail
 have F2:=Bx.new w2 [.string fa,.string fb,.string fc] 119
 refine(size_any ⟨fa,fb,fc⟩ _ (by unfold maxLen;show fb.size+fc.size≤_;omega)).mono ?_
 rintro e w3 ⟨rfl,q3⟩
 simp only
 have HO3:=hid ((HO2.out.alloc _).q q3)
 have Q3:=hid ((Q2.out.alloc _).trans q3)
 have D3:=hid ((D2.out.alloc _).q q3)
 have R3:=hid ((R2.out.alloc _).q q3)
 have F3:=hid (F2.q q3)
 have y0:w2.heap.size<w3.heap.size:=F3.out.lt
 clear d0 d1 d2 d3 g0 g1 g2 g3 s0 s1 s2 s3 h0 h1 h2 h3 F2 q3
 obtain⟨⟨d0,d1,d2,d3⟩,g0,g1,g2,g3⟩:=D3.out.get4
 obtain⟨⟨s0,s1,s2,s3⟩,h0,h1,h2,h3⟩:=R3.out.get4
 obtain⟨⟨t0,t1,t2⟩,u0,u1,u2⟩:=F3.out.get3
 go_wp2_with fail
 refine(set_end (w.heap.size+2) A1 n c1 ⟨fa,fb,fc++s⟩ l _ (Own.setNew HO2.out HO3.out (p:=⟨w2.heap.size,2,none⟩) (Nat.le_refl _) _) (by omega) (by show w.heap.size+2≤(w3.setCell _ _).heap.size;simp;omega)).mono ?_
 rintro e w4 ⟨A4,c4,rfl,ho4,b4⟩
 have HO4:=hid ho4
 have Q4:=hid (show Q w w4 from (Q3.out.setCell (p:=⟨w2.heap.size,2,none⟩) (by show w.heap.size≤w2.heap.size;omega) _).below.trans (b4.mono (by omega)))
 have D4:=(D3.out.far (p:=⟨w2.heap.size,2,none⟩) (by show w2.heap.size≠w.heap.size;omega) _).below b4 (by omega)
 have R4:=(R3.out.far (p:=⟨w2.heap.size,2,none⟩) (by show w2.heap.size≠w.heap.size+1;omega) _).below b4 (by omega)
 clear ho4 b4 d0 d1 d2 d3 g0 g1 g2 g3 s0 s1 s2 s3 h0 h1 h2 h3 t0 t1 t2 u0 u1 u2
 obtain⟨⟨d0,d1,d2,d3⟩,g0,g1,g2,g3⟩:=D4.get4
 obtain⟨⟨s0,s1,s2,s3⟩,h0,h1,h2,h3⟩:=R4.get4
 clear D4 R4
 go_wp2
 refine bodyPost_ret (v:=.tuple #[dkv A4 (n+1) c4 (room - (s).size) (fuse - s.size) false,.int .i64 0]) (by simp[results,Tryz.results147,go_sem,s0,s1,s2,s3]) rfl ⟨A4,(n+1),c4,rfl,?_,?_⟩
 · exact((((HO4.out.setCell (p:=⟨w.heap.size,0,none⟩) (by simp) _).setCell (p:=⟨w.heap.size,1,none⟩) (by simp) _).setCell (p:=⟨w.heap.size,2,none⟩) (by simp) _).set4 (b:=w.heap.size+1) (by omega) _ _ _ _).lower (by omega)
 · exact(((Q4.out.setCell (p:=⟨w.heap.size,0,none⟩) (Nat.le_refl _) _).setCell (p:=⟨w.heap.size,1,none⟩) (Nat.le_refl _) _).setCell (p:=⟨w.heap.size,2,none⟩) (Nat.le_refl _) _).set4 (b:=w.heap.size+1) (by omega) _ _ _ _
theorem append_done_lt_neg (nm s:ByteArray)(A:Option Addr)(n c:Nat)(room fuse:Int)(l:List Fil)(w:World)(hd:Dsk w A n c l)(f:Fil)(k:Nat)(hop:opn nm l=(f,k))(hk:k≤n)(hf:f.sf.size+f.wt.size≤2305843009213693952)(hs:s.size≤2305843009213693952)(hn:nmOk nm=true)(hkn:k<n)(hr:(s.size:Int)≤room)(hr2:room≤9223372036854775807)(hb:f.sf.size+f.wt.size+s.size≤65536)(hz:fuse<0) :
  Calls Tryz.prog 147 #[dkv A n c room fuse false,.string nm,.string s] w fun e w'=>RetDE w ⟨l.set k ⟨f.nm,f.sf,f.wt++s⟩,room - (s).size,fuse,false⟩ 0 e w':=by
 have k1:((k:Int) == (n:Int))=false:=by simp;omega
 have k2:(k == n)=false:=by simp;omega
 have HNM:=hid hn
 clear hn
 have HD:=hid hd
 have HN:=hid hd.max
 have hlen:=hid hd.len
 have hnm:=hd.max
 unfold maxLen at hnm
 have HOP:=hid hop
 clear hd hop
 obtain⟨fa,fb,fc⟩:=f
 simp only at hf hb
 show Calls _ _ _ _ fun e w'=>RetDE w ⟨l.set k ⟨fa,fb,fc++s⟩,room - (s).size,fuse,false⟩ 0 e w'
 go_enter Tryz.func147,Tryz.ntmps147
 go_wp2_with fail
 have B0:=two_new w (.slice A n c) (.int .i64 room) (.int .i64 fuse) (.bool false) (.slice none 0 0) (.int .i64 0) (.int .i64 0) (.bool false) 24
 refine(own_any A n c room fuse false l _ (HD.out.q (((Q.refl _).alloc _).alloc _))).mono ?_
 rintro e w1 ⟨A1,c1,rfl,ho,q1⟩
 rw[size_two] at ho
 have HO:=hid (ho.set4 (b:=w.heap.size) (by omega) (.slice A1 n c1) (.int .i64 room) (.int .i64 fuse) (.bool false))
 have D1:=hid ((B0.1.q q1).put4 (.slice A1 n c1) (.int .i64 room) (.int .i64 fuse) (.bool false))
 have R1:=hid ((B0.2.q q1).far4 (c:=w.heap.size) (by omega) (.slice A1 n c1) (.int .i64 room) (.int .i64 fuse) (.bool false))
 have Q1:=hid ((((((Q.refl w).alloc _).alloc _).trans q1)).set4 (b:=w.heap.size) (Nat.le_refl _) (.slice A1 n c1) (.int .i64 room) (.int .i64 fuse) (.bool false))
 obtain⟨⟨e0,e1,e2,e3⟩,f0,f1,f2,f3⟩:=(B0.1.q q1).get4
 clear B0 q1 ho
 go_wp2_with fail
 refine(open_any nm A1 n c1 room fuse false l _ HO.out.files HN.out).mono ?_
 rintro e w2 ⟨rfl,q2⟩
 rw[HOP.out]
 have HO2:=hid (HO.out.q q2)
 have Q2:=hid (Q1.out.trans q2)
 have z0:w.heap.size<w2.heap.size:=(D1.out.q q2).lt
 have z1:w.heap.size+1<w2.heap.size:=(R1.out.q q2).lt
 have z2:w.heap.size≠w2.heap.size:=by omega
 have z3:w.heap.size+1≠w2.heap.size:=by omega
 have D2:=hid (D1.out.q q2)
 have R2:=hid (R1.out.q q2)
 obtain⟨⟨d0,d1,d2,d3⟩,g0,g1,g2,g3⟩:=(D1.out.q q2).get4
 obtain⟨⟨s0,s1,s2,s3⟩,h0,h1,h2,h3⟩:=(R1.out.q q2).get4
 clear q2 e0 e1 e2 e3 f0 f1 f2 f3
 go_wp2_with fail
 refine(named_any nm _).mono ?_
 rintro e w' ⟨rfl,rfl⟩
 rw[HNM.out]
 go_wp2_with fail
 have F2:=Bx.new w2 [.string fa,.string fb,.string fc] 119
 refine(size_any ⟨fa,fb,fc⟩ _ (by unfold maxLen;show fb.size+fc.size≤_;omega)).mono ?_
 rintro e w3 ⟨rfl,q3⟩
 simp only
 have HO3:=hid ((HO2.out.alloc _).q q3)
 have Q3:=hid ((Q2.out.alloc _).trans q3)
 have D3:=hid ((D2.out.alloc _).q q3)
 have R3:=hid ((R2.out.alloc _).q q3)
 have F3:=hid (F2.q q3)
 have y0:w2.heap.size<w3.heap.size:=F3.out.lt
 clear d0 d1 d2 d3 g0 g1 g2 g3 s0 s1 s2 s3 h0 h1 h2 h3 F2 q3
 obtain⟨⟨d0,d1,d2,d3⟩,g0,g1,g2,g3⟩:=D3.out.get4
 obtain⟨⟨s0,s1,s2,s3⟩,h0,h1,h2,h3⟩:=R3.out.get4
 obtain⟨⟨t0,t1,t2⟩,u0,u1,u2⟩:=F3.out.get3
 go_wp2_with fail
 refine(set_mid (w.heap.size+2) A1 n c1 k ⟨fa,fb,fc++s⟩ l _ (Own.setNew HO2.out HO3.out (p:=⟨w2.heap.size,2,none⟩) (Nat.le_refl _) _) hkn).mono ?_
 rintro e w4 ⟨rfl,ho4,b4⟩
 have HO4:=hid ho4
 have Q4:=hid (show Q w w4 from (Q3.out.setCell (p:=⟨w2.heap.size,2,none⟩) (by show w.heap.size≤w2.heap.size;omega) _).below.trans (b4.mono (by omega)))
 have D4:=(D3.out.far (p:=⟨w2.heap.size,2,none⟩) (by show w2.heap.size≠w.heap.size;omega) _).below b4 (by omega)
 have R4:=(R3.out.far (p:=⟨w2.heap.size,2,none⟩) (by show w2.heap.size≠w.heap.size+1;omega) _).below b4 (by omega)
 clear ho4 b4 d0 d1 d2 d3 g0 g1 g2 g3 s0 s1 s2 s3 h0 h1 h2 h3 t0 t1 t2 u0 u1 u2
 obtain⟨⟨d0,d1,d2,d3⟩,g0,g1,g2,g3⟩:=D4.get4
 obtain⟨⟨s0,s1,s2,s3⟩,h0,h1,h2,h3⟩:=R4.get4
 clear D4 R4
 go_wp2
 refine bodyPost_ret (v:=.tuple #[dkv A1 n c1 (room - (s).size) (fuse) false,.int .i64 0]) (by simp[results,Tryz.results147,go_sem,s0,s1,s2,s3]) rfl ⟨A1,n,c1,rfl,?_,?_⟩
 · exact(((HO4.out.setCell (p:=⟨w.heap.size,0,none⟩) (by simp) _).setCell (p:=⟨w.heap.size,1,none⟩) (by simp) _).set4 (b:=w.heap.size+1) (by omega) _ _ _ _).lower (by omega)
 · exact((Q4.out.setCell (p:=⟨w.heap.size,0,none⟩) (Nat.le_refl _) _).setCell (p:=⟨w.heap.size,1,none⟩) (Nat.le_refl _) _).set4 (b:=w.heap.size+1) (by omega) _ _ _ _
theorem append_done_lt_fits (nm s:ByteArray)(A:Option Addr)(n c:Nat)(room fuse:Int)(l:List Fil)(w:World)(hd:Dsk w A n c l)(f:Fil)(k:Nat)(hop:opn nm l=(f,k))(hk:k≤n)(hf:f.sf.size+f.wt.size≤2305843009213693952)(hs:s.size≤2305843009213693952)(hn:nmOk nm=true)(hkn:k<n)(hr:(s.size:Int)≤room)(hr2:room≤9223372036854775807)(hb:f.sf.size+f.wt.size+s.size≤65536)(hz:(s.size:Int)≤fuse)(hz2:fuse≤9223372036854775807) :
  Calls Tryz.prog 147 #[dkv A n c room fuse false,.string nm,.string s] w fun e w'=>RetDE w ⟨l.set k ⟨f.nm,f.sf,f.wt++s⟩,room - (s).size,fuse - s.size,false⟩ 0 e w':=by
 have k1:((k:Int) == (n:Int))=false:=by simp;omega
 have k2:(k == n)=false:=by simp;omega
 have HNM:=hid hn
 clear hn
 have HD:=hid hd
 have HN:=hid hd.max
 have hlen:=hid hd.len
 have hnm:=hd.max
 unfold maxLen at hnm
 have HOP:=hid hop
 clear hd hop
 obtain⟨fa,fb,fc⟩:=f
 simp only at hf hb
 show Calls _ _ _ _ fun e w'=>RetDE w ⟨l.set k ⟨fa,fb,fc++s⟩,room - (s).size,fuse - s.size,false⟩ 0 e w'
 go_enter Tryz.func147,Tryz.ntmps147
 go_wp2_with fail
 have B0:=two_new w (.slice A n c) (.int .i64 room) (.int .i64 fuse) (.bool false) (.slice none 0 0) (.int .i64 0) (.int .i64 0) (.bool false) 24
 refine(own_any A n c room fuse false l _ (HD.out.q (((Q.refl _).alloc _).alloc _))).mono ?_
 rintro e w1 ⟨A1,c1,rfl,ho,q1⟩
 rw[size_two] at ho
 have HO:=hid (ho.set4 (b:=w.heap.size) (by omega) (.slice A1 n c1) (.int .i64 room) (.int .i64 fuse) (.bool false))
 have D1:=hid ((B0.1.q q1).put4 (.slice A1 n c1) (.int .i64 room) (.int .i64 fuse) (.bool false))
 have R1:=hid ((B0.2.q q1).far4 (c:=w.heap.size) (by omega) (.slice A1 n c1) (.int .i64 room) (.int .i64 fuse) (.bool false))
 have Q1:=hid ((((((Q.refl w).alloc _).alloc _).trans q1)).set4 (b:=w.heap.size) (Nat.le_refl _) (.slice A1 n c1) (.int .i64 room) (.int .i64 fuse) (.bool false))
 obtain⟨⟨e0,e1,e2,e3⟩,f0,f1,f2,f3⟩:=(B0.1.q q1).get4
 clear B0 q1 ho
 go_wp2_with fail
 refine(open_any nm A1 n c1 room fuse false l _ HO.out.files HN.out).mono ?_
 rintro e w2 ⟨rfl,q2⟩
 rw[HOP.out]
 have HO2:=hid (HO.out.q q2)
 have Q2:=hid (Q1.out.trans q2)
 have z0:w.heap.size<w2.heap.size:=(D1.out.q q2).lt
 have z1:w.heap.size+1<w2.heap.size:=(R1.out.q q2).lt
 have z2:w.heap.size≠w2.heap.size:=by omega
 have z3:w.heap.size+1≠w2.heap.size:=by omega
 have D2:=hid (D1.out.q q2)
 have R2:=hid (R1.out.q q2)
 obtain⟨⟨d0,d1,d2,d3⟩,g0,g1,g2,g3⟩:=(D1.out.q q2).get4
 obtain⟨⟨s0,s1,s2,s3⟩,h0,h1,h2,h3⟩:=(R1.out.q q2).get4
 clear q2 e0 e1 e2 e3 f0 f1 f2 f3
 go_wp2_with fail
 refine(named_any nm _).mono ?_
 rintro e w' ⟨rfl,rfl⟩
 rw[HNM.out]
 go_wp2_with fail
 have F2:=Bx.new w2 [.string fa,.string fb,.string fc] 119
 refine(size_any ⟨fa,fb,fc⟩ _ (by unfold maxLen;show fb.size+fc.size≤_;omega)).mono ?_
 rintro e w3 ⟨rfl,q3⟩
 simp only
 have HO3:=hid ((HO2.out.alloc _).q q3)
 have Q3:=hid ((Q2.out.alloc _).trans q3)
 have D3:=hid ((D2.out.alloc _).q q3)
 have R3:=hid ((R2.out.alloc _).q q3)
 have F3:=hid (F2.q q3)
 have y0:w2.heap.size<w3.heap.size:=F3.out.lt
 clear d0 d1 d2 d3 g0 g1 g2 g3 s0 s1 s2 s3 h0 h1 h2 h3 F2 q3
 obtain⟨⟨d0,d1,d2,d3⟩,g0,g1,g2,g3⟩:=D3.out.get4
 obtain⟨⟨s0,s1,s2,s3⟩,h0,h1,h2,h3⟩:=R3.out.get4
 obtain⟨⟨t0,t1,t2⟩,u0,u1,u2⟩:=F3.out.get3
 go_wp2_with fail
 refine(set_mid (w.heap.size+2) A1 n c1 k ⟨fa,fb,fc++s⟩ l _ (Own.setNew HO2.out HO3.out (p:=⟨w2.heap.size,2,none⟩) (Nat.le_refl _) _) hkn).mono ?_
 rintro e w4 ⟨rfl,ho4,b4⟩
 have HO4:=hid ho4
 have Q4:=hid (show Q w w4 from (Q3.out.setCell (p:=⟨w2.heap.size,2,none⟩) (by show w.heap.size≤w2.heap.size;omega) _).below.trans (b4.mono (by omega)))
 have D4:=(D3.out.far (p:=⟨w2.heap.size,2,none⟩) (by show w2.heap.size≠w.heap.size;omega) _).below b4 (by omega)
 have R4:=(R3.out.far (p:=⟨w2.heap.size,2,none⟩) (by show w2.heap.size≠w.heap.size+1;omega) _).below b4 (by omega)
 clear ho4 b4 d0 d1 d2 d3 g0 g1 g2 g3 s0 s1 s2 s3 h0 h1 h2 h3 t0 t1 t2 u0 u1 u2
 obtain⟨⟨d0,d1,d2,d3⟩,g0,g1,g2,g3⟩:=D4.get4
 obtain⟨⟨s0,s1,s2,s3⟩,h0,h1,h2,h3⟩:=R4.get4
 clear D4 R4
 go_wp2
 refine bodyPost_ret (v:=.tuple #[dkv A1 n c1 (room - (s).size) (fuse - s.size) false,.int .i64 0]) (by simp[results,Tryz.results147,go_sem,s0,s1,s2,s3]) rfl ⟨A1,n,c1,rfl,?_,?_⟩
 · exact((((HO4.out.setCell (p:=⟨w.heap.size,0,none⟩) (by simp) _).setCell (p:=⟨w.heap.size,1,none⟩) (by simp) _).setCell (p:=⟨w.heap.size,2,none⟩) (by simp) _).set4 (b:=w.heap.size+1) (by omega) _ _ _ _).lower (by omega)
 · exact(((Q4.out.setCell (p:=⟨w.heap.size,0,none⟩) (Nat.le_refl _) _).setCell (p:=⟨w.heap.size,1,none⟩) (Nat.le_refl _) _).setCell (p:=⟨w.heap.size,2,none⟩) (Nat.le_refl _) _).set4 (b:=w.heap.size+1) (by omega) _ _ _ _
end
section
open Go.RowKit Dkm
theorem append_short_eq (nm s:ByteArray)(A:Option Addr)(n c:Nat)(room fuse:Int)(l:List Fil)(w:World)(hd:Dsk w A n c l)(f:Fil)(k:Nat)(hop:opn nm l=(f,k))(hk:k≤n)(hf:f.sf.size+f.wt.size≤2305843009213693952)(hs:s.size≤2305843009213693952)(hn:nmOk nm=true)(hkn:k=n)(h64:n<64)(hr:(s.size:Int)≤room)(hr2:room≤9223372036854775807)(hb:f.sf.size+f.wt.size+s.size≤65536)(q:Nat)(hq:fuse=q)(hz:q<s.size) :
  Calls Tryz.prog 147 #[dkv A n c room fuse false,.string nm,.string s] w fun e w'=>RetDE w ⟨l++[⟨f.nm,f.sf,f.wt++s.extract 0 q⟩],room - (s.extract 0 q).size,(q:Int) - (s.extract 0 q).size,true⟩ 6 e w':=by
 subst hq
 have hkn2:n=k:=hkn.symm
 subst hkn2
 clear hkn
 have HNM:=hid hn
 clear hn
 have hx1:(s.extract 0 q).size≤q:=by simp;omega
 have hx2:(s.extract 0 q).size≤s.size:=by simp;omega
 have HD:=hid hd
 have HN:=hid hd.max
 have hlen:=hid hd.len
 have hnm:=hd.max
 unfold maxLen at hnm
 have HOP:=hid hop
 clear hd hop
 obtain⟨fa,fb,fc⟩:=f
 simp only at hf hb
 show Calls _ _ _ _ fun e w'=>RetDE w ⟨l++[⟨fa,fb,fc++s.extract 0 q⟩],room - (s.extract 0 q).size,(q:Int) - (s.extract 0 q).size,true⟩ 6 e w'
 go_enter Tryz.func147,Tryz.ntmps147
 go_wp2_with fail
 have B0:=two_new w (.slice A n c) (.int .i64 room) (.int .i64 (q:Int)) (.bool false) (.slice none 0 0) (.int .i64 0) (.int .i64 0) (.bool false) 24
 refine(own_any A n c room (q:Int) false l _ (HD.out.q (((Q.refl _).alloc _).alloc _))).mono ?_
 rintro e w1 ⟨A1,c1,rfl,ho,q1⟩
 rw[size_two] at ho
 have HO:=hid (ho.set4 (b:=w.heap.size) (by omega) (.slice A1 n c1) (.int .i64 room) (.int .i64 (q:Int)) (.bool false))
 have D1:=hid ((B0.1.q q1).put4 (.slice A1 n c1) (.int .i64 room) (.int .i64 (q:Int)) (.bool false))
 have R1:=hid ((B0.2.q q1).far4 (c:=w.heap.size) (by omega) (.slice A1 n c1) (.int .i64 room) (.int .i64 (q:Int)) (.bool false))
 have Q1:=hid ((((((Q.refl w).alloc _).alloc _).trans q1)).set4 (b:=w.heap.size) (Nat.le_refl _) (.slice A1 n c1) (.int .i64 room) (.int .i64 (q:Int)) (.bool false))
 obtain⟨⟨e0,e1,e2,e3⟩,f0,f1,f2,f3⟩:=(B0.1.q q1).get4
 clear B0 q1 ho
 go_wp2_with fail
 refine(open_any nm A1 n c1 room (q:Int) false l _ HO.out.files HN.out).mono ?_
 rintro e w2 ⟨rfl,q2⟩
 rw[HOP.out]
 have HO2:=hid (HO.out.q q2)
 have Q2:=hid (Q1.out.trans q2)
 have z0:w.heap.size<w2.heap.size:=(D1.out.q q2).lt
 have z1:w.heap.size+1<w2.heap.size:=(R1.out.q q2).lt
 have z2:w.heap.size≠w2.heap.size:=by omega
 have z3:w.heap.size+1≠w2.heap.size:=by omega
 have D2:=hid (D1.out.q q2)
 have R2:=hid (R1.out.q q2)
 obtain⟨⟨d0,d1,d2,d3⟩,g0,g1,g2,g3⟩:=(D1.out.q q2).get4
 obtain⟨⟨s0,s1,s2,s3⟩,h0,h1,h2,h3⟩:=(R1.out.q q2).get4
 clear q2 e0 e1 e2 e3 f0 f1 f2 f3
 go_wp2_with fail
 refine(named_any nm _).mono ?_
 rintro e w' ⟨rfl,rfl⟩
 rw[HNM.out]
 go_wp2_with fail
 have F2:=Bx.new w2 [.string fa,.string fb,.string fc] 119
 refine(size_any ⟨fa,fb,fc⟩ _ (by unfold maxLen;show fb.size+fc.size≤_;omega)).mono ?_
 rintro e w3 ⟨rfl,q3⟩
 simp only
 have HO3:=hid ((HO2.out.alloc _).q q3)
 have Q3:=hid ((Q2.out.alloc _).trans q3)
 have D3:=hid ((D2.out.alloc _).q q3)
 have R3:=hid ((R2.out.alloc _).q q3)
 have F3:=hid (F2.q q3)
 have y0:w2.heap.size<w3.heap.size:=F3.out.lt
 clear d0 d1 d2 d3 g0 g1 g2 g3 s0 s1 s2 s3 h0 h1 h2 h3 F2 q3
 obtain⟨⟨d0,d1,d2,d3⟩,g0,g1,g2,g3⟩:=D3.out.get4
 obtain⟨⟨s0,s1,s2,s3⟩,h0,h1,h2,h3⟩:=R3.out.get4
 obtain⟨⟨t0,t1,t2⟩,u0,u1,u2⟩:=F3.out.get3
 go_wp2_with fail
 refine(set_end (w.heap.size+2) A1 n c1 ⟨fa,fb,fc++s.extract 0 q⟩ l _ (Own.setNew HO2.out (HO3.out.setCell (p:=⟨w.heap.size,3,none⟩) (by simp) (.bool true)) (p:=⟨w2.heap.size,2,none⟩) (Nat.le_refl _) _) (by omega) (by show w.heap.size+2≤((w3.setCell _ _).setCell _ _).heap.size;simp;omega)).mono ?_
 rintro e w4 ⟨A4,c4,rfl,ho4,b4⟩
 have HO4:=hid ho4
 have Q4:=hid (show Q w w4 from ((Q3.out.setCell (p:=⟨w.heap.size,3,none⟩) (Nat.le_refl _) _).setCell (p:=⟨w2.heap.size,2,none⟩) (by show w.heap.size≤w2.heap.size;omega) _).below.trans (b4.mono (by omega)))
 have D4:=((D3.out.set (k:=3) (by simp) (.bool true)).far (p:=⟨w2.heap.size,2,none⟩) (by show w2.heap.size≠w.heap.size;omega) _).below b4 (by omega)
 have R4:=((R3.out.far (p:=⟨w.heap.size,3,none⟩) (by show w.heap.size≠w.heap.size+1;omega) _).far (p:=⟨w2.heap.size,2,none⟩) (by show w2.heap.size≠w.heap.size+1;omega) _).below b4 (by omega)
 clear ho4 b4 d0 d1 d2 d3 g0 g1 g2 g3 s0 s1 s2 s3 h0 h1 h2 h3 t0 t1 t2 u0 u1 u2
 obtain⟨⟨d0,d1,d2,d3⟩,g0,g1,g2,g3⟩:=Bx.get4 (x:=.slice A1 n c1) (y:=.int .i64 room) (z:=.int .i64 (q:Int)) (u:=.bool true) D4
 obtain⟨⟨s0,s1,s2,s3⟩,h0,h1,h2,h3⟩:=R4.get4
 clear D4 R4
 go_wp2
 refine bodyPost_ret (v:=.tuple #[dkv A4 (n+1) c4 (room - (s.extract 0 q).size) ((q:Int) - (s.extract 0 q).size) true,.int .i64 6]) (by simp[results,Tryz.results147,go_sem,s0,s1,s2,s3]) rfl ⟨A4,(n+1),c4,rfl,?_,?_⟩
 · exact((((HO4.out.setCell (p:=⟨w.heap.size,0,none⟩) (by simp) _).setCell (p:=⟨w.heap.size,1,none⟩) (by simp) _).setCell (p:=⟨w.heap.size,2,none⟩) (by simp) _).set4 (b:=w.heap.size+1) (by omega) _ _ _ _).lower (by omega)
 · exact(((Q4.out.setCell (p:=⟨w.heap.size,0,none⟩) (Nat.le_refl _) _).setCell (p:=⟨w.heap.size,1,none⟩) (Nat.le_refl _) _).setCell (p:=⟨w.heap.size,2,none⟩) (Nat.le_refl _) _).set4 (b:=w.heap.size+1) (by omega) _ _ _ _
theorem append_short_lt (nm s:ByteArray)(A:Option Addr)(n c:Nat)(room fuse:Int)(l:List Fil)(w:World)(hd:Dsk w A n c l)(f:Fil)(k:Nat)(hop:opn nm l=(f,k))(hk:k≤n)(hf:f.sf.size+f.wt.size≤2305843009213693952)(hs:s.size≤2305843009213693952)(hn:nmOk nm=true)(hkn:k<n)(hr:(s.size:Int)≤room)(hr2:room≤9223372036854775807)(hb:f.sf.size+f.wt.size+s.size≤65536)(q:Nat)(hq:fuse=q)(hz:q<s.size) :
  Calls Tryz.prog 147 #[dkv A n c room fuse false,.string nm,.string s] w fun e w'=>RetDE w ⟨l.set k ⟨f.nm,f.sf,f.wt++s.extract 0 q⟩,room - (s.extract 0 q).size,(q:Int) - (s.extract 0 q).size,true⟩ 6 e w':=by
 subst hq
 have k1:((k:Int) == (n:Int))=false:=by simp;omega
 have k2:(k == n)=false:=by simp;omega
 have HNM:=hid hn
 clear hn
 have hx1:(s.extract 0 q).size≤q:=by simp;omega
 have hx2:(s.extract 0 q).size≤s.size:=by simp;omega
 have HD:=hid hd
 have HN:=hid hd.max
 have hlen:=hid hd.len
 have hnm:=hd.max
 unfold maxLen at hnm
 have HOP:=hid hop
 clear hd hop
 obtain⟨fa,fb,fc⟩:=f
 simp only at hf hb
 show Calls _ _ _ _ fun e w'=>RetDE w ⟨l.set k ⟨fa,fb,fc++s.extract 0 q⟩,room - (s.extract 0 q).size,(q:Int) - (s.extract 0 q).size,true⟩ 6 e w'
 go_enter Tryz.func147,Tryz.ntmps147
 go_wp2_with fail
 have B0:=two_new w (.slice A n c) (.int .i64 room) (.int .i64 (q:Int)) (.bool false) (.slice none 0 0) (.int .i64 0) (.int .i64 0) (.bool false) 24
 refine(own_any A n c room (q:Int) false l _ (HD.out.q (((Q.refl _).alloc _).alloc _))).mono ?_
 rintro e w1 ⟨A1,c1,rfl,ho,q1⟩
 rw[size_two] at ho
 have HO:=hid (ho.set4 (b:=w.heap.size) (by omega) (.slice A1 n c1) (.int .i64 room) (.int .i64 (q:Int)) (.bool false))
 have D1:=hid ((B0.1.q q1).put4 (.slice A1 n c1) (.int .i64 room) (.int .i64 (q:Int)) (.bool false))
 have R1:=hid ((B0.2.q q1).far4 (c:=w.heap.size) (by omega) (.slice A1 n c1) (.int .i64 room) (.int .i64 (q:Int)) (.bool false))
 have Q1:=hid ((((((Q.refl w).alloc _).alloc _).trans q1)).set4 (b:=w.heap.size) (Nat.le_refl _) (.slice A1 n c1) (.int .i64 room) (.int .i64 (q:Int)) (.bool false))
 obtain⟨⟨e0,e1,e2,e3⟩,f0,f1,f2,f3⟩:=(B0.1.q q1).get4
 clear B0 q1 ho
 go_wp2_with fail
 refine(open_any nm A1 n c1 room (q:Int) false l _ HO.out.files HN.out).mono ?_
 rintro e w2 ⟨rfl,q2⟩
 rw[HOP.out]
 have HO2:=hid (HO.out.q q2)
 have Q2:=hid (Q1.out.trans q2)
 have z0:w.heap.size<w2.heap.size:=(D1.out.q q2).lt
 have z1:w.heap.size+1<w2.heap.size:=(R1.out.q q2).lt
 have z2:w.heap.size≠w2.heap.size:=by omega
 have z3:w.heap.size+1≠w2.heap.size:=by omega
 have D2:=hid (D1.out.q q2)
 have R2:=hid (R1.out.q q2)
 obtain⟨⟨d0,d1,d2,d3⟩,g0,g1,g2,g3⟩:=(D1.out.q q2).get4
 obtain⟨⟨s0,s1,s2,s3⟩,h0,h1,h2,h3⟩:=(R1.out.q q2).get4
 clear q2 e0 e1 e2 e3 f0 f1 f2 f3
 go_wp2_with fail
 refine(named_any nm _).mono ?_
 rintro e w' ⟨rfl,rfl⟩
 rw[HNM.out]
 go_wp2_with fail
 have F2:=Bx.new w2 [.string fa,.string fb,.string fc] 119
 refine(size_any ⟨fa,fb,fc⟩ _ (by unfold maxLen;show fb.size+fc.size≤_;omega)).mono ?_
 rintro e w3 ⟨rfl,q3⟩
 simp only
 have HO3:=hid ((HO2.out.alloc _).q q3)
 have Q3:=hid ((Q2.out.alloc _).trans q3)
 have D3:=hid ((D2.out.alloc _).q q3)
 have R3:=hid ((R2.out.alloc _).q q3)
 have F3:=hid (F2.q q3)
 have y0:w2.heap.size<w3.heap.size:=F3.out.lt
 clear d0 d1 d2 d3 g0 g1 g2 g3 s0 s1 s2 s3 h0 h1 h2 h3 F2 q3
 obtain⟨⟨d0,d1,d2,d3⟩,g0,g1,g2,g3⟩:=D3.out.get4
 obtain⟨⟨s0,s1,s2,s3⟩,h0,h1,h2,h3⟩:=R3.out.get4
 obtain⟨⟨t0,t1,t2⟩,u0,u1,u2⟩:=F3.out.get3
 go_wp2_with fail
 refine(set_mid (w.heap.size+2) A1 n c1 k ⟨fa,fb,fc++s.extract 0 q⟩ l _ (Own.setNew HO2.out (HO3.out.setCell (p:=⟨w.heap.size,3,none⟩) (by simp) (.bool true)) (p:=⟨w2.heap.size,2,none⟩) (Nat.le_refl _) _) hkn).mono ?_
 rintro e w4 ⟨rfl,ho4,b4⟩
 have HO4:=hid ho4
 have Q4:=hid (show Q w w4 from ((Q3.out.setCell (p:=⟨w.heap.size,3,none⟩) (Nat.le_refl _) _).setCell (p:=⟨w2.heap.size,2,none⟩) (by show w.heap.size≤w2.heap.size;omega) _).below.trans (b4.mono (by omega)))
 have D4:=((D3.out.set (k:=3) (by simp) (.bool true)).far (p:=⟨w2.heap.size,2,none⟩) (by show w2.heap.size≠w.heap.size;omega) _).below b4 (by omega)
 have R4:=((R3.out.far (p:=⟨w.heap.size,3,none⟩) (by show w.heap.size≠w.heap.size+1;omega) _).far (p:=⟨w2.heap.size,2,none⟩) (by show w2.heap.size≠w.heap.size+1;omega) _).below b4 (by omega)
 clear ho4 b4 d0 d1 d2 d3 g0 g1 g2 g3 s0 s1 s2 s3 h0 h1 h2 h3 t0 t1 t2 u0 u1 u2
 obtain⟨⟨d0,d1,d2,d3⟩,g0,g1,g2,g3⟩:=Bx.get4 (x:=.slice A1 n c1) (y:=.int .i64 room) (z:=.int .i64 (q:Int)) (u:=.bool true) D4
 obtain⟨⟨s0,s1,s2,s3⟩,h0,h1,h2,h3⟩:=R4.get4
 clear D4 R4
 go_wp2
 refine bodyPost_ret (v:=.tuple #[dkv A1 n c1 (room - (s.extract 0 q).size) ((q:Int) - (s.extract 0 q).size) true,.int .i64 6]) (by simp[results,Tryz.results147,go_sem,s0,s1,s2,s3]) rfl ⟨A1,n,c1,rfl,?_,?_⟩
 · exact((((HO4.out.setCell (p:=⟨w.heap.size,0,none⟩) (by simp) _).setCell (p:=⟨w.heap.size,1,none⟩) (by simp) _).setCell (p:=⟨w.heap.size,2,none⟩) (by simp) _).set4 (b:=w.heap.size+1) (by omega) _ _ _ _).lower (by omega)
 · exact(((Q4.out.setCell (p:=⟨w.heap.size,0,none⟩) (Nat.le_refl _) _).setCell (p:=⟨w.heap.size,1,none⟩) (Nat.le_refl _) _).setCell (p:=⟨w.heap.size,2,none⟩) (Nat.le_refl _) _).set4 (b:=w.heap.size+1) (by omega) _ _ _ _
end
section
open Go.RowKit Dkm
theorem append_any (nm s:ByteArray)(A:Option Addr)(n c:Nat)(d:Dk)(w:World)(hd:Dsk w A n c d.fs)(hf:∀ f∈d.fs,f.sf.size+f.wt.size≤2305843009213693952)(hs:s.size≤2305843009213693952)
  (hr2:d.room≤9223372036854775807) (hfu:d.fuse≤9223372036854775807) :
  Calls Tryz.prog 147 #[dkv A n c d.room d.fuse d.off,.string nm,.string s] w fun e w'=>RetDE w (appd d nm s).1 (appd d nm s).2 e w':=by
 obtain⟨l,room,fuse,off⟩:=d
 simp only at hd hf hr2 hfu ⊢
 have hlen:=hd.len
 rcases hop:opn nm l with ⟨f,k⟩
 have hk:k≤n:=by have:=opn_le nm l;rw[hop] at this;simp only at this;omega
 have hff:f.sf.size+f.wt.size≤2305843009213693952:=by
  rcases plc_cases nm l with ⟨_,h⟩ | ⟨j,hj,_,hn,hfi⟩
  · rw[opn_none h] at hop
    injection hop with h1 h2
    rw[←h1];show (⟨#[]⟩:ByteArray).size+(⟨#[]⟩:ByteArray).size≤_;decide
  · rw[opn_at hj hn hfi] at hop
    injection hop with h1 h2
    rw[←h1];exact hf _ (List.getElem_mem hj)
 cases off with
 | true =>
   rw[show appd ⟨l,room,fuse,true⟩ nm s=(⟨l,room,fuse,true⟩,6) from rfl]
   exact append_off nm s A n c room fuse l w hd f k hop hk hff hs
 | false =>
   by_cases hn:nmOk nm=true
   · by_cases hful:(k=l.length∧64≤l.length)∨room<s.size
     · rw[show appd ⟨l,room,fuse,false⟩ nm s=(⟨l,room,fuse,false⟩,5) by unfold appd;simp only[hn,hop];rw[if_neg (by simp),if_neg (by simp),if_pos hful]]
       by_cases h1:k=n
       · by_cases h2:64≤n
         · exact append_full1 nm s A n c room fuse l w hd f k hop hk hff hs hn h1 h2
         · exact append_full2_eq nm s A n c room fuse l w hd f k hop hk hff hs hn h1 (by omega) (by omega)
       · exact append_full2_lt nm s A n c room fuse l w hd f k hop hk hff hs hn (by omega) (by omega)
     · by_cases hb:65536<f.sf.size+f.wt.size+s.size
       · rw[show appd ⟨l,room,fuse,false⟩ nm s=(⟨l,room,fuse,false⟩,4) by unfold appd;simp only[hn,hop];rw[if_neg (by simp),if_neg (by simp),if_neg hful,if_pos hb]]
         by_cases h1:k=n
         · exact append_big_eq nm s A n c room fuse l w hd f k hop hk hff hs hn h1 (by omega) (by omega) hb
         · exact append_big_lt nm s A n c room fuse l w hd f k hop hk hff hs hn (by omega) (by omega) hb
       · have e:appd ⟨l,room,fuse,false⟩ nm s=(⟨put l k ⟨f.nm,f.sf,f.wt++cut fuse s⟩,room - (cut fuse s).size,if 0≤fuse then fuse - (cut fuse s).size else fuse,short fuse s⟩,if short fuse s then 6 else 0):=by
           unfold appd;simp only[hn,hop];rw[if_neg (by simp),if_neg (by simp),if_neg hful,if_neg hb]
         rw[e];clear e
         by_cases hsh:0≤fuse∧fuse<s.size
         · have e1:short fuse s=true:=by unfold short;simpa using hsh
           obtain⟨q,rfl⟩:∃ q:Nat,fuse=q:=⟨fuse.toNat,by omega⟩
           have e2:cut (q:Int) s=s.extract 0 q:=by unfold cut;rw[e1];simp
           rw[e1,e2,if_pos (by omega),if_pos rfl]
           by_cases h1:k=n
           · rw[show put l k ⟨f.nm,f.sf,f.wt++s.extract 0 q⟩=l++[⟨f.nm,f.sf,f.wt++s.extract 0 q⟩] by unfold put;rw[if_pos (by omega)]]
             exact append_short_eq nm s A n c room q l w hd f k hop hk hff hs hn h1 (by omega) (by omega) hr2 (by omega) q rfl (by omega)
           · rw[show put l k ⟨f.nm,f.sf,f.wt++s.extract 0 q⟩=l.set k ⟨f.nm,f.sf,f.wt++s.extract 0 q⟩ by unfold put;rw[if_neg (by omega)]]
             exact append_short_lt nm s A n c room q l w hd f k hop hk hff hs hn (by omega) (by omega) hr2 (by omega) q rfl (by omega)
         · have e1:short fuse s=false:=by unfold short;simpa using hsh
           have e2:cut fuse s=s:=by unfold cut;rw[e1];rfl
           have e3:(if false=true then (6:Int) else 0)=0:=rfl
           rw[e1,e2,e3]
           by_cases h0:0≤fuse
           · rw[if_pos h0]
             by_cases h1:k=n
             · rw[show put l k ⟨f.nm,f.sf,f.wt++s⟩=l++[⟨f.nm,f.sf,f.wt++s⟩] by unfold put;rw[if_pos (by omega)]]
               exact append_done_eq_fits nm s A n c room fuse l w hd f k hop hk hff hs hn h1 (by omega) (by omega) hr2 (by omega) (by omega) hfu
             · rw[show put l k ⟨f.nm,f.sf,f.wt++s⟩=l.set k ⟨f.nm,f.sf,f.wt++s⟩ by unfold put;rw[if_neg (by omega)]]
               exact append_done_lt_fits nm s A n c room fuse l w hd f k hop hk hff hs hn (by omega) (by omega) hr2 (by omega) (by omega) hfu
           · rw[if_neg h0]
             by_cases h1:k=n
             · rw[show put l k ⟨f.nm,f.sf,f.wt++s⟩=l++[⟨f.nm,f.sf,f.wt++s⟩] by unfold put;rw[if_pos (by omega)]]
               exact append_done_eq_neg nm s A n c room fuse l w hd f k hop hk hff hs hn h1 (by omega) (by omega) hr2 (by omega) (by omega)
             · rw[show put l k ⟨f.nm,f.sf,f.wt++s⟩=l.set k ⟨f.nm,f.sf,f.wt++s⟩ by unfold put;rw[if_neg (by omega)]]
               exact append_done_lt_neg nm s A n c room fuse l w hd f k hop hk hff hs hn (by omega) (by omega) hr2 (by omega) (by omega)
   · have hn':nmOk nm=false:=by simpa using hn
     rw[show appd ⟨l,room,fuse,false⟩ nm s=(⟨l,room,fuse,false⟩,1) by unfold appd;rw[if_neg (by simp),if_pos hn']]
     exact append_arg nm s A n c room fuse l w hd f k hop hk hff hs hn'
end
section
open Go.RowKit Dkm
theorem Own.few {w:World}{base:Nat}{A:Option Addr}{n c:Nat}{l:List Fil}(h:Own w base A n c l)(hl:l.length≤1000):Dsk w A n c l:=h.dsk (by have:=h.len;omega)
end
end Go.Proofs.YtccoknaaofmbcaaGreatDoor
