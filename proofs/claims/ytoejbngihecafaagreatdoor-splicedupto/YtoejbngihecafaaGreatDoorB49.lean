import Derived.StillTailTactics
import Derived.Test.YtoejbngihecafaaGreatDoorB48
import Derived.Test.YtoejbngihecafaaGreatDoorB45
import Derived.Test.YtoejbngihecafaaGreatDoorB28
import Derived.Test.YtoejbngihecafaaGreatDoorB46
import Derived.Test.YtoejbngihecafaaGreatDoorB23
set_option maxRecDepth 100000
set_option maxHeartbeats 1000000
namespace Go.Proofs.YtoejbngihecafaaGreatDoor
open Go.RowKit
theorem apiK:ApiL Tabs DD:={ api with position:=docPosition,offset:=docOffset }
structure Chd (s:St) (c:Bool) (s':St):Prop where
 yes:c=true->∃k,s'=⟨k,pushK s.O s.k,[]⟩
 no:c=false->s'=s
theorem Chd.of (s:St) (E:Int) (K:Kp):Chd s (E==0) (s.chg E K).2:=by
 unfold St.chg
 by_cases h:E=0
 ·subst h
  exact⟨fun _=>⟨K,rfl⟩,fun q=>absurd q (by decide)⟩
 ·have hb:(E==0)=false:=by simpa using h
  rw[hb,if_neg h]
  exact⟨fun q=>absurd q (by decide),fun _=>rfl⟩
structure KOp where
 kind:Int
 a:Int
 b:Int
 t:Value
 zs:List Int
def KOp.Ok (w:World) (o:KOp):Prop:=(-9223372036854775808<=o.kind/\o.kind<=9223372036854775807)/\(-9223372036854775808<=o.a/\o.a<=9223372036854775807)/\(-9223372036854775808<=o.b/\o.b<=9223372036854775807)/\IntsAt w o.t o.zs/\(∀i,-9223372036854775808<=o.zs.getD i 0/\o.zs.getD i 0<=9223372036854775807)
def KPost (B p:Nat) (s:St) (F:Nat->Prop) (M:Nat) (w:World) (e:Ending) (w':World):Prop:=∃c s' F',e=.returned (.bool c)/\EH B w' p s' F'/\Turn F F' w w'/\s'.Good M/\Chd s c s'
theorem kchange_mrk (B p:Nat) (s:St) (F:Nat->Prop) (M:Nat) (o:KOp) (w:World) (ht:TabA w) (h:EH B w p s F) (hg:s.Good M) (hM:M<=1000000000) (ho:o.Ok w) (hk:Vm.pick o.kind 7=0) :
  Calls Tryz.prog 33 #[.pointer (some ⟨p,0,none⟩),.agg #[.int .i64 o.kind,.int .i64 o.a,.int .i64 o.b,o.t]] w (KPost B p s F M w):=by
 obtain⟨kind,a,b,t,zs⟩:=o
 obtain⟨hk1,ha1,hb1,ht1,hz1⟩:=ho
 simp only at hk hk1 ha1 hb1 ht1 ⊢
 obtain⟨q,cap,rfl⟩:=ht1.val
 have hbd:=good_body hg
 have hba:Below w.heap.size w (w.alloc (.cells #[.int .i64 kind,.int .i64 a,.int .i64 b,.slice q zs.length cap] 79)):=(Below.refl _ _).alloc (Nat.le_refl _) _
 have SH:=Z1 (docShow p s.k.enc s.k.mark s.k.body _ (ht.below hba).tw.tabs ((h.low hba).dd (by omega)))
 have PK:=Z1 (fun W=>kpick_any kind 7 W hk1.1 hk1.2 (by decide) (by decide))
 rw[hk] at PK
 have P:=Z1 (fun W (hb:Below w.heap.size w W)=>eMrk B p s F M W (a.tmod 2==0) (ht.below hb) (h.low hb) hg hM)
 have HC:=Z1 (Chd.of s (mkE s.k (a.tmod 2==0)) (markK s.k (a.tmod 2==0)))
 have HG:=Z1 (hg.mrk (on:=a.tmod 2==0))
 have hz:=h.lt
 obtain⟨n2,n3,n4,n5,n6,t7,n8,hsh⟩:=shown_parts s.k.enc s.k.mark s.k.body
 rw[hsh] at SH
 obtain⟨V,hV⟩:∃V,V=s.mrk (a.tmod 2==0):=⟨_,rfl⟩
 rw[<-hV] at P
 have HV:=Z1 hV
 have hmo:Tryz.prog.follows Departure.mixedOrders=true:=by kernel_rfl
 have HBA:=Z1 hba
 clear hsh ht h hg ht1 hz1 hk hV hba
 go_enter Tryz.func33,Tryz.ntmps33
 go_wp2_with fail
 refine SH.out.mono ?_
 rintro e w1 ⟨rfl,hb1'⟩
 have hC1:w1.heap[w.heap.size]?=some (.cells #[.int .i64 kind,.int .i64 a,.int .i64 b,.slice q zs.length cap] 79):=(hb1'.block w.heap.size (by rw[World.size_alloc];omega)).trans (Go.Deep.blk_alloc_new _ _)
 have hbw1:=HBA.out.trans (hb1'.mono HBA.out.size)
 have hb2:Below w.heap.size w (w1.alloc (.cells #[.int .i64 s.k.enc,.bool s.k.mark,.int .i64 n2,.int .i64 n3,.int .i64 n4,.int .i64 n5,.int .i64 n6,.bool t7,.int .i64 n8] 66)):=hbw1.alloc hbw1.size _
 have hC2:=(Below.heap_alloc w1 (.cells #[.int .i64 s.k.enc,.bool s.k.mark,.int .i64 n2,.int .i64 n3,.int .i64 n4,.int .i64 n5,.int .i64 n6,.bool t7,.int .i64 n8] 66) w.heap.size (Z4 hC1)).trans hC1
 clear hb1' hbw1 SH HBA
 have k0':w1.cell? ⟨w.heap.size,0,none⟩=some (.int .i64 kind):=by rw[Lib.cell_of_heap hC1];rfl
 have hzC:=Z4 hC1
 go_wp2_with fail
 refine (PK.out _).mono ?_
 rintro e w2 ⟨rfl,rfl⟩
 clear k0' PK
 generalize w1.alloc (.cells #[.int .i64 s.k.enc,.bool s.k.mark,.int .i64 n2,.int .i64 n3,.int .i64 n4,.int .i64 n5,.int .i64 n6,.bool t7,.int .i64 n8] 66)=w3 at *
 generalize w1.heap.size=X at *
 have k1:w3.cell? ⟨w.heap.size,1,none⟩=some (.int .i64 a):=by rw[Lib.cell_of_heap hC2];rfl
 have hz3:=Z3 k1
 have HB2:=Z1 hb2
 clear hC1 hC2 hb2 hzC
 go_wp2_with fail
 refine (P.out _ HB2.out).mono ?_
 rintro e w4 ⟨rfl,F4,he4,ht4⟩
 have HFN:=Z1 (show EH B w4 p V.2 F4/\Turn F F4 w w4/\V.2.Good M/\Chd s (V.1==0) V.2 from ⟨he4,(Turn.of_below HB2.out).trans ht4,by rw[HV.out];exact HG.out,by rw[HV.out];exact HC.out⟩)
 clear P HG HC he4 ht4 HB2 HV k1 hz3
 obtain⟨v1,s1⟩:=V
 simp only at HFN ⊢
 go_wp2_with fail
 go_ret
 exact⟨(v1==0),s1,F4,rfl,HFN.out⟩
theorem kchange_eds (B p:Nat) (s:St) (F:Nat->Prop) (M:Nat) (o:KOp) (w:World) (ht:TabA w) (h:EH B w p s F) (hg:s.Good M) (hM:M<=1000000000) (ho:o.Ok w) (hk:Vm.pick o.kind 7=1) :
  Calls Tryz.prog 33 #[.pointer (some ⟨p,0,none⟩),.agg #[.int .i64 o.kind,.int .i64 o.a,.int .i64 o.b,o.t]] w (KPost B p s F M w):=by
 obtain⟨kind,a,b,t,zs⟩:=o
 obtain⟨hk1,ha1,hb1,ht1,hz1⟩:=ho
 simp only at hk hk1 ha1 hb1 ht1 ⊢
 obtain⟨q,cap,rfl⟩:=ht1.val
 have hbd:=good_body hg
 have hba:Below w.heap.size w (w.alloc (.cells #[.int .i64 kind,.int .i64 a,.int .i64 b,.slice q zs.length cap] 79)):=(Below.refl _ _).alloc (Nat.le_refl _) _
 have SH:=Z1 (docShow p s.k.enc s.k.mark s.k.body _ (ht.below hba).tw.tabs ((h.low hba).dd (by omega)))
 have PK:=Z1 (fun W=>kpick_any kind 7 W hk1.1 hk1.2 (by decide) (by decide))
 rw[hk] at PK
 have hpb:=Vm.pick_bd a 3 (by decide)
 have PA:=Z1 (fun W=>kpick_any a 3 W ha1.1 ha1.2 (by decide) (by decide))
 have P:=Z1 (fun W (hb:Below w.heap.size w W)=>eEds B p s F M W (Vm.pick a 3) (ht.below hb) (h.low hb) hg hM)
 have HC:=Z1 (Chd.of s (edE (Vm.pick a 3)) (endK s.k (Vm.pick a 3)))
 have HG:=Z1 (hg.eds (kd:=Vm.pick a 3))
 have hz:=h.lt
 obtain⟨n2,n3,n4,n5,n6,t7,n8,hsh⟩:=shown_parts s.k.enc s.k.mark s.k.body
 rw[hsh] at SH
 obtain⟨V,hV⟩:∃V,V=s.eds (Vm.pick a 3):=⟨_,rfl⟩
 rw[<-hV] at P
 have HV:=Z1 hV
 have hmo:Tryz.prog.follows Departure.mixedOrders=true:=by kernel_rfl
 have HBA:=Z1 hba
 clear hsh ht h hg ht1 hz1 hk hV hba
 go_enter Tryz.func33,Tryz.ntmps33
 go_wp2_with fail
 refine SH.out.mono ?_
 rintro e w1 ⟨rfl,hb1'⟩
 have hC1:w1.heap[w.heap.size]?=some (.cells #[.int .i64 kind,.int .i64 a,.int .i64 b,.slice q zs.length cap] 79):=(hb1'.block w.heap.size (by rw[World.size_alloc];omega)).trans (Go.Deep.blk_alloc_new _ _)
 have hbw1:=HBA.out.trans (hb1'.mono HBA.out.size)
 have hb2:Below w.heap.size w (w1.alloc (.cells #[.int .i64 s.k.enc,.bool s.k.mark,.int .i64 n2,.int .i64 n3,.int .i64 n4,.int .i64 n5,.int .i64 n6,.bool t7,.int .i64 n8] 66)):=hbw1.alloc hbw1.size _
 have hC2:=(Below.heap_alloc w1 (.cells #[.int .i64 s.k.enc,.bool s.k.mark,.int .i64 n2,.int .i64 n3,.int .i64 n4,.int .i64 n5,.int .i64 n6,.bool t7,.int .i64 n8] 66) w.heap.size (Z4 hC1)).trans hC1
 clear hb1' hbw1 SH HBA
 have k0':w1.cell? ⟨w.heap.size,0,none⟩=some (.int .i64 kind):=by rw[Lib.cell_of_heap hC1];rfl
 have hzC:=Z4 hC1
 go_wp2_with fail
 refine (PK.out _).mono ?_
 rintro e w2 ⟨rfl,rfl⟩
 clear k0' PK
 generalize w1.alloc (.cells #[.int .i64 s.k.enc,.bool s.k.mark,.int .i64 n2,.int .i64 n3,.int .i64 n4,.int .i64 n5,.int .i64 n6,.bool t7,.int .i64 n8] 66)=w3 at *
 generalize w1.heap.size=X at *
 have k1:w3.cell? ⟨w.heap.size,1,none⟩=some (.int .i64 a):=by rw[Lib.cell_of_heap hC2];rfl
 have hz3:=Z3 k1
 have HB2:=Z1 hb2
 clear hC1 hC2 hb2 hzC
 go_wp2_with fail
 refine (PA.out _).mono ?_
 rintro e w5 ⟨rfl,rfl⟩
 clear PA
 go_wp2_with fail
 refine (P.out _ HB2.out).mono ?_
 rintro e w4 ⟨rfl,F4,he4,ht4⟩
 have HFN:=Z1 (show EH B w4 p V.2 F4/\Turn F F4 w w4/\V.2.Good M/\Chd s (V.1==0) V.2 from ⟨he4,(Turn.of_below HB2.out).trans ht4,by rw[HV.out];exact HG.out,by rw[HV.out];exact HC.out⟩)
 clear P HG HC he4 ht4 HB2 HV k1 hz3
 obtain⟨v1,s1⟩:=V
 simp only at HFN ⊢
 go_wp2_with fail
 go_ret
 exact⟨(v1==0),s1,F4,rfl,HFN.out⟩
theorem kchange_cod (B p:Nat) (s:St) (F:Nat->Prop) (M:Nat) (o:KOp) (w:World) (ht:TabA w) (h:EH B w p s F) (hg:s.Good M) (hM:M<=1000000000) (ho:o.Ok w) (hk:Vm.pick o.kind 7=2) :
  Calls Tryz.prog 33 #[.pointer (some ⟨p,0,none⟩),.agg #[.int .i64 o.kind,.int .i64 o.a,.int .i64 o.b,o.t]] w (KPost B p s F M w):=by
 obtain⟨kind,a,b,t,zs⟩:=o
 obtain⟨hk1,ha1,hb1,ht1,hz1⟩:=ho
 simp only at hk hk1 ha1 hb1 ht1 ⊢
 obtain⟨q,cap,rfl⟩:=ht1.val
 have hbd:=good_body hg
 have hba:Below w.heap.size w (w.alloc (.cells #[.int .i64 kind,.int .i64 a,.int .i64 b,.slice q zs.length cap] 79)):=(Below.refl _ _).alloc (Nat.le_refl _) _
 have SH:=Z1 (docShow p s.k.enc s.k.mark s.k.body _ (ht.below hba).tw.tabs ((h.low hba).dd (by omega)))
 have PK:=Z1 (fun W=>kpick_any kind 7 W hk1.1 hk1.2 (by decide) (by decide))
 rw[hk] at PK
 have hpb:=Vm.pick_bd a 4 (by decide)
 have PA:=Z1 (fun W=>kpick_any a 4 W ha1.1 ha1.2 (by decide) (by decide))
 have P:=Z1 (fun W (hb:Below w.heap.size w W)=>eCod B p s F M W (Vm.pick a 4) (ht.below hb) (h.low hb) hg hM)
 have HC:=Z1 (Chd.of s (ecE s.k (Vm.pick a 4)) (encK s.k (Vm.pick a 4)))
 have HG:=Z1 (hg.cod (en:=Vm.pick a 4))
 have hz:=h.lt
 obtain⟨n2,n3,n4,n5,n6,t7,n8,hsh⟩:=shown_parts s.k.enc s.k.mark s.k.body
 rw[hsh] at SH
 obtain⟨V,hV⟩:∃V,V=s.cod (Vm.pick a 4):=⟨_,rfl⟩
 rw[<-hV] at P
 have HV:=Z1 hV
 have hmo:Tryz.prog.follows Departure.mixedOrders=true:=by kernel_rfl
 have HBA:=Z1 hba
 clear hsh ht h hg ht1 hz1 hk hV hba
 go_enter Tryz.func33,Tryz.ntmps33
 go_wp2_with fail
 refine SH.out.mono ?_
 rintro e w1 ⟨rfl,hb1'⟩
 have hC1:w1.heap[w.heap.size]?=some (.cells #[.int .i64 kind,.int .i64 a,.int .i64 b,.slice q zs.length cap] 79):=(hb1'.block w.heap.size (by rw[World.size_alloc];omega)).trans (Go.Deep.blk_alloc_new _ _)
 have hbw1:=HBA.out.trans (hb1'.mono HBA.out.size)
 have hb2:Below w.heap.size w (w1.alloc (.cells #[.int .i64 s.k.enc,.bool s.k.mark,.int .i64 n2,.int .i64 n3,.int .i64 n4,.int .i64 n5,.int .i64 n6,.bool t7,.int .i64 n8] 66)):=hbw1.alloc hbw1.size _
 have hC2:=(Below.heap_alloc w1 (.cells #[.int .i64 s.k.enc,.bool s.k.mark,.int .i64 n2,.int .i64 n3,.int .i64 n4,.int .i64 n5,.int .i64 n6,.bool t7,.int .i64 n8] 66) w.heap.size (Z4 hC1)).trans hC1
 clear hb1' hbw1 SH HBA
 have k0':w1.cell? ⟨w.heap.size,0,none⟩=some (.int .i64 kind):=by rw[Lib.cell_of_heap hC1];rfl
 have hzC:=Z4 hC1
 go_wp2_with fail
 refine (PK.out _).mono ?_
 rintro e w2 ⟨rfl,rfl⟩
 clear k0' PK
 generalize w1.alloc (.cells #[.int .i64 s.k.enc,.bool s.k.mark,.int .i64 n2,.int .i64 n3,.int .i64 n4,.int .i64 n5,.int .i64 n6,.bool t7,.int .i64 n8] 66)=w3 at *
 generalize w1.heap.size=X at *
 have k1:w3.cell? ⟨w.heap.size,1,none⟩=some (.int .i64 a):=by rw[Lib.cell_of_heap hC2];rfl
 have hz3:=Z3 k1
 have HB2:=Z1 hb2
 clear hC1 hC2 hb2 hzC
 go_wp2_with fail
 refine (PA.out _).mono ?_
 rintro e w5 ⟨rfl,rfl⟩
 clear PA
 go_wp2_with fail
 refine (P.out _ HB2.out).mono ?_
 rintro e w4 ⟨rfl,F4,he4,ht4⟩
 have HFN:=Z1 (show EH B w4 p V.2 F4/\Turn F F4 w w4/\V.2.Good M/\Chd s (V.1==0) V.2 from ⟨he4,(Turn.of_below HB2.out).trans ht4,by rw[HV.out];exact HG.out,by rw[HV.out];exact HC.out⟩)
 clear P HG HC he4 ht4 HB2 HV k1 hz3
 obtain⟨v1,s1⟩:=V
 simp only at HFN ⊢
 go_wp2_with fail
 go_ret
 exact⟨(v1==0),s1,F4,rfl,HFN.out⟩
end Go.Proofs.YtoejbngihecafaaGreatDoor
namespace Go.Proofs.YtoejbngihecafaaGreatDoor
open Go.RowKit
theorem offL_nn (A:List Vm.At) (n k:Nat) (h:k<n):(Vm.offL A n)[k]?=some ((Vm.bytesA (A.take k):Nat):Int):=Vm.offL_at A n k h
theorem kchange_rpl (B p:Nat) (s:St) (F:Nat->Prop) (M:Nat) (o:KOp) (w:World) (ht:TabA w) (h:EH B w p s F) (hg:s.Good M) (hM:M+8 * o.zs.length<=100000000) (ho:o.Ok w) (hk:3<=Vm.pick o.kind 7) :
  Calls Tryz.prog 33 #[.pointer (some ⟨p,0,none⟩),.agg #[.int .i64 o.kind,.int .i64 o.a,.int .i64 o.b,o.t]] w (KPost B p s F (M+64 * o.zs.length) w):=by
 obtain⟨kind,a,b,t,zs⟩:=o
 obtain⟨hk1,ha1,hb1,ht1,hz1⟩:=ho
 simp only at hk hk1 ha1 hb1 ht1 hz1 hM ⊢
 obtain⟨q,cap,rfl⟩:=ht1.val
 have hbd:=good_body hg
 have hkk:=hg.now
 have hba:Below w.heap.size w (w.alloc (.cells #[.int .i64 kind,.int .i64 a,.int .i64 b,.slice q zs.length cap] 79)):=(Below.refl _ _).alloc (Nat.le_refl _) _
 have SH:=Z1 (docShow p s.k.enc s.k.mark s.k.body _ (ht.below hba).tw.tabs ((h.low hba).dd (by omega)))
 have PK:=Z1 (fun W=>kpick_any kind 7 W hk1.1 hk1.2 (by decide) (by decide))
 generalize Vm.pick kind 7=kk at *
 have kk0:(kk==0)=false:=by simp;omega
 have kk1:(kk==1)=false:=by simp;omega
 have kk2:(kk==2)=false:=by simp;omega
 have OF:=Z1 (fun W (hb:Below w.heap.size w W)=>offsets_any apiK p s.k.enc s.k.mark s.k.body W (ht.below hb).tw.tabs ((h.low hb).dd (by omega)) (show s.k.A.length<=1073741824 by omega))
 change Hid (∀W (hb:Below w.heap.size w W),Calls Tryz.prog 26 #[.pointer (some ⟨p,0,none⟩),.int .i64 (Vm.bytesA s.k.A)] W fun e w'=>∃g cap,e=.returned (.tuple #[.slice (some ⟨g,0,none⟩) (s.k.A.length+1) cap,.bool true])/\OwnI w' W.heap.size (.slice (some ⟨g,0,none⟩) (s.k.A.length+1) cap) (Vm.offL s.k.A (s.k.A.length+1))/\Below W.heap.size W w') at OF
 have hpa:=Vm.pick_bd a ((s.k.A.length:Int)+1) (by omega)
 have hpb:=Vm.pick_bd b ((s.k.A.length:Int)+1) (by omega)
 have PA:=Z1 (fun W=>kpick_any a ((s.k.A.length:Int)+1) W ha1.1 ha1.2 (by omega) (by omega))
 have PB:=Z1 (fun W=>kpick_any b ((s.k.A.length:Int)+1) W hb1.1 hb1.2 (by omega) (by omega))
 obtain⟨ja,hja⟩:∃j:Nat,Vm.pick a ((s.k.A.length:Int)+1)=j:=⟨(Vm.pick a ((s.k.A.length:Int)+1)).toNat,by omega⟩
 obtain⟨jb,hjb⟩:∃j:Nat,Vm.pick b ((s.k.A.length:Int)+1)=j:=⟨(Vm.pick b ((s.k.A.length:Int)+1)).toNat,by omega⟩
 rw[hja] at PA hpa
 rw[hjb] at PB hpb
 have hend:0<=Vm.endingOf (Vm.cntK s.k.A 0) (Vm.cntK s.k.A 1) (Vm.cntK s.k.A 2)/\Vm.endingOf (Vm.cntK s.k.A 0) (Vm.cntK s.k.A 1) (Vm.cntK s.k.A 2)<=2:=by
  unfold Vm.endingOf
  by_cases q:(if Vm.cntK s.k.A 0<Vm.cntK s.k.A 1 then Vm.cntK s.k.A 1 else Vm.cntK s.k.A 0)<Vm.cntK s.k.A 2
  ·rw[if_pos q];decide
  ·rw[if_neg q];split<;>decide
 obtain⟨n3,n4,n5,n6,t7,hsh⟩:∃(n3 n4 n5 n6:Int) (t7:Bool),shown s.k.enc s.k.mark s.k.body=.agg #[.int .i64 s.k.enc,.bool s.k.mark,.int .i64 (Vm.bytesA s.k.A),.int .i64 n3,.int .i64 n4,.int .i64 n5,.int .i64 n6,.bool t7,.int .i64 (Vm.endingOf (Vm.cntK s.k.A 0) (Vm.cntK s.k.A 1) (Vm.cntK s.k.A 2))]:=⟨_,_,_,_,_,rfl⟩
 rw[hsh] at SH
 obtain⟨en,hen⟩:∃en,en=Vm.endingOf (Vm.cntK s.k.A 0) (Vm.cntK s.k.A 1) (Vm.cntK s.k.A 2):=⟨_,rfl⟩
 rw[<-hen] at SH hend
 have TY:=Z1 (fun W (hb:Below w.heap.size w W)=>ktyped_any (.slice q zs.length cap) zs s.k.enc en W (ht1.low hb) hkk.1.h0 hkk.1.h3 hend.1 hend.2 (by omega) hz1)
 have htl:=rec_len8 0 (Vm.ktA (decide (s.k.enc=3)) false (zs.take 60))
 rw[Vm.kt_len,List.length_take] at htl
 have hts:(strOfNums (Vm.recL 0 (Vm.ktA (decide (s.k.enc=3)) false (zs.take 60)))).size<=8 * zs.length:=by rw[str_size];omega
 generalize strOfNums (Vm.recL 0 (Vm.ktA (decide (s.k.enc=3)) false (zs.take 60)))=tx at *
 generalize strOfNums (Vm.typL s.k.enc en (Vm.ktA (decide (s.k.enc=3)) false (zs.take 60)))=ty at *
 have P:=Z1 (fun W (hb:Below w.heap.size w W) (f t:Int)=>eRpl B p s F M W f t tx (ht.below hb) (h.low hb) hg (by omega))
 have HC:=Z1 (fun f t=>Chd.of s (rplE s.k f t tx) (rplK s.k f t tx))
 have HG:=Z1 (fun f t=>(hg.rpl (f:=f) (t:=t) (text:=tx)).mono (show M+8 * tx.size<=M+64 * zs.length by omega))
 have hz:=h.lt
 have hmo:Tryz.prog.follows Departure.mixedOrders=true:=by kernel_rfl
 have HBA:=Z1 hba
 have KD:=Z1 (fun W=>kkind_any (.int .i64 s.k.enc) (.bool s.k.mark) (.int .i64 (Vm.bytesA s.k.A)) (.int .i64 n3) (.int .i64 n4) (.int .i64 n5) (.int .i64 n6) (.bool t7) en W hend.1 hend.2)
 have hal:s.k.A.length<=100000000:=by omega
 clear hsh ht h hg ht1 hz1 hba hja hjb hen htl hbd hkk hts hend
 go_enter Tryz.func33,Tryz.ntmps33
 go_wp2_with fail
 refine SH.out.mono ?_
 rintro e w1 ⟨rfl,hb1'⟩
 have hC1:w1.heap[w.heap.size]?=some (.cells #[.int .i64 kind,.int .i64 a,.int .i64 b,.slice q zs.length cap] 79):=(hb1'.block w.heap.size (by rw[World.size_alloc];omega)).trans (Go.Deep.blk_alloc_new _ _)
 have hbw1:=HBA.out.trans (hb1'.mono HBA.out.size)
 have hb2:Below w.heap.size w (w1.alloc (.cells #[.int .i64 s.k.enc,.bool s.k.mark,.int .i64 (Vm.bytesA s.k.A),.int .i64 n3,.int .i64 n4,.int .i64 n5,.int .i64 n6,.bool t7,.int .i64 en] 66)):=hbw1.alloc hbw1.size _
 have hC2:=(Below.heap_alloc w1 (.cells #[.int .i64 s.k.enc,.bool s.k.mark,.int .i64 (Vm.bytesA s.k.A),.int .i64 n3,.int .i64 n4,.int .i64 n5,.int .i64 n6,.bool t7,.int .i64 en] 66) w.heap.size (Z4 hC1)).trans hC1
 have hX2:=Go.Deep.blk_alloc_new w1 (.cells #[.int .i64 s.k.enc,.bool s.k.mark,.int .i64 (Vm.bytesA s.k.A),.int .i64 n3,.int .i64 n4,.int .i64 n5,.int .i64 n6,.bool t7,.int .i64 en] 66)
 clear hb1' hbw1 SH HBA
 have k0':w1.cell? ⟨w.heap.size,0,none⟩=some (.int .i64 kind):=by rw[Lib.cell_of_heap hC1];rfl
 have hzC:=Z4 hC1
 go_wp2_with fail
 refine (PK.out _).mono ?_
 rintro e w2 ⟨rfl,rfl⟩
 clear k0' PK
 generalize w1.alloc (.cells #[.int .i64 s.k.enc,.bool s.k.mark,.int .i64 (Vm.bytesA s.k.A),.int .i64 n3,.int .i64 n4,.int .i64 n5,.int .i64 n6,.bool t7,.int .i64 en] 66)=w3 at *
 generalize w1.heap.size=X at *
 have x2:w3.cell? ⟨X,2,none⟩=some (.int .i64 (Vm.bytesA s.k.A)):=by rw[Lib.cell_of_heap hX2];rfl
 have hz3:=Z3 x2
 have HB2:=Z1 hb2
 have HC2:=Z1 hC2
 have HX2:=Z1 hX2
 clear hC1 hC2 hb2 hzC hX2
 go_wp2_with fail
 refine (OF.out _ HB2.out).mono ?_
 rintro e w4 ⟨g,gc,rfl,hown,hb4⟩
 have hC4:=(hb4.block w.heap.size (Z4 HC2.out)).trans HC2.out
 have hX4:=(hb4.block X (Z4 HX2.out)).trans HX2.out
 have HB4:=Z1 (HB2.out.trans (hb4.mono HB2.out.size))
 have o1:w4.cell? ⟨w.heap.size,1,none⟩=some (.int .i64 a):=by rw[Lib.cell_of_heap hC4];rfl
 have o2:w4.cell? ⟨w.heap.size,2,none⟩=some (.int .i64 b):=by rw[Lib.cell_of_heap hC4];rfl
 have o3:w4.cell? ⟨w.heap.size,3,none⟩=some (.slice q zs.length cap):=by rw[Lib.cell_of_heap hC4];rfl
 have qa:=hown.cellAt ja _ (offL_nn s.k.A (s.k.A.length+1) ja (by omega))
 have qb:=hown.cellAt jb _ (offL_nn s.k.A (s.k.A.length+1) jb (by omega))
 have hz4:=Z3 o1
 have hzg:=Z3 qa
 have HX4:=Z1 hX4
 clear x2 hz3 HB2 HC2 HX2 hb4 hown hC4 hX4 OF
 generalize hfa:(Vm.bytesA (s.k.A.take ja):Int)=fa at *
 generalize hfb:(Vm.bytesA (s.k.A.take jb):Int)=fb at *
 clear hfa hfb
 go_wp2_with fail
 refine (PA.out _).mono ?_
 rintro e w5 ⟨rfl,rfl⟩
 go_wp2_with fail
 refine (PB.out _).mono ?_
 rintro e w6 ⟨rfl,rfl⟩
 clear PA PB
 by_cases hab:fb<fa
 ·go_wp2_with fail
  have c3:∀x:Bl w6,x.val.cell? ⟨w.heap.size,3,none⟩=some (.slice q zs.length cap):=fun x=>(x.2.cell (p:=⟨w.heap.size,3,none⟩) hz4).trans o3
  have hXx:∀x:Bl w6,x.val.heap[X]?=_:=fun x=>(x.2.block X (Z4 HX4.out)).trans HX4.out
  have d0:∀x:Bl w6,x.val.cell? ⟨X,0,none⟩=some (.int .i64 s.k.enc):=fun x=>by rw[Lib.cell_of_heap (hXx x)];rfl
  have d1:∀x:Bl w6,x.val.cell? ⟨X,1,none⟩=some (.bool s.k.mark):=fun x=>by rw[Lib.cell_of_heap (hXx x)];rfl
  have d2:∀x:Bl w6,x.val.cell? ⟨X,2,none⟩=some (.int .i64 (Vm.bytesA s.k.A)):=fun x=>by rw[Lib.cell_of_heap (hXx x)];rfl
  have d3:∀x:Bl w6,x.val.cell? ⟨X,3,none⟩=some (.int .i64 n3):=fun x=>by rw[Lib.cell_of_heap (hXx x)];rfl
  have d4:∀x:Bl w6,x.val.cell? ⟨X,4,none⟩=some (.int .i64 n4):=fun x=>by rw[Lib.cell_of_heap (hXx x)];rfl
  have d5:∀x:Bl w6,x.val.cell? ⟨X,5,none⟩=some (.int .i64 n5):=fun x=>by rw[Lib.cell_of_heap (hXx x)];rfl
  have d6:∀x:Bl w6,x.val.cell? ⟨X,6,none⟩=some (.int .i64 n6):=fun x=>by rw[Lib.cell_of_heap (hXx x)];rfl
  have d7:∀x:Bl w6,x.val.cell? ⟨X,7,none⟩=some (.bool t7):=fun x=>by rw[Lib.cell_of_heap (hXx x)];rfl
  have d8:∀x:Bl w6,x.val.cell? ⟨X,8,none⟩=some (.int .i64 en):=fun x=>by rw[Lib.cell_of_heap (hXx x)];rfl
  have KDX:=Z1 (fun (x:Bl w6)=>KD.out x.val)
  have TYX:=Z1 (fun (x:Bl w6)=>TY.out x.val (HB4.out.trans (x.2.mono HB4.out.size)))
  clear KD TY hXx
  refine wp_region_bl hmo (by kernel_rfl) ?_
  repeat (go_big_quiet_step (first|(go_at_call 28;refine Calls.bl_of (KDX.out _))|(go_at_call 27;refine Calls.bl_of (TYX.out _))|fail))
  refine wpQuiet_nil ?_
  intro _ hw'
  obtain⟨x5,hx5⟩:=hw'
  subst hx5
  have hb5:=x5.2
  generalize x5.val=w7 at *
  have HB7:=Z1 (HB4.out.trans (hb5.mono HB4.out.size))
  have P7:=Z1 (P.out w7 HB7.out fb fa)
  have HC7:=Z1 (HC.out fb fa)
  have HG7:=Z1 (HG.out fb fa)
  obtain⟨V,hV⟩:∃V,V=s.rpl fb fa tx:=⟨_,rfl⟩
  rw[<-hV] at P7 HG7
  have HV:=Z1 hV
  have hz7:p<w7.heap.size:=by have:=HB7.out.size;omega
  clear c3 d0 d1 d2 d3 d4 d5 d6 d7 d8 KDX TYX P HC HG hV hb5 HX4 o1 o2 o3 qa qb hz4 hzg hab
  go_wp2_with fail
  refine P7.out.mono ?_
  rintro e w8 ⟨rfl,F8,he8,ht8⟩
  have HFN:=Z1 (show EH B w8 p V.2 F8/\Turn F F8 w w8/\V.2.Good (M+64 * zs.length)/\Chd s (V.1==0) V.2 from ⟨he8,(Turn.of_below HB7.out).trans ht8,HG7.out,by rw[HV.out];exact HC7.out⟩)
  clear P7 HC7 HG7 he8 ht8 HB4 HB7 HV
  obtain⟨v1,s1⟩:=V
  simp only at HFN ⊢
  go_wp2_with fail
  go_ret
  exact⟨(v1==0),s1,F8,rfl,HFN.out⟩
 ·go_wp2_with fail
  have c3:∀x:Bl w6,x.val.cell? ⟨w.heap.size,3,none⟩=some (.slice q zs.length cap):=fun x=>(x.2.cell (p:=⟨w.heap.size,3,none⟩) hz4).trans o3
  have hXx:∀x:Bl w6,x.val.heap[X]?=_:=fun x=>(x.2.block X (Z4 HX4.out)).trans HX4.out
  have d0:∀x:Bl w6,x.val.cell? ⟨X,0,none⟩=some (.int .i64 s.k.enc):=fun x=>by rw[Lib.cell_of_heap (hXx x)];rfl
  have d1:∀x:Bl w6,x.val.cell? ⟨X,1,none⟩=some (.bool s.k.mark):=fun x=>by rw[Lib.cell_of_heap (hXx x)];rfl
  have d2:∀x:Bl w6,x.val.cell? ⟨X,2,none⟩=some (.int .i64 (Vm.bytesA s.k.A)):=fun x=>by rw[Lib.cell_of_heap (hXx x)];rfl
  have d3:∀x:Bl w6,x.val.cell? ⟨X,3,none⟩=some (.int .i64 n3):=fun x=>by rw[Lib.cell_of_heap (hXx x)];rfl
  have d4:∀x:Bl w6,x.val.cell? ⟨X,4,none⟩=some (.int .i64 n4):=fun x=>by rw[Lib.cell_of_heap (hXx x)];rfl
  have d5:∀x:Bl w6,x.val.cell? ⟨X,5,none⟩=some (.int .i64 n5):=fun x=>by rw[Lib.cell_of_heap (hXx x)];rfl
  have d6:∀x:Bl w6,x.val.cell? ⟨X,6,none⟩=some (.int .i64 n6):=fun x=>by rw[Lib.cell_of_heap (hXx x)];rfl
  have d7:∀x:Bl w6,x.val.cell? ⟨X,7,none⟩=some (.bool t7):=fun x=>by rw[Lib.cell_of_heap (hXx x)];rfl
  have d8:∀x:Bl w6,x.val.cell? ⟨X,8,none⟩=some (.int .i64 en):=fun x=>by rw[Lib.cell_of_heap (hXx x)];rfl
  have KDX:=Z1 (fun (x:Bl w6)=>KD.out x.val)
  have TYX:=Z1 (fun (x:Bl w6)=>TY.out x.val (HB4.out.trans (x.2.mono HB4.out.size)))
  clear KD TY hXx
  refine wp_region_bl hmo (by kernel_rfl) ?_
  repeat (go_big_quiet_step (first|(go_at_call 28;refine Calls.bl_of (KDX.out _))|(go_at_call 27;refine Calls.bl_of (TYX.out _))|fail))
  refine wpQuiet_nil ?_
  intro _ hw'
  obtain⟨x5,hx5⟩:=hw'
  subst hx5
  have hb5:=x5.2
  generalize x5.val=w7 at *
  have HB7:=Z1 (HB4.out.trans (hb5.mono HB4.out.size))
  have P7:=Z1 (P.out w7 HB7.out fa fb)
  have HC7:=Z1 (HC.out fa fb)
  have HG7:=Z1 (HG.out fa fb)
  obtain⟨V,hV⟩:∃V,V=s.rpl fa fb tx:=⟨_,rfl⟩
  rw[<-hV] at P7 HG7
  have HV:=Z1 hV
  have hz7:p<w7.heap.size:=by have:=HB7.out.size;omega
  clear c3 d0 d1 d2 d3 d4 d5 d6 d7 d8 KDX TYX P HC HG hV hb5 HX4 o1 o2 o3 qa qb hz4 hzg hab
  go_wp2_with fail
  refine P7.out.mono ?_
  rintro e w8 ⟨rfl,F8,he8,ht8⟩
  have HFN:=Z1 (show EH B w8 p V.2 F8/\Turn F F8 w w8/\V.2.Good (M+64 * zs.length)/\Chd s (V.1==0) V.2 from ⟨he8,(Turn.of_below HB7.out).trans ht8,HG7.out,by rw[HV.out];exact HC7.out⟩)
  clear P7 HC7 HG7 he8 ht8 HB4 HB7 HV
  obtain⟨v1,s1⟩:=V
  simp only at HFN ⊢
  go_wp2_with fail
  go_ret
  exact⟨(v1==0),s1,F8,rfl,HFN.out⟩
theorem kchange_any (B p:Nat) (s:St) (F:Nat->Prop) (M:Nat) (o:KOp) (w:World) (ht:TabA w) (h:EH B w p s F) (hg:s.Good M) (hM:M+8 * o.zs.length<=100000000) (ho:o.Ok w) :
  Calls Tryz.prog 33 #[.pointer (some ⟨p,0,none⟩),.agg #[.int .i64 o.kind,.int .i64 o.a,.int .i64 o.b,o.t]] w (KPost B p s F (M+64 * o.zs.length) w):=by
 have hp:=Vm.pick_bd o.kind 7 (by decide)
 have up:∀e w',KPost B p s F M w e w'->KPost B p s F (M+64 * o.zs.length) w e w':=fun e w' ⟨c,s',F',h1,h2,h3,h4,h5⟩=>⟨c,s',F',h1,h2,h3,h4.mono (by omega),h5⟩
 by_cases k0:Vm.pick o.kind 7=0
 ·exact (kchange_mrk B p s F M o w ht h hg (by omega) ho k0).mono up
 by_cases k1:Vm.pick o.kind 7=1
 ·exact (kchange_eds B p s F M o w ht h hg (by omega) ho k1).mono up
 by_cases k2:Vm.pick o.kind 7=2
 ·exact (kchange_cod B p s F M o w ht h hg (by omega) ho k2).mono up
 exact kchange_rpl B p s F M o w ht h hg hM ho (by omega)
end Go.Proofs.YtoejbngihecafaaGreatDoor
