import Derived.Test.YtoejbngihecafaaGreatDoorC26
import Derived.Test.YtoejbngihecafaaGreatDoorC1
import Derived.Test.YtoejbngihecafaaGreatDoorC0
set_option maxRecDepth 100000
set_option maxHeartbeats 2000000
open Go.Proofs.Tryz
namespace Go.Proofs.YtoejbngihecafaaGreatDoor
open Go.RowKit
variable {mode enc:Int} {all ws ws':List UInt8} {mark:Bool} {R R':List (Cn × ByteArray)} {v':Value} {w w' w8 wx:World} {L:Nat} {n':Nd}
theorem QjG (bs:List UInt8) (mode:Int):0<=hdEnc bs mode/\hdEnc bs mode<=3:=by
 unfold hdEnc;split
 ·exact Qco _ _ (by omega) (by omega) 3 (Z6 _)
 omega
theorem Said.bd (h:Said mode all enc mark R ws):0<=enc/\enc<=3:=by
 rw[h.enc_];exact QjG _ _
theorem Said.sizes (h:Said mode all enc mark R ws):(rowB R).length+ws.length<=all.length:=by
 have:=congrArg List.length h.bytes;simp only[List.length_append] at this;omega
theorem Inv.sizes {begun:Bool} {t:Option Nd} (h:Inv mode all begun enc mark t R ws):ws.length<=all.length:=by
 rcases h with ⟨_,_,_,h4⟩|⟨_,_,h3⟩
 ·rw[h4];exact Z6 _
 have:=h3.sizes;omega
theorem Ps.below {q B:Nat} {v:Value} {w00:World} (h:Ps q v w v' w') (hw:Wt w B v ws) (hq0:w00.heap.size<=q) (hB0:w00.heap.size<=B) (hb0:Below w00.heap.size w00 w):Below w00.heap.size w00 w' :=
 hb0.trans ⟨h.os,h.tape,h.output,h.size,fun k hk=>h.keep k (Nat.lt_of_lt_of_le hk hb0.size) (by omega) (fun e=>by have:=(hw.blk_lt e).2;omega)⟩
theorem Qmi (B q:Nat) (mode enc:Int) (begun mark:Bool) (t:Option Nd) (R:List (Cn × ByteArray)) (v:Value) (ws all:List UInt8) (w00 w:World) (ht:Tabs w00) (hq0:w00.heap.size<=q) (hb0:Below w00.heap.size w00 w) (h:LdS B q mode begun enc mark t R v ws w) (hi:Inv mode all begun enc mark t R ws) (hl:all.length<=1099511627776) (h0:0<=mode) (h7:mode<=7) :
  Calls prog 80 #[.pointer (some ⟨q,0,none⟩)] w fun e w'=>∃enc' mark' t' R' v' ws',e=.returned (.tuple #[])/\LdS B q mode true enc' mark' t' R' v' ws' w'/\Said mode all enc' mark' R' ws'/\Ps q v w v' w':=by
 have hws:=hi.sizes
 rcases hi with ⟨rfl,rfl,rfl,rfl⟩|⟨rfl,ha,hs⟩
 ·refine (QhW B q mode enc mark none ⟨#[]⟩ v ws w00 w ht hq0 hb0 h.ld h.wt h.nq (by omega) h0 h7).mono ?_;rintro e w' ⟨v',rfl,hld,hwt,hwb,htn⟩;exact⟨_,_,none,[],v',_,rfl,⟨hld,hwt,by rw[hwb];exact h.nq,⟨fun n hn=>(by cases hn),fun _=>rfl,fun x hx=>(by cases hx)⟩⟩,Qgc mode ws,Ps.of_tn htn hwb⟩
 refine (Qgo q mode enc mark (trv t) ⟨#[]⟩ v w h.ld).mono ?_
 rintro e w' ⟨rfl,rfl⟩
 exact⟨_,_,t,R,v,ws,rfl,h,hs,Ps.refl _ _ _⟩
theorem Qho (B q:Nat) (mode enc:Int) (begun mark:Bool) (t:Option Nd) (R:List (Cn × ByteArray)) (v:Value) (ws:List UInt8) (w:World) (h:LdS B q mode begun enc mark t R v ws w) (h3:ws.length<3) :
  Calls prog 74 #[.pointer (some ⟨q,0,none⟩)] w fun e w'=>e=.returned (.tuple #[])/\w'=w:=by
 obtain⟨p,cap,rfl,hcap⟩:=h.wt.val
 have c6:=h.ld.c6
 have hz:=Z3 c6
 have h3I:(ws.length:Int)<3:=by omega
 clear h
 go_enter func74,ntmps74
 go_wp2_with fail
 refine wp_loop_rounds 1 ?_
 rw[rounds_succ]
 go_wp2_with fail
 go_returns
 exact⟨rfl,rfl⟩
structure StI (B q:Nat) (mode enc:Int) (mark:Bool) (t:Option Nd) (R:List (Cn × ByteArray)) (v:Value) (ws:List UInt8) (wr:World) (L Bk:Nat) (A0:List Vm.At) (wx:World):Prop where
 ls:LdS B q mode true enc mark t R v ws wx
 cell:wx.cell? ⟨L,0,none⟩=some (.iface 184 (.pointer (some ⟨Bk,0,none⟩)))
 pre:A0 <+: Vm.atoms enc (ws.take 1004)
 sz:Vm.sizeA A0<=1000
 pos:1<=Vm.sizeA A0
 tr:TrAt wx enc (some (Nd.leaf Bk (cnOf A0) ((⟨(ws.take 1004).toArray⟩:ByteArray).extract 0 (Vm.sizeA A0)))) [(cnOf A0,(⟨(ws.take 1004).toArray⟩:ByteArray).extract 0 (Vm.sizeA A0))]
 low:Below wr.heap.size wr wx
 le:wr.heap.size<=L
section
variable {B q:Nat} {mode enc:Int} {mark:Bool} {t:Option Nd} {R:List (Cn × ByteArray)} {v:Value} {ws:List UInt8} {wr w5:World} {Bk:Nat} {A0:List Vm.At}
theorem StI.last (h:LdS B q mode true enc mark t R v ws wr) (hlt:1004<=ws.length) (hb:Below wr.heap.size wr w5) (hpre:A0 <+: Vm.atoms enc (⟨(ws.take 1004).toArray⟩:ByteArray).data.toList) (hsz:Vm.sizeA A0<=1000) (hor:A0=Vm.atoms enc (⟨(ws.take 1004).toArray⟩:ByteArray).data.toList\/∃x,A0++[x] <+: Vm.atoms enc (⟨(ws.take 1004).toArray⟩:ByteArray).data.toList/\1000<Vm.sizeA (A0++[x]))
  (hin:(Nd.leaf Bk (cnOf A0) ((⟨(ws.take 1004).toArray⟩:ByteArray).extract 0 (Vm.sizeA A0))).In w5):StI B q mode enc mark t R v ws wr w5.heap.size Bk A0 (w5.alloc (.cells #[.iface 184 (.pointer (some ⟨Bk,0,none⟩))] 89)):=by
 have hwl:(⟨(ws.take 1004).toArray⟩:ByteArray).data.toList=ws.take 1004:=by simp
 have hba:=Z7 w5 (.cells #[.iface 184 (.pointer (some ⟨Bk,0,none⟩))] 89)
 have hb2:=hb.trans (hba.mono hb.size)
 have htr:=(QeI hpre hin).1.low hba
 rw[hwl] at hpre hor
 exact⟨h.low hb2,by rw[Lib.cell_of_heap (heap_alloc_new w5 _)];rfl,hpre,hsz,Vm.QhD (by rw[List.length_take];omega) hor,htr,hb2,hb.size⟩
theorem StI.first (h:LdS B q mode true enc mark t R v ws wr) (hlt:1004<=ws.length) (hb:Below wr.heap.size wr w5) (hpre:A0 <+: Vm.atoms enc (⟨(ws.take 1004).toArray⟩:ByteArray).data.toList) (hsz:Vm.sizeA A0<=1000) (hor:A0=Vm.atoms enc (⟨(ws.take 1004).toArray⟩:ByteArray).data.toList\/∃x,A0++[x] <+: Vm.atoms enc (⟨(ws.take 1004).toArray⟩:ByteArray).data.toList/\1000<Vm.sizeA (A0++[x]))
  (hin:(Nd.leaf Bk (cnOf A0) ((⟨(ws.take 1004).toArray⟩:ByteArray).extract 0 (Vm.sizeA A0))).In w5) (cz:w5.cell? ⟨wr.heap.size,0,none⟩=some .nilIface) (hb5:Below (wr.alloc (.cells #[.nilIface] 89)).drew.heap.size (wr.alloc (.cells #[.nilIface] 89)).drew w5):StI B q mode enc mark t R v ws wr wr.heap.size Bk A0 (w5.setCell ⟨wr.heap.size,0,none⟩ (.iface 184 (.pointer (some ⟨Bk,0,none⟩)))):=by
 have hwl:(⟨(ws.take 1004).toArray⟩:ByteArray).data.toList=ws.take 1004:=by simp
 have hb2:=hb.setCell (p:=⟨wr.heap.size,0,none⟩) (Z6 _) (.iface 184 (.pointer (some ⟨Bk,0,none⟩)))
 have hty:tyAt w5 wr.heap.size=some 89:=by
  rw[QdD (w:=(wr.alloc (.cells #[.nilIface] 89)).drew) (by simp) hb5];show tyAt (wr.alloc (.cells #[.nilIface] 89)) wr.heap.size=_;unfold tyAt;rw[heap_alloc_new wr _]
 have hnn:NoNd w5 wr.heap.size:=by unfold NoNd;rw[hty];exact⟨by decide,by decide⟩
 have htr:=(QeI hpre hin).1.tn2 hnn ((Tn.refl _ _).setCell (j:=0) (.iface 184 (.pointer (some ⟨Bk,0,none⟩))))
 rw[hwl] at hpre hor
 exact⟨h.low hb2,Qbb _ _ 0 _ _ cz,hpre,hsz,Vm.QhD (by rw[List.length_take];omega) hor,htr,hb2,Z6 _⟩
theorem StI.step (h:StI B q mode enc mark t R v ws wr L Bk A0 w) (hb:Below w.heap.size w w'):StI B q mode enc mark t R v ws wr L Bk A0 w' :=
 ⟨h.ls.low hb,(hb.cell (p:=⟨L,0,none⟩) (Z3 h.cell)).trans h.cell,h.pre,h.sz,h.pos,h.tr.low hb,h.low.trans (hb.mono h.low.size),h.le⟩
structure StJ (B q:Nat) (mode enc:Int) (mark:Bool) (R:List (Cn × ByteArray)) (v:Value) (ws:List UInt8) (wr:World) (L Bk:Nat) (A0:List Vm.At) (n':Nd) (R':List (Cn × ByteArray)) (wx:World):Prop where
 ls:LdS B q mode true enc mark (some n') R' v ws wx
 cell:wx.cell? ⟨L,0,none⟩=some (.iface 184 (.pointer (some ⟨Bk,0,none⟩)))
 tr:TrAt wx enc (some (Nd.leaf Bk (cnOf A0) ((⟨(ws.take 1004).toArray⟩:ByteArray).extract 0 (Vm.sizeA A0)))) [(cnOf A0,(⟨(ws.take 1004).toArray⟩:ByteArray).extract 0 (Vm.sizeA A0))]
 ea:rowA enc R'=rowA enc R++A0
 eb:rowB R'=rowB R++ws.take (Vm.sizeA A0)
 el:R'.length<=R.length+1
 eg:Gd R->Gd R'
 ps:Ps q v wr v wx
 sz:Vm.sizeA A0<=1000
 pre:A0 <+: Vm.atoms enc (ws.take 1004)
theorem StI.rows (h:StI B q mode enc mark t R v ws wr L Bk A0 w):rowB [(cnOf A0,(⟨(ws.take 1004).toArray⟩:ByteArray).extract 0 (Vm.sizeA A0))]=ws.take (Vm.sizeA A0)/\rowA enc [(cnOf A0,(⟨(ws.take 1004).toArray⟩:ByteArray).extract 0 (Vm.sizeA A0))]=A0:=by
 have hwl:(⟨(ws.take 1004).toArray⟩:ByteArray).data.toList=ws.take 1004:=by simp
 have hp:=h.pre;rw[<-hwl] at hp;obtain⟨_,h2,h3⟩:=QeI hp (h.tr.inn _ rfl).1;refine⟨?_,h3⟩;rw[h2,hwl,List.take_take,Nat.min_eq_left (by have:=h.sz;omega)]
theorem StI.joined (h:StI B q mode enc mark t R v ws wr L Bk A0 w) (hq:q<wr.heap.size) (htr:TrAt w enc (some n') R') (hat:rowA enc R'=rowA enc R++rowA enc [(cnOf A0,(⟨(ws.take 1004).toArray⟩:ByteArray).extract 0 (Vm.sizeA A0))]) (hby:rowB R'=rowB R++rowB [(cnOf A0,(⟨(ws.take 1004).toArray⟩:ByteArray).extract 0 (Vm.sizeA A0))]) (hlen:R'.length<=R.length+[(cnOf A0,(⟨(ws.take 1004).toArray⟩:ByteArray).extract 0 (Vm.sizeA A0))].length) (hgd:Gd R->Gd [(cnOf A0,(⟨(ws.take 1004).toArray⟩:ByteArray).extract 0 (Vm.sizeA A0))]->Gd R') :
  StJ B q mode enc mark R v ws wr L Bk A0 n' R' (w.setCell ⟨q,4,none⟩ (.iface n'.ty (.pointer (some ⟨n'.blk,0,none⟩)))):=by
 have t1:Tn q w (w.setCell ⟨q,4,none⟩ (trv (some n'))):=(Tn.refl _ _).setCell _
 have hL:L≠q:=by have:=h.le;omega
 refine⟨h.ls.root (some n') R' htr,?_,h.tr.tn2 h.ls.ld.nb t1,by rw[hat,h.rows.2],by rw[hby,h.rows.1],hlen,fun h=>hgd h (Gd.one _),((Ps.of_low (q:=q) (v:=v) h.low rfl).trans (Ps.of_tn t1 rfl)),h.sz,h.pre⟩
 exact (World.cell?_of_block (w:=w) (t1.keep L (Z3 h.cell) hL)).trans h.cell
theorem StJ.step (h:StJ B q mode enc mark R v ws wr L Bk A0 n' R' w) (hb:Below w.heap.size w w'):StJ B q mode enc mark R v ws wr L Bk A0 n' R' w' :=
 ⟨h.ls.low hb,(hb.cell (p:=⟨L,0,none⟩) (Z3 h.cell)).trans h.cell,h.tr.low hb,h.ea,h.eb,h.el,h.eg,h.ps.trans (Ps.of_low hb rfl),h.sz,h.pre⟩
theorem StJ.le (h:StJ B q mode enc mark R v ws wr L Bk A0 n' R' w) (hlt:1004<=ws.length):Vm.sizeA A0<=ws.length:=by have:=h.sz;omega
theorem StJ.counts (h:StJ B q mode enc mark R v ws wr L Bk A0 n' R' w) :
  Calls prog 55 #[.agg #[.iface 184 (.pointer (some ⟨Bk,0,none⟩))]] w fun e w'=>e=.returned (cnOf A0).val/\Below w.heap.size w w':=by
 have hwl:(⟨(ws.take 1004).toArray⟩:ByteArray).data.toList=ws.take 1004:=by simp
 have hp:=h.pre
 rw[<-hwl] at hp
 have h1:=h.tr.counts
 rw[(QeI hp (h.tr.inn _ rfl).1).2.2] at h1
 exact h1
structure StK (B q:Nat) (mode enc:Int) (mark:Bool) (v:Value) (ws:List UInt8) (wr:World) (n':Nd) (R':List (Cn × ByteArray)) (v':Value) (ws':List UInt8) (w8 wx:World):Prop where
 ls:LdS B q mode true enc mark (some n') R' v ws w8
 ps:Ps q v wr v w8
 wt:Wt wx B v' ws'
 st:WtStep v w8 wx
theorem StK.cells (h:StK B q mode enc mark v ws wr n' R' v' ws' w8 wx):LdC wx q mode true enc mark (trv (some n')) ⟨#[]⟩ v:=h.ls.ld.wtstep h.st h.ls.nq
theorem StK.done (h:StK B q mode enc mark v ws wr n' R' v' ws' w8 wx) (hv:wblk v'=wblk v):LdS B q mode true enc mark (some n') R' v' ws' (wx.setCell ⟨q,6,none⟩ v')/\Ps q v wr v' (wx.setCell ⟨q,6,none⟩ v'):=by
 refine⟨h.ls.wait v' ws' h.wt h.st (.inl hv),h.ps.trans ((Ps.of_wt h.st (.inl rfl)).trans (Ps.of_tn ?_ hv))⟩;exact (Tn.refl _ _).setCell _
end
theorem Qkf (p:Option Addr) (n cap n' cap':Nat):wblk (.slice p n cap)=wblk (.slice p n' cap'):=by cases p<;>rfl
theorem Qkb (B q:Nat) (mode enc:Int) (begun mark:Bool) (t:Option Nd) (R:List (Cn × ByteArray)) (v:Value) (ws all:List UInt8) (w00 w:World) (ht:Tabs w00) (hq0:w00.heap.size<=q) (hB0:w00.heap.size<=B) (hb0:Below w00.heap.size w00 w) (h:LdS B q mode begun enc mark t R v ws w) (hi:Inv mode all begun enc mark t R ws) (hl:all.length<=1099511627776) (h0:0<=mode) (h7:mode<=7) :
  Calls prog 74 #[.pointer (some ⟨q,0,none⟩)] w fun e w'=>∃begun' enc' mark' t' R' v' ws',e=.returned (.tuple #[])/\LdS B q mode begun' enc' mark' t' R' v' ws' w'/\Inv mode all begun' enc' mark' t' R' ws'/\Ps q v w v' w':=by
 by_cases h3:ws.length<3
 ·refine (Qho B q mode enc begun mark t R v ws w h h3).mono ?_;rintro e w' ⟨rfl,rfl⟩;exact⟨_,_,_,t,R,v,ws,rfl,h,hi,Ps.refl _ _ _⟩
 have HBG:=Z1 (Qmi B q mode enc begun mark t R v ws all w00 w ht hq0 hb0 h hi hl h0 h7)
 have ha3:3<=all.length:=by have:=hi.sizes;omega
 have hP:=fun v' w' (hp:Ps q v w v' w')=>hp.below h.wt hq0 hB0 hb0
 have HP:=Z1 hP
 have HT:=Z1 ht
 obtain⟨p,cap,rfl,hcap⟩:=h.wt.val
 have c6:=h.ld.c6
 have hz:=Z3 c6
 have h3I:¬(ws.length:Int)<3:=by omega
 clear h hi ht hb0 hP
 go_enter func74,ntmps74
 go_wp2_with fail
 refine HBG.o.mono ?_
 rintro e w1 ⟨enc1,mark1,t1,R1,v1,ws1,rfl,hL1,hS1,hP1⟩
 have bd:=hS1.bd
 clear c6 hz
 go_wp2_with fail
 go_loopg [] ws1.length (fun k wx=>∃t2 R2 v2 ws2,k=ws2.length/\LdS B q mode true enc1 mark1 t2 R2 v2 ws2 wx/\Said mode all enc1 mark1 R2 ws2/\Ps q (.slice p ws.length cap) w v2 wx)
 case atStart=>exact⟨t1,R1,v1,ws1,rfl,hL1,hS1,hP1⟩
 case round =>
  clear hL1 hS1 hP1 HBG;obtain⟨t2,R2,v2,ws2,rfl,hL2,hS2,hP2⟩:=hrel;obtain⟨p2,cap2,rfl,hcap2⟩:=hL2.wt.val;have hsz:=hS2.sizes;have hrl:=hS2.len;have c2:=hL2.ld.c2;have c6:=hL2.ld.c6;have hz:=Z3 c2;by_cases hlt:1004<=ws2.length
  ·have hltI:(1004:Int)<=(ws2.length:Int):=by omega
   have hpre:∀W,(Instr.slice 92 (.slice p2 ws2.length cap2) none (some (.int .i64 1004)) none).run prog W=.ok (.slice p2 1004 cap2) W:=fun W=>Qlb hL2.wt 1004 hlt W;have hcp:(1004:Int)<=(cap2:Int):=by omega
   have hcp':1004<=cap2:=by omega
   have hcv:=QeC hL2.wt 1004 hlt;have HQ0:=Z1 (show q<wr.heap.size from Z3 hL2.ld.c0);have HRW:=Z1 (fun k (hk:wblk (.slice p2 ws2.length cap2)=some k)=>(hL2.wt.blk_lt hk).1)
   have H2:=Z1 hL2;have S2:=Z1 hS2;have P2:=Z1 hP2;have T2:=Z1 (HT.o.below (HP.o _ _ hP2));clear hL2 hS2 hP2;have hcd:=QeC (H2.o.low ((Below.refl _ _).drew)).wt 1004 hlt;have hca:=QeC (H2.o.low (((Below.refl _ _).alloc (Z6 _) (.cells #[.nilIface] 89)).drew)).wt 1004 hlt;have HLF:=Z1 (fun W (h:Tabs W)=>Qhg enc1 ⟨(ws2.take 1004).toArray⟩ 1000 W h (by simp [ByteArray.size];omega) (by decide) bd.1 bd.2);go_wp2_with fail;go_cut [2] from 18 to 29 (fun s2 wx=>∃L Bk A0,s2=.pointer (some ⟨L,0,none⟩)/\StI B q mode enc1 mark1 t2 R2 (.slice p2 ws2.length cap2) ws2 wr L Bk A0 wx)
   case first =>
    have hwz:(wr.alloc (.cells #[.nilIface] 89)).drew.cell? ⟨wr.heap.size,0,none⟩=some .nilIface:=by show (wr.alloc (.cells #[.nilIface] 89)).cell? ⟨wr.heap.size,0,none⟩=_;rw[Lib.cell_of_heap (heap_alloc_new wr _)];rfl
    have hwf:(wr.alloc (.cells #[.nilIface] 89)).drew.frozen? ⟨wr.heap.size,0,none⟩=false:=Lib.frozen_of_heap (heap_alloc_new wr _) 0;have HSS:=Z1 (fun X (hX:Below wr.heap.size wr X)=>(⟨(H2.o.low hX).ld.c2,(H2.o.low hX).ld.c6,QeC (H2.o.low hX).wt 1004 hlt⟩:X.cell? ⟨q,2,none⟩=some (.int .i64 enc1)/\X.cell? ⟨q,6,none⟩=some (.slice p2 ws2.length cap2)/\(convert 92 9 (.slice p2 1004 cap2)).run prog X=.ok (.string ⟨(ws2.take 1004).toArray⟩) X));have hSd:=HSS.o _ ((Below.refl _ _).drew);have hSa:=HSS.o _ (((Below.refl _ _).alloc (Z6 _) (.cells #[.nilIface] 89)).drew)
    go_region_held3 (fun w'=>w'.cell? ⟨q,2,none⟩=some (.int .i64 enc1)/\w'.cell? ⟨q,6,none⟩=some (.slice p2 ws2.length cap2)/\(convert 92 9 (.slice p2 1004 cap2)).run prog w'=.ok (.string ⟨(ws2.take 1004).toArray⟩) w')
     (first|assumption|exact HSS.o _ (hb15.alloc hb15.size _)|exact HSS.o _ (hb15.setCell (Z6 _) _))
     (first|(go_at_call 81;refine (HLF.o _ (by first|exact T2.o.below ((Below.refl _ _).drew)|exact T2.o.below ((Z7 _ _).drew))).mono ?_;rintro e w5 ⟨Bk,A0,rfl,hpre5,hsz5,hor5,hin5,hb5⟩;have hb15:Below wr.heap.size wr w5:=(by first|exact ((Below.refl _ _).drew).trans hb5|exact (Z7 _ _).drew.trans (hb5.mono (by simp)));have hS5:=HSS.o _ hb15;try have cz:w5.cell? ⟨wr.heap.size,0,none⟩=some .nilIface:=(hb5.cell (p:=⟨wr.heap.size,0,none⟩) (by simp)).trans hwz;try have fz:w5.frozen? ⟨wr.heap.size,0,none⟩=false:=(hb5.frozen (p:=⟨wr.heap.size,0,none⟩) (by simp)).trans hwf;try have zz:wr.heap.size<w5.heap.size:=Nat.lt_of_lt_of_le (by simp) hb5.size))
    ·go_wp2_with fail;go_meet;exact⟨_,Bk,A0,rfl,StI.last H2.o hlt hb15 hpre5 hsz5 hor5 hin5⟩
    go_wp2_with fail;go_meet;exact⟨_,Bk,A0,rfl,StI.first H2.o hlt hb15 hpre5 hsz5 hor5 hin5 cz hb5⟩
   case rest =>
    obtain⟨L,Bk,A0,rfl,hst⟩:=hcut;have I3:=Z1 hst;clear hst H2 T2 hpre hcv hcd hca HLF c2 c6 hz;have c4:=I3.o.ls.ld.c4;have cL:=I3.o.cell;have hz:=Z3 c4;have hzL:=Z3 cL;have HQ:=Z1 (show q<wr.heap.size from HQ0.o);have HJ:=Z1 (fun W (hb:Below wc.heap.size wc W)=>QbG enc1 t2 (some (Nd.leaf Bk (cnOf A0) ((⟨(ws2.take 1004).toArray⟩:ByteArray).extract 0 (Vm.sizeA A0)))) R2 [(cnOf A0,(⟨(ws2.take 1004).toArray⟩:ByteArray).extract 0 (Vm.sizeA A0))] W (I3.o.ls.tr.low hb) (I3.o.tr.low hb) (by rw[I3.o.rows.1,List.length_take];omega) (by simp;omega));go_wp2_with fail;go_cut [2] from 30 to 40 (fun s2 wx=>∃n' R',s2=.pointer (some ⟨L,0,none⟩)/\StJ B q mode enc1 mark1 R2 (.slice p2 ws2.length cap2) ws2 wr L Bk A0 n' R' wx)
    case first =>
     go_region_with (go_at_call 82;refine (HJ.o _ ((Below.refl _ _).drew)).mono ?_;rintro e w6 ⟨t',R',hJ⟩;obtain⟨n',rfl⟩:∃n',t'=some n':=Option.isSome_iff_exists.1 (hJ.som rfl);obtain⟨rfl,htr6,hat6,hby6,hlen6,hb6,_,hgd6⟩:=hJ;simp only[QbF];have I6:=Z1 (I3.o.step (((Below.refl _ _).drew).trans hb6));have d4:=I6.o.ls.ld.c4;have e4:=I6.o.ls.ld.fr 4;have z6:=Z3 d4)
     all_goals
      go_wp2_with fail;go_meet;exact⟨n',R',rfl,I6.o.joined HQ.o htr6 hat6 hby6 hlen6 hgd6⟩
    case rest =>
     obtain⟨n',R',rfl,hst⟩:=hcut;have hpos:=I3.o.pos;have hLR:wblk (.slice p2 ws2.length cap2)≠some L:=fun e=>by have h1:=HRW.o _ e;have h2:=I3.o.le;omega
     rename World=>w7
     have I7:=Z1 hst;clear hst I3 HJ c4 cL hz hzL;have hkl:=I7.o.le hlt;generalize hk:Vm.sizeA A0=k at hkl hpos;have HK:=Z1 hk;obtain⟨p',hsl,hwt',hwb⟩:=Qh4 I7.o.ls.wt k hkl;have hpr2:=fun W=>Qlb I7.o.ls.wt (ws2.length - k) (by omega) W;have HSS:=Z1 (fun X (hX:Below w7.heap.size w7 X)=>(⟨(I7.o.step hX).ls.ld.c6,(I7.o.step hX).cell⟩:X.cell? ⟨q,6,none⟩=some (.slice p2 ws2.length cap2)/\X.cell? ⟨L,0,none⟩=some (.iface 184 (.pointer (some ⟨Bk,0,none⟩)))));have hS0:=HSS.o _ (Below.refl _ _);have hSd:=HSS.o _ ((Below.refl _ _).drew);have HW7:=Z1 hwt';have HC:=Z1 (fun W (hb:Below w7.heap.size w7 W)=>(I7.o.step hb).counts);simp only[cnOf,Cn.val,hk] at HC;have fb:=QaA;clear hk hwb hwt';obtain⟨c6,cL⟩:=id hS0;have hz:=Z3 c6;have hzL:=Z3 cL;go_wp2_with fail;go_cut [3] from 41 to 53 (fun s3 wx=>∃w8,s3=.int .i64 ((ws2.length - k:Nat):Int)/\StK B q mode enc1 mark1 (.slice p2 ws2.length cap2) ws2 wr n' R' (.slice p2 (ws2.length - k) cap2) (ws2.drop k) w8 wx)
     case first =>
      go_region_held3 (fun w'=>w'.cell? ⟨q,6,none⟩=some (.slice p2 ws2.length cap2)/\w'.cell? ⟨L,0,none⟩=some (.iface 184 (.pointer (some ⟨Bk,0,none⟩))))
       (first|assumption)
       (first|(go_at_call 55;refine (HC.o _ ((Below.refl _ _).drew)).mono ?_;rintro e w8 ⟨rfl,hb8⟩;have hb18:Below w7.heap.size w7 w8:=((Below.refl _ _).drew).trans hb8;have hS8:=HSS.o _ hb18;have I8:=Z1 (I7.o.step hb18);obtain⟨w9,hcr,hwt9,hst9⟩:=Qop 3 I8.o.ls.wt k hkl (HW7.o.low hb18) (by omega);have hS9:w9.cell? ⟨q,6,none⟩=some (.slice p2 ws2.length cap2)/\w9.cell? ⟨L,0,none⟩=some (.iface 184 (.pointer (some ⟨Bk,0,none⟩))):=⟨(I8.o.ls.ld.wtstep hst9 I8.o.ls.nq).c6,(World.cell?_of_block (w:=w8) (hst9.keep L (Z3 I8.o.cell) hLR)).trans I8.o.cell⟩))
      all_goals
       go_wp2_with fail;go_meet;exact⟨w8,rfl,I8.o.ls,I8.o.ps,hwt9,hst9⟩
     case rest =>
      obtain⟨w8,rfl,hst⟩:=hcut;have d6:=hst.cells.c6;have e6:=hst.cells.fr 6;have hz9:=Z3 d6;have J9:=Z1 (hst.done (Qkf _ _ _ _ _));have JS:=Z1 (S2.o.leaf rfl hlt I7.o.pre I7.o.sz (by rw[HK.o];exact hpos) I7.o.eb I7.o.ea I7.o.el I7.o.eg);clear hst HC HSS hS0 hSd HW7 hsl c6 cL hz hzL fb;go_wp2_with fail;go_roundg (ws2.length - k)
      case measure=>omega
      case rel =>
       have hpp:=P2.o.trans J9.o.2;have hs:=JS.o;rw[HK.o] at hs;exact⟨some n',R',_,ws2.drop k,by rw[List.length_drop],J9.o.1,hs,hpp⟩
  have hltI:(ws2.length:Int)<1004:=by omega
  go_wp2_with fail;go_returns;exact⟨_,_,_,t2,R2,_,ws2,rfl,hL2,.inr ⟨rfl,ha3,hS2⟩,hP2⟩
end Go.Proofs.YtoejbngihecafaaGreatDoor
