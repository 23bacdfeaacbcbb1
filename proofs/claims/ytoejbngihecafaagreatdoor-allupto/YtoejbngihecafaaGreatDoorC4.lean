import Derived.Deep.CutRange
import Derived.BigQuiet
import Derived.Test.YtoejbngihecafaaGreatDoorC3
import Derived.Test.YtoejbngihecafaaGreatDoorC0
set_option maxRecDepth 100000
set_option maxHeartbeats 4000000
open Go.Proofs.Tryz
namespace Vm
def pick (c n:Int):Int:=(if c<0 then -(c+1) else c)%n
theorem QbY (c n:Int) (h:0<n):0<=pick c n/\pick c n<n:=⟨Int.emod_nonneg _ (by omega),Int.emod_lt_of_pos _ h⟩
end Vm
namespace Go.Proofs.YtoejbngihecafaaGreatDoor
open Go.RowKit
variable {w1 w2 w w':World} {B i C:Nat} {u v v0 v1 v2 v3 v4:Value} {P:Program}
theorem Qmx (c n:Int) (h:0<=c):c.tmod n=c%n:=Int.tmod_eq_emod_of_nonneg h
theorem Qej (h:Below w1.heap.size w1 w2) (v0 v1 v2 v3 v4 v5 v6 v7 v8:Value) :
  Below w1.heap.size w1 (((((((((w2.setCell ⟨w1.heap.size,0,none⟩ v0).setCell ⟨w1.heap.size,1,none⟩ v1).setCell ⟨w1.heap.size,2,none⟩ v2).setCell ⟨w1.heap.size,3,none⟩ v3).setCell ⟨w1.heap.size,4,none⟩ v4).setCell ⟨w1.heap.size,5,none⟩ v5).setCell ⟨w1.heap.size,6,none⟩ v6).setCell ⟨w1.heap.size,7,none⟩ v7).setCell ⟨w1.heap.size,8,none⟩ v8) :=
 ((((((((h.setCell (p:=⟨w1.heap.size,0,none⟩) (Z6 _) _).setCell (p:=⟨w1.heap.size,1,none⟩) (Z6 _) _).setCell (p:=⟨w1.heap.size,2,none⟩) (Z6 _) _).setCell (p:=⟨w1.heap.size,3,none⟩) (Z6 _) _).setCell (p:=⟨w1.heap.size,4,none⟩) (Z6 _) _).setCell (p:=⟨w1.heap.size,5,none⟩) (Z6 _) _).setCell (p:=⟨w1.heap.size,6,none⟩) (Z6 _) _).setCell (p:=⟨w1.heap.size,7,none⟩) (Z6 _) _).setCell (p:=⟨w1.heap.size,8,none⟩) (Z6 _) _
theorem keepA (d0:w1.cell? ⟨B,0,none⟩=some u) (d1:w1.cell? ⟨B,1,none⟩=some v) (hb:Below w1.drew.heap.size w1.drew w2) (o:Obj):(w2.alloc o).cell? ⟨B,0,none⟩=some u/\(w2.alloc o).cell? ⟨B,1,none⟩=some v:=by
 have hb':Below w1.heap.size w1 w2:=⟨hb.os,hb.tape,hb.output,hb.size,hb.block⟩;exact QeZ ⟨d0,d1⟩ (hb'.alloc hb'.size o)
theorem keepB {Z:Obj} (d0:w1.cell? ⟨B,0,none⟩=some u) (d1:w1.cell? ⟨B,1,none⟩=some v) (hb:Below (w1.drew.alloc Z).heap.size (w1.drew.alloc Z) w2) (v0 v1 v2 v3 v4 v5 v6 v7 v8:Value) :
  (((((((((w2.setCell ⟨w1.heap.size,0,none⟩ v0).setCell ⟨w1.heap.size,1,none⟩ v1).setCell ⟨w1.heap.size,2,none⟩ v2).setCell ⟨w1.heap.size,3,none⟩ v3).setCell ⟨w1.heap.size,4,none⟩ v4).setCell ⟨w1.heap.size,5,none⟩ v5).setCell ⟨w1.heap.size,6,none⟩ v6).setCell ⟨w1.heap.size,7,none⟩ v7).setCell ⟨w1.heap.size,8,none⟩ v8).cell? ⟨B,0,none⟩=some u /\
  (((((((((w2.setCell ⟨w1.heap.size,0,none⟩ v0).setCell ⟨w1.heap.size,1,none⟩ v1).setCell ⟨w1.heap.size,2,none⟩ v2).setCell ⟨w1.heap.size,3,none⟩ v3).setCell ⟨w1.heap.size,4,none⟩ v4).setCell ⟨w1.heap.size,5,none⟩ v5).setCell ⟨w1.heap.size,6,none⟩ v6).setCell ⟨w1.heap.size,7,none⟩ v7).setCell ⟨w1.heap.size,8,none⟩ v8).cell? ⟨B,1,none⟩=some v:=by
 have hb0:Below w1.heap.size w1 (w1.drew.alloc Z):=((Below.refl _ _).drew).alloc (Z6 _) _
 have hb':Below w1.heap.size w1 w2:=hb0.trans (hb.mono hb0.size)
 exact QeZ ⟨d0,d1⟩ (Qej hb' v0 v1 v2 v3 v4 v5 v6 v7 v8)
theorem QmI {j:Nat} (h:w.cell? ⟨B,i,none⟩=some u/\w.cell? ⟨C,j,none⟩=some v0/\w.cell? ⟨C,j+1,none⟩=some v1/\w.cell? ⟨C,j+2,none⟩=some v2/\w.cell? ⟨C,j+3,none⟩=some v3/\w.cell? ⟨C,j+4,none⟩=some v4) (hb:Below w.heap.size w w') :
  w'.cell? ⟨B,i,none⟩=some u/\w'.cell? ⟨C,j,none⟩=some v0/\w'.cell? ⟨C,j+1,none⟩=some v1/\w'.cell? ⟨C,j+2,none⟩=some v2/\w'.cell? ⟨C,j+3,none⟩=some v3/\w'.cell? ⟨C,j+4,none⟩=some v4:=by
 have g:∀b o v,w.cell? ⟨b,o,none⟩=some v->w'.cell? ⟨b,o,none⟩=some v:=fun b o v h=>(hb.cell (p:=⟨b,o,none⟩) (Z3 h)).trans h
 exact⟨g _ _ _ h.1,g _ _ _ h.2.1,g _ _ _ h.2.2.1,g _ _ _ h.2.2.2.1,g _ _ _ h.2.2.2.2.1,g _ _ _ h.2.2.2.2.2⟩
theorem Qa5 (hb:Below w.drew.heap.size w.drew w'):Below w.heap.size w w':=⟨hb.os,hb.tape,hb.output,hb.size,hb.block⟩
theorem Bx9.other {v5 v6 v7 v8:Value} (h:Bx9 w B v0 v1 v2 v3 v4 v5 v6 v7 v8) (hne:¬B=C):Bx9 (w.setCell ⟨C,i,none⟩ u) B v0 v1 v2 v3 v4 v5 v6 v7 v8:=by
 have g:∀o,(w.setCell ⟨C,i,none⟩ u).cell? ⟨B,o,none⟩=w.cell? ⟨B,o,none⟩:=fun o=>World.cell?_setCell_other _ _ _ _ (by intro e;injection e with e1 e2;exact hne e1.symm);exact⟨(g _).trans h.c0,(g _).trans h.c1,(g _).trans h.c2,(g _).trans h.c3,(g _).trans h.c4,(g _).trans h.c5,(g _).trans h.c6,(g _).trans h.c7,(g _).trans h.c8,fun j=>by rw[World.frozen?_setCell];exact h.f j⟩
theorem Qjb {W:World} (h:Below w1.heap.size w1 W) (v0 v1 v2 v3 v4 v5 v6 v7 v8:Value) :
 Below w1.heap.size w1 (((((((((W.setCell ⟨w1.heap.size,0,none⟩ v0).setCell ⟨w1.heap.size,1,none⟩ v1).setCell ⟨w1.heap.size,2,none⟩ v2).setCell ⟨w1.heap.size,3,none⟩ v3).setCell ⟨w1.heap.size,4,none⟩ v4).setCell ⟨w1.heap.size,5,none⟩ v5).setCell ⟨w1.heap.size,6,none⟩ v6).setCell ⟨w1.heap.size,7,none⟩ v7).setCell ⟨w1.heap.size,8,none⟩ v8):=Qej h v0 v1 v2 v3 v4 v5 v6 v7 v8
theorem QhM (B:Nat) (enc:Int) (mark:Bool) (body:ByteArray) (w:World) (hd:RDoc w B enc mark body) (hs:body.size<=1099511627776) (h0:0<=enc) (h3:enc<=3) :
  Calls prog 46 #[.pointer (some ⟨B,0,none⟩)] w fun e w'=>(∀A,A=Vm.atoms enc body.data.toList->e=.returned (.agg #[.int .i64 enc,.bool mark,.int .i64 (Vm.bytesA A),.int .i64 A.length,.int .i64 (Vm.unitsA A),.int .i64 ((Vm.linesA A:Int)+1),.int .i64 (Vm.cntK A 4),.bool (decide (Vm.sizeA A<body.size)),.int .i64 (Vm.endingOf (Vm.cntK A 0) (Vm.cntK A 1) (Vm.cntK A 2))]))/\Below w.heap.size w w':=by
 have hok:=Vm.Qao enc body.data.toList
 obtain⟨A,hA⟩:∃A,A=Vm.atoms enc body.data.toList:=⟨_,rfl⟩
 have HA:=Z2 hA
 have hca:=Qbk B enc mark body
 rw[<-hA] at hok hca
 have HC:=Z2 hca
 clear hca hA
 have HD:=Z2 hd
 clear hd
 go_enter func46,ntmps46
 go_wp2_with fail
 have be0:Below w.heap.size w (w.alloc (.cells #[.int .i64 0,.bool false,.int .i64 0,.int .i64 0,.int .i64 0,.int .i64 0,.int .i64 0,.bool false,.int .i64 0] 66)):=Z7 _ _
 have hnew:=Bx9.new w 66 (.int .i64 0) (.bool false) (.int .i64 0) (.int .i64 0) (.int .i64 0) (.int .i64 0) (.int .i64 0) (.bool false) (.int .i64 0)
 have HN:=Z2 hnew
 clear hnew
 refine (HC.o _ (HD.o.below be0) hs h0 h3).mono ?_
 rintro e w1 ⟨v,L,rfl,hr,hl,ho,hb1⟩
 have hd1:=(HD.o.below be0).below hb1
 have HR1:=Z2 (HN.o.below hb1)
 have hbw1:=be0.trans (hb1.mono be0.size)
 have hws:=hb1.size
 simp only[World.size_alloc] at hws
 have d0:=hd1.c0
 have d1:=hd1.c1
 have d2:=hd1.c2
 have hBz:=Z3 d0
 have hlen:=hr.length
 obtain⟨p,cap,rfl⟩:∃p cap,v=.slice p L.length cap:=by
  rcases ho.2 with ⟨x,y⟩|⟨g,c,cur,x,_⟩
  ·exact⟨none,0,by rw[x,y]⟩
  exact⟨_,_,x⟩
 have HO:=Z2 ho
 have HR:=Z2 hr
 have HL:=Z2 hlen
 clear ho hr hlen hb1 be0 hd1 HD HC HN
 go_wp2
 go_cut [4] from 9 to 21 (fun s4 wx=>∃Bs,s4=.pointer (some ⟨Bs,0,none⟩)/\w1.heap.size<=Bs/\Bx9 wx Bs (.int .i64 enc) (.bool mark) (.int .i64 0) (.int .i64 0) (.int .i64 0) (.int .i64 1) (.int .i64 0) (.bool false) (.int .i64 (Vm.endingOf (Vm.cntK A 0) (Vm.cntK A 1) (Vm.cntK A 2)))/\Below w1.heap.size w1 wx)
 case first =>
  go_region_held3 (fun w'=>w'.cell? ⟨B,0,none⟩=some (.int .i64 enc)/\w'.cell? ⟨B,1,none⟩=some (.bool mark)) (first|go_keep|exact QeZ (by assumption) (by assumption)|exact keepA d0 d1 hb2 _|exact keepB d0 d1 hb2 _ _ _ _ _ _ _ _ _)
   (first|(go_at_call 78;refine (Qf3 _ L A _ _ (HO.o.below (by first|exact (Below.refl _ _).drew|exact ((Below.refl _ _).drew).alloc (Z6 _) _)) HR.o (by omega)).mono ?_;rintro e w2 ⟨rfl,hb2⟩;obtain⟨hc2,hf2⟩:=bcell hb2;have hz2:=hb2.size))
  ·go_wp2_with fail;go_meet;have hb':Below w1.heap.size w1 w2:=⟨hb2.os,hb2.tape,hb2.output,hb2.size,hb2.block⟩;exact⟨_,rfl,hb'.size,Bx9.new _ _ _ _ _ _ _ _ _ _ _,hb'.alloc hb'.size _⟩
  go_wp2_with fail;go_meet;have hb0:Below w1.heap.size w1 (w1.drew.alloc (.cells #[.int .i64 0,.bool false,.int .i64 0,.int .i64 0,.int .i64 0,.int .i64 0,.int .i64 0,.bool false,.int .i64 0] 66)):=((Below.refl _ _).drew).alloc (Z6 _) _;have hb':Below w1.heap.size w1 w2:=hb0.trans (hb2.mono hb0.size);have bx:=(Bx9.new w1.drew 66 (.int .i64 0) (.bool false) (.int .i64 0) (.int .i64 0) (.int .i64 0) (.int .i64 0) (.int .i64 0) (.bool false) (.int .i64 0)).below hb2;exact⟨_,rfl,Z6 _,((((((((bx.set0 _).set1 _).set2 _).set3 _).set4 _).set5 _).set6 _).set7 _).set8 _,Qej hb' _ _ _ _ _ _ _ _ _⟩
 case rest =>
 obtain⟨Bs,rfl,hBs,hbs,hbc⟩:=hcut
 go_wp2
 generalize hen:Vm.endingOf (Vm.cntK A 0) (Vm.cntK A 1) (Vm.cntK A 2)=en at *
 have HEN:=Z2 hen
 clear hen
 go_loopw [5,6] (fun la i wx=>∃k:Nat,k<=L.length/\la=.int .i64 (Vm.sizeA (A.take k))/\i=.int .i64 k/\Bx9 wx Bs (.int .i64 enc) (.bool mark) (.int .i64 (Vm.bytesA (A.take k))) (.int .i64 k) (.int .i64 (Vm.unitsA (A.take k))) (.int .i64 ((Vm.linesA (A.take k):Int)+1)) (.int .i64 (Vm.cntK (A.take k) 4)) (.bool false) (.int .i64 en)/\Below w1.heap.size w1 wx) (fun _ i _=>L.length - (intOf i).toNat)
 case atStart=>exact⟨0,Nat.zero_le _,rfl,rfl,hbs,hbc⟩
 case round =>
  obtain⟨k,hk,rfl,rfl,hbk,hbx⟩:=hrel;have m1:=Vm.Qcl (A.take k);have m2:=Vm.Qc4 (A.take k);have m3:=Vm.QdB (A.take k);have m4:=Vm.QcV (A.take k) 4;have mt:(A.take k).length<=k:=by simp;omega
  by_cases hlt:k<L.length
  ·have hltI:(k:Int)<(L.length:Int):=by omega
   obtain⟨a,ha⟩:∃a,L[k]?=some a:=⟨L[k],List.getElem?_eq_getElem hlt⟩;obtain⟨x,pz,hx,hra0⟩:=Qbc HR.o k a ha;have hra:=HR.o.pos k a x ha hx;have hxo:=hok x (List.mem_of_getElem? hx);have hch:=QbU hra hxo;have hcb:Vm.chA x<=1114111/\0<=Vm.chA x:=⟨hxo.2.2.2.2.2.1,hxo.2.2.2.2.1⟩
   obtain⟨g,rfl⟩:∃g,p=some ⟨g,0,none⟩:=by
    rcases HO.o.2 with ⟨y,z⟩|⟨g,c,cur,y,_⟩
    ·omega
    injection y with y1;exact⟨g,y1⟩
   have hgl:=(HO.o.lt g rfl).2;have hgB:g≠Bs:=by omega
   have hcells:∀wx,Below w1.heap.size w1 wx->wx.cell? ⟨g,k * 5,none⟩=some (.int .i64 a.1)/\wx.cell? ⟨g,k * 5+1,none⟩=some (.bool a.2.1)/\wx.cell? ⟨g,k * 5+2,none⟩=some (.int .i64 a.2.2.1)/\wx.cell? ⟨g,k * 5+3,none⟩=some (.int .i64 a.2.2.2.1)/\wx.cell? ⟨g,k * 5+4,none⟩=some (.int .i64 a.2.2.2.2):=fun wx hbx=>by
    have cell:=fun j (hj:j<5)=>((HO.o.below hbx).cellAt (k * 5+j) (by omega)).trans (QaP L k a j ha hj);exact⟨cell 0 (by decide),cell 1 (by decide),cell 2 (by decide),cell 3 (by decide),cell 4 (by decide)⟩
   have hsh:=QbS a;have hun:=Qcu a;have hrange:a.2.1=false->0<=a.1/\a.1<=1114111:=fun h=>by rw[h] at hch;simp only[Bool.false_eq_true,if_false] at hch;rw[hch];exact⟨hcb.2,hcb.1⟩
   have HRG:=Z2 hrange
   have hune:(if a.2.1=false/\65535<a.1 then (2:Int) else 1)=(Vm.unA x:Int):=by
    unfold Vm.unA;rw[<-hch];cases a.2.1<;>simp
    split<;>rfl
   rw[hch] at hsh;rw[hune] at hun;have t1:=Z2 (Vm.Qbx hx);have t2:=Z2 (Vm.Qdw hx);have t3:=Z2 (Vm.QaL hx);have t4:=Z2 (Vm.QdY hx 4);have t5:=Z2 (Vm.QkD hx);have HCE:=Z2 hcells;have HSH:=Z2 hsh;have HUN:=Z2 hun;have hlen:=QbZ (Vm.chA x);have hlc:=Vm.Qaa (Vm.chA x);have hul:Vm.unA x<=2:=by unfold Vm.unA;split<;>omega
   have HLN:=Z2 hlen;have HRA:=Z2 hra;clear hcells hsh hun hrange hune hch hra hra0 hx ha hlen hxo;obtain⟨q0,q1,q2,q3,q4⟩:=HCE.o _ hbx;generalize e1:Vm.bytesA (A.take k)=b1 at *;generalize e2:Vm.unitsA (A.take k)=b2 at *;generalize e3:Vm.linesA (A.take k)=b3 at *;generalize e4:Vm.cntK (A.take k) 4=b4 at *;generalize e5:Vm.sizeA (A.take k)=b5 at *;have E1:=Z2 e1;have E2:=Z2 e2;have E3:=Z2 e3;have E4:=Z2 e4;have E5:=Z2 e5;clear e1 e2 e3 e4 e5;have HB:=Z2 hbk;have n2:=hbk.c2;have hBsz:=Z3 n2;have f2:=hbk.f 2;clear hbk;go_wp2_with fail;go_cut [4] from 22 to 74 (fun s4 wx=>s4=.pointer (some ⟨Bs,0,none⟩)/\Bx9 wx Bs (.int .i64 enc) (.bool mark) (.int .i64 ((b1:Int)+Vm.lenA x)) (.int .i64 k) (.int .i64 b2) (.int .i64 ((b3:Int)+1)) (.int .i64 b4) (.bool false) (.int .i64 en)/\Below w1.heap.size w1 wx)
   case first =>
    go_region_with
     (first|(go_at_call 77;refine (HSH.o _ HRG.o).mono ?_;rintro e w2 ⟨rfl,hb2⟩;have hz2:=hb2.size;have hfz:w2.frozen? ⟨Bs,2,none⟩=false:=(hb2.frozen (p:=⟨Bs,2,none⟩) hBsz).trans f2;have hcz:w2.cell? ⟨Bs,2,none⟩=some (.int .i64 b1):=(hb2.cell (p:=⟨Bs,2,none⟩) hBsz).trans n2;have hkp:=QmI ⟨n2,q0,q1,q2,q3,q4⟩ (Qa5 hb2)))
    all_goals
     go_wp2_with fail;go_meet
     have hw:IntKind.i64.wrap ((b1:Int)+((strOfNums (Vm.utfL (Vm.chA x))).size:Int))=(b1:Int)+Vm.lenA x:=by
      rw[HLN.o,IntKind.wrap_i64];unfold Vm.lenA;omega
     rw[hw];exact⟨rfl,(HB.o.below (Qa5 hb2)).set2 _,(hbx.trans ((Qa5 hb2).mono hbx.size)).setCell (p:=⟨Bs,2,none⟩) hBs _⟩
   case rest =>
    obtain⟨rfl,hb7,hbx7⟩:=hcut;rename World=>w7
    clear HB n2 f2 hBsz q0 q1 q2 q3 q4;have n3:=hb7.c3;have f3:=hb7.f 3;have HB7:=Z2 hb7;clear hb7;go_wp2_with fail;have HB8:=Z2 (HB7.o.set3 (.int .i64 ((k:Int)+1)));have hbx8:=hbx7.setCell (p:=⟨Bs,3,none⟩) hBs (.int .i64 ((k:Int)+1));obtain⟨q0,q1,q2,q3,q4⟩:=HCE.o _ hbx8;have n4:=HB8.o.c4;have f4:=HB8.o.f 4;have hBsz:=Z3 n4;generalize hw8:w7.setCell ⟨Bs,3,none⟩ (.int .i64 ((k:Int)+1))=w8 at *;clear hw8 n3 f3 HB7 hbx7 hbx;go_cut [4] from 22 to 74 (fun s4 wx=>s4=.pointer (some ⟨Bs,0,none⟩)/\Bx9 wx Bs (.int .i64 enc) (.bool mark) (.int .i64 ((b1:Int)+Vm.lenA x)) (.int .i64 ((k:Int)+1)) (.int .i64 ((b2:Int)+Vm.unA x)) (.int .i64 ((b3:Int)+1)) (.int .i64 b4) (.bool false) (.int .i64 en)/\Below w1.heap.size w1 wx)
    case first =>
     go_region_with
      (first|(go_at_call 79;refine (HUN.o _).mono ?_;rintro e w2 ⟨rfl,hb2⟩;have hz2:=hb2.size;have hfz:w2.frozen? ⟨Bs,4,none⟩=false:=(hb2.frozen (p:=⟨Bs,4,none⟩) hBsz).trans f4;have hcz:w2.cell? ⟨Bs,4,none⟩=some (.int .i64 b2):=(hb2.cell (p:=⟨Bs,4,none⟩) hBsz).trans n4))
     all_goals
      go_wp2_with fail;go_meet
      first
       |exact⟨rfl,(HB8.o.below (Qa5 hb2)).set4 _,(hbx8.trans ((Qa5 hb2).mono hbx8.size)).setCell (p:=⟨Bs,4,none⟩) hBs _⟩
       |(
        have hw:IntKind.i64.wrap ((b2:Int)+(Vm.unA x:Int))=(b2:Int)+Vm.unA x:=by
         rw[IntKind.wrap_i64];omega
        rw[hw]
        exact⟨rfl,(HB8.o.below (Qa5 hb2)).set4 _,(hbx8.trans ((Qa5 hb2).mono hbx8.size)).setCell (p:=⟨Bs,4,none⟩) hBs _⟩)
    case rest =>
     obtain⟨rfl,hb9,hbx9⟩:=hcut;rename World=>w9
     clear HB8 n4 f4 hBsz q0 q1 q2 q3 q4 hbx8;obtain⟨q0,q1,q2,q3,q4⟩:=HCE.o _ hbx9;have n5:=hb9.c5;have f5:=hb9.f 5;have n6:=hb9.c6;have f6:=hb9.f 6;have HB9:=Z2 hb9;clear hb9 q0 q3;obtain⟨r1,r2,r3,r4,r5,r6,r7⟩:=HRA.o;rw[r3] at q1;rw[r4] at q2;rw[r2,Nat.zero_add] at q4;clear r1 r2 r3 r4 r5 HRA HSH HUN HCE HRG;have hcase:x.1<=2\/x.1=3\/x.1=4:=by omega
     rcases hcase with hx1|hx1|hx1
     ·rw[if_pos hx1] at q2;rw[decide_eq_false (by omega)] at q1;generalize hev:x.1+1=ev at *;have hev0:0<ev:=by omega
      have HEV:=Z2 hev;clear hev;go_wp2;go_roundw
      case measure=>simp [intOf];omega
      case rel =>
       refine⟨k+1,by omega,by rw[t5.o];rfl,rfl,?_,hbx9.setCell (p:=⟨Bs,5,none⟩) hBs _⟩;rw[t1.o,t2.o,t3.o,t4.o,if_pos hx1,if_neg (by omega)];exact HB9.o.set5 _
     ·rw[if_neg (by omega)] at q2;rw[decide_eq_false (by omega)] at q1;go_wp2;go_roundw
      case measure=>simp [intOf];omega
      case rel =>
       refine⟨k+1,by omega,by rw[t5.o];rfl,rfl,?_,hbx9⟩;rw[t1.o,t2.o,t3.o,t4.o,if_neg (by omega),if_neg (by omega)];exact HB9.o
     rw[if_neg (by omega)] at q2;rw[decide_eq_true (by omega)] at q1;go_wp2;go_roundw
     case measure=>simp [intOf];omega
     case rel =>
      refine⟨k+1,by omega,by rw[t5.o];rfl,rfl,?_,hbx9.setCell (p:=⟨Bs,6,none⟩) hBs _⟩;rw[t1.o,t2.o,t3.o,t4.o,if_neg (by omega),if_pos hx1];exact HB9.o.set6 _
  obtain rfl:k=L.length:=by omega
  have hall:A.take L.length=A:=by rw[HL.o,List.take_length]
  rw[hall] at hbk m1 m2 m3 m4;have hAl:=HL.o;have hD2:wr.cell? ⟨B,2,none⟩=some (.string body):=(hbx.cell (p:=⟨B,2,none⟩) hBz).trans d2;obtain⟨c0,c1,c2,c3,c4,c5,c6,c7,c8,cf⟩:=hbk;have f7:=cf 7;have hrs:=HR1.o.below hbx;obtain⟨r0,r1,r2,r3,r4,r5,r6,r7,r8,rf⟩:=hrs;have rf0:=rf 0;have rf1:=rf 1;have rf2:=rf 2;have rf3:=rf 3;have rf4:=rf 4;have rf5:=rf 5;have rf6:=rf 6;have rf7:=rf 7;have rf8:=rf 8;have hne:¬w.heap.size=Bs:=by omega
  have hne':¬Bs=w.heap.size:=by omega
  have HS:=Z2 hall;clear hall mt;go_wp2;have bb:=(((((((((((HR1.o.below hbx).other (C:=Bs) (i:=7) (u:=.bool (decide (Vm.sizeA A<body.size))) hne).set0 (.int .i64 enc)).set1 (.bool mark)).set2 (.int .i64 (Vm.bytesA A))).set3 (.int .i64 A.length)).set4 (.int .i64 (Vm.unitsA A))).set5 (.int .i64 ((Vm.linesA A:Int)+1))).set6 (.int .i64 (Vm.cntK A 4))).set7 (.bool (decide (Vm.sizeA A<body.size)))).set8 (.int .i64 en));have hbz:=Qjb (W:=wr.setCell ⟨Bs,7,none⟩ (.bool (decide (Vm.sizeA A<body.size)))) ((hbw1.trans (hbx.mono hbw1.size)).setCell (p:=⟨Bs,7,none⟩) (by show w.heap.size<=Bs;omega) _) (.int .i64 enc) (.bool mark) (.int .i64 (Vm.bytesA A)) (.int .i64 A.length) (.int .i64 (Vm.unitsA A)) (.int .i64 ((Vm.linesA A:Int)+1)) (.int .i64 (Vm.cntK A 4)) (.bool (decide (Vm.sizeA A<body.size))) (.int .i64 en);refine bodyPost_ret (v:=.agg #[.int .i64 enc,.bool mark,.int .i64 (Vm.bytesA A),.int .i64 A.length,.int .i64 (Vm.unitsA A),.int .i64 ((Vm.linesA A:Int)+1),.int .i64 (Vm.cntK A 4),.bool (decide (Vm.sizeA A<body.size)),.int .i64 en]) ?hres rfl ?hpost
  case hres =>
   generalize (((((((((wr.setCell ⟨Bs,7,none⟩ (.bool (decide (Vm.sizeA A<body.size)))).setCell ⟨w.heap.size,0,none⟩ (.int .i64 enc)).setCell ⟨w.heap.size,1,none⟩ (.bool mark)).setCell ⟨w.heap.size,2,none⟩ (.int .i64 (Vm.bytesA A))).setCell ⟨w.heap.size,3,none⟩ (.int .i64 A.length)).setCell ⟨w.heap.size,4,none⟩ (.int .i64 (Vm.unitsA A))).setCell ⟨w.heap.size,5,none⟩ (.int .i64 ((Vm.linesA A:Int)+1))).setCell ⟨w.heap.size,6,none⟩ (.int .i64 (Vm.cntK A 4))).setCell ⟨w.heap.size,7,none⟩ (.bool (decide (Vm.sizeA A<body.size)))).setCell ⟨w.heap.size,8,none⟩ (.int .i64 en)=W at *;simp [results,Tryz.results46,go_sem,bb.c0,bb.c1,bb.c2,bb.c3,bb.c4,bb.c5,bb.c6,bb.c7,bb.c8]
  case hpost =>
   refine⟨fun A' hA'=>?_,hbz⟩;rw[<-HA.o] at hA';subst hA';rw[HEN.o]
def shown (enc:Int) (mark:Bool) (body:ByteArray):Value :=
 .agg #[.int .i64 enc,.bool mark,.int .i64 (Vm.bytesA (Vm.atoms enc body.data.toList)),.int .i64 (Vm.atoms enc body.data.toList).length,.int .i64 (Vm.unitsA (Vm.atoms enc body.data.toList)),
  .int .i64 ((Vm.linesA (Vm.atoms enc body.data.toList):Int)+1),.int .i64 (Vm.cntK (Vm.atoms enc body.data.toList) 4),.bool (decide (Vm.sizeA (Vm.atoms enc body.data.toList)<body.size)),
  .int .i64 (Vm.endingOf (Vm.cntK (Vm.atoms enc body.data.toList) 0) (Vm.cntK (Vm.atoms enc body.data.toList) 1) (Vm.cntK (Vm.atoms enc body.data.toList) 2))]
structure Api (T:World->Prop) (D:World->Nat->Int->Bool->ByteArray->Prop):Prop where
 tab:∀{w w':World},T w->Below w.heap.size w w'->T w'
 low:∀{w w':World} {p:Nat} {enc:Int} {mark:Bool} {body:ByteArray},D w p enc mark body->Below w.heap.size w w'->D w' p enc mark body
 load:∀(b:ByteArray) (mode:Int) (w:World),T w->b.size<=1099511627776->0<=mode->mode<=7 ->
  Calls prog 36 #[.string b,.int .i64 mode] w fun e w'=>∃p,e=.returned (.tuple #[.pointer (some ⟨p,0,none⟩),.int .i64 0])/\D w' p (encOf b mode) (ofMark b (encOf b mode)) (ofBody b (encOf b mode))/\Below w.heap.size w w'
 load_no:∀(b:ByteArray) (mode:Int) (w:World),T w->mode<0\/7<mode ->
  Calls prog 36 #[.string b,.int .i64 mode] w fun e w'=>e=.returned (.tuple #[.pointer none,.int .i64 1])/\Below w.heap.size w w'
 text:∀(p:Nat) (enc:Int) (mark:Bool) (body:ByteArray) (w:World),T w->D w p enc mark body ->
  Calls prog 32 #[.pointer (some ⟨p,0,none⟩)] w fun e w'=>e=.returned (.string (strOfNums (Vm.textL (Vm.atoms enc body.data.toList))))/\Below w.heap.size w w'
 state:∀(p:Nat) (enc:Int) (mark:Bool) (body:ByteArray) (w:World),T w->D w p enc mark body ->
  Calls prog 25 #[.pointer (some ⟨p,0,none⟩)] w fun e w'=>e=.returned (shown enc mark body)/\Below w.heap.size w w'
 save:∀(p:Nat) (enc:Int) (mark:Bool) (body:ByteArray) (w:World),T w->D w p enc mark body ->
  Calls prog 30 #[.pointer (some ⟨p,0,none⟩)] w fun e w'=>e=.returned (.string (bytesOf enc mark body))/\Below w.heap.size w w'
 stable:∀(p:Nat) (enc:Int) (mark:Bool) (body:ByteArray) (w:World),T w->D w p enc mark body ->
  Calls prog 38 #[.pointer (some ⟨p,0,none⟩)] w fun e w'=>e=.returned (.bool (stableB enc mark body))/\Below w.heap.size w w'
variable {T:World->Prop} {D:World->Nat->Int->Bool->ByteArray->Prop}
def Bl (w:World):Type:={w':World // Below w.heap.size w w'}
instance (w:World):Nonempty (Bl w):=⟨⟨w,Below.refl _ _⟩⟩
theorem Qai {id:Nat} {Q:Exit->Act->World->Prop} {a:Act} {l:List Oper} (hm:P.follows .mixedOrders=true) (hB:Region.lexB .any l.toArray=true)
  (h:wpQuiet P l.toArray (fun w'=>∃x:Bl w,w'=x.val) (fun a'=>∀w',(∃x:Bl w,w'=x.val)->Q .normal a' w') l a):(Code.region id l.toArray true).wp P Q a w :=
 wp_region_quiet (C:=fun w'=>∃x:Bl w,w'=x.val) hm hB ⟨⟨w.drew,(Below.refl _ _).drew⟩,rfl⟩ (by simpa using h)
theorem Calls.bl_of {f:FuncId} {args:Array Value} {x:Bl w}
  (h:Calls P f args x.val fun e w'=>e=.returned v/\Below x.val.heap.size x.val w'):Calls P f args x.val fun e w''=>e=.returned v/\∃y:Bl w,w''=y.val :=
 h.mono fun _ w' ⟨he,hm⟩=>⟨he,⟨w',x.2.trans (hm.mono x.2.size)⟩,rfl⟩
def IntsAt (w:World) (v:Value) (zs:List Int):Prop:=(v=.slice none 0 0/\zs=[])\/∃(a:Addr) (cap:Nat),v=.slice (some a) zs.length cap/\(∀i,i<zs.length->w.cell? (a.add i)=some (.int .i64 (zs.getD i 0)))
end Go.Proofs.YtoejbngihecafaaGreatDoor
