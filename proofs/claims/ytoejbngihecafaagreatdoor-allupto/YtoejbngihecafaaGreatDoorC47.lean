import Derived.StillTailTactics
import Derived.Test.YtoejbngihecafaaGreatDoorC45
import Derived.Test.YtoejbngihecafaaGreatDoorC46
import Derived.Test.YtoejbngihecafaaGreatDoorC23
import Derived.Test.YtoejbngihecafaaGreatDoorC38
import Derived.Test.YtoejbngihecafaaGreatDoorC0
set_option maxRecDepth 100000
set_option maxHeartbeats 1000000
open Go.Proofs.Tryz
namespace Go.Proofs.YtoejbngihecafaaGreatDoor
open Go.RowKit
variable {k:Kp} {e:Int} {A:List Vm.At} {j i M B:Nat} {x:Vm.At} {w w':World} {o:Array Value} {s:St} {K:Nat->Prop}
theorem Qhj (v:Value) (L:List Vm.RA) (A:List Vm.At) (base:Nat) (j:Nat) (w:World) (ho:Holds w base v L) (hr:Vm.Reads L A 0) (hj:j<=L.length) (hl:L.length<=1099511627776) :
  Calls prog 149 #[v,.int .i64 j] w fun e w'=>e=.returned (.int .i64 (Vm.sizeA (A.take j)))/\w'=w:=by
 obtain⟨p,cap,rfl⟩:∃p cap,v=.slice p L.length cap:=by
  rcases ho.2 with ⟨x,y⟩|⟨g,c,cur,x,_⟩
  ·exact⟨none,0,by rw[x,y]⟩
  exact⟨_,_,x⟩
 have hlen:=hr.length
 obtain⟨V,hV⟩:∃V,V=Vm.sizeA (A.take j):=⟨_,rfl⟩
 rw[<-hV]
 have HV:=Z2 hV
 clear hV
 have hget:∀i,i<L.length->∃a x,L[i]?=some a/\A[i]?=some x/\a.2.2.2.1=(Vm.sizeA (A.take i):Int)/\a.2.2.2.2=(Vm.sizeA (A.take (i+1)):Int):=by
  intro i hi;have ha:L[i]?=some L[i]:=List.getElem?_eq_getElem hi;have hx:A[i]?=some A[i]:=List.getElem?_eq_getElem (by omega);have hp:=hr.pos i _ _ ha hx;rw[Nat.zero_add] at hp;refine⟨_,_,ha,hx,hp.1,?_⟩;rw[hp.2.1,Qgn hx];simp
 by_cases hlt:j<L.length
 ·obtain⟨a,x,ha,hx,h1,h2⟩:=hget j hlt
  obtain⟨g,rfl⟩:∃g,p=some ⟨g,0,none⟩:=by
   rcases ho.2 with ⟨y,z⟩|⟨g,c,cur,y,_⟩
   ·omega
   injection y with y1;exact⟨g,y1⟩
  have q3:w.cell? ⟨g,j * 5+3,none⟩=some (.int .i64 a.2.2.2.1):=(ho.cellAt (j * 5+3) (by omega)).trans (QaP L j a 3 ha (by decide));have q3':w.cell? ⟨g,j * 5+3,none⟩=some (.int .i64 (V:Int)):=by rw[HV.o,<-h1];exact q3
  have hltI:(j:Int)<(L.length:Int):=by omega
  have hz:=Z3 q3';clear q3 h1 h2 ha hx ho hr hlen hget;go_enter func149,ntmps149;go_wp2_with fail;go_ret;exact⟨rfl,rfl⟩
 obtain rfl:j=L.length:=by omega
 by_cases h0:L.length=0
 ·have hp:V=0:=by
   rw[HV.o,h0];rfl
  have h0I:¬(0:Int)<(L.length:Int):=by omega
  rw[hp];clear ho hr hlen hget hp HV;go_enter func149,ntmps149;go_wp2_with fail;go_ret;exact⟨rfl,rfl⟩
 obtain⟨m,hm⟩:∃m,L.length=m+1:=⟨L.length - 1,by omega⟩
 obtain⟨a,x,ha,hx,h1,h2⟩:=hget m (by omega)
 obtain⟨g,rfl⟩:∃g,p=some ⟨g,0,none⟩:=by
  rcases ho.2 with ⟨y,z⟩|⟨g,c,cur,y,_⟩
  ·omega
  injection y with y1;exact⟨g,y1⟩
 have q4:w.cell? ⟨g,m * 5+4,none⟩=some (.int .i64 a.2.2.2.2):=(ho.cellAt (m * 5+4) (by omega)).trans (QaP L m a 4 ha (by decide))
 rw[hm] at HV
 have q4':w.cell? ⟨g,m * 5+4,none⟩=some (.int .i64 (V:Int)):=by rw[HV.o,<-h2];exact q4
 have hz:=Z3 q4'
 rw[hm]
 have hwr:IntKind.i64.wrap (((m+1:Nat):Int) - 1)=(m:Int):=by rw[IntKind.wrap_i64];omega
 clear q4 h1 h2 ha hx ho hr hlen hget hlt h0
 have hml:m<L.length:=by omega
 clear hm
 go_enter func149,ntmps149
 go_wp2_with fail
 go_ret
 exact⟨rfl,rfl⟩
theorem rRpl (
       B r:Nat) (s:St) (G:Nat->Prop) (M:Nat) (w:World) (f t:Int) (text:ByteArray) (h:RH B w r s G) (hg:s.Good M) (hM:M+text.size<=1000000000) :
  Calls prog 120 #[.pointer (some ⟨r,0,none⟩),.int .i64 f,.int .i64 t,.string text] w fun e w'=>e=.returned (.int .i64 (s.rpl f t text).1)/\∃G',RH B w' r (s.rpl f t text).2 G'/\Turn G G' w w':=by
 have hk:=hg.now.1;have hbd:=QaZ hg;have hlen:=hg.len;have hAl:=Nat.le_trans (Vm.QbH s.k.enc s.k.body.data.toList) (show s.k.body.data.toList.length<=8 * M+1 from hbd);have HA:=Z1 (Qbk r s.k.enc s.k.mark s.k.body w h.doc (by omega) hk.h0 hk.h3);have hRE:=Qoz s.k f t text (Vm.endingOf (Vm.cntK s.k.A 0) (Vm.cntK s.k.A 1) (Vm.cntK s.k.A 2));have HRE:=Z1 hRE;have HH:=Z1 h;have hzr:=(h.ty h.self).2.1;obtain⟨V,hV⟩:∃V,V=s.rpl f t text:=⟨_,rfl⟩;rw[<-hV];have HV:=Z1 hV;clear hV h hRE;go_enter func120,ntmps120;go_wp2_with fail;refine HA.o.mono ?_;rintro e w1 ⟨v,L,rfl,hr,hl,ho,hb1⟩;have hok:=Vm.Qao s.k.enc s.k.L;change Vm.Reads L s.k.A 0 at hr;have P1:=Z1 (fun W (h:Below w1.heap.size w1 W)=>Qeh v L s.k.A _ f W (ho.below h) hr hok (by omega));have P2:=Z1 (fun W (h:Below w1.heap.size w1 W)=>Qeh v L s.k.A _ t W (ho.below h) hr hok (by omega));have P3:=Z1 (fun W (h:Below w1.heap.size w1 W)=>Qf3 v L s.k.A _ W (ho.below h) hr (by omega));have P4:=Z1 (fun W (h:Below w1.heap.size w1 W) (j:Nat) (hj:j<=L.length)=>Qhj v L s.k.A _ j W (ho.below h) hr hj (by omega))
 have hLA:=hr.length;have HLA:=Z1 hLA
 obtain⟨p,cap,rfl⟩:∃p cap,v=.slice p L.length cap:=by
  rcases ho.2 with ⟨x,y⟩|⟨g,c,cur,x,_⟩
  ·exact⟨none,0,by rw[x,y]⟩
  exact⟨_,_,x⟩
 have H1:=Z1 (HH.o.low hb1);have HB1:=Z1 hb1;clear HA HH hr ho hok hb1 hLA;obtain⟨V1,hV1⟩:∃V,V=rplV s.k.A f:=⟨_,rfl⟩;obtain⟨V2,hV2⟩:∃V,V=rplV s.k.A t:=⟨_,rfl⟩;rw[<-hV1] at P1;rw[<-hV2] at P2;have HV1:=Z1 hV1;have HV2:=Z1 hV2;obtain⟨a,e1⟩:=V1;obtain⟨b,e2⟩:=V2;simp only at P1 P2;clear hV1 hV2;go_wp2_with fail;refine (P1.o _ (Below.refl _ _)).mono ?_;rintro e w2 ⟨rfl,hb2⟩;go_wp2_with fail;refine (P2.o _ hb2).mono ?_;rintro e w3 ⟨rfl,hb3⟩;have HB3:=Z1 (hb2.trans (hb3.mono hb2.size));have H3:=Z1 (H1.o.low HB3.o);have HW3:=Z1 (HB1.o.trans (HB3.o.mono HB1.o.size));clear hb2 hb3 P1 P2;by_cases hrg:e1=2\/e2=2\/t<f
 ·have HE:=Z1 (show V=(2,s) by
   have q:=QlY (A:=s.k.A) (f:=f) (t:=t) (by rw[<-HV1.o,<-HV2.o];exact hrg);rw[HV.o];unfold St.rpl;rw[HRE.o,q,if_pos (by decide)]
   rfl)
  clear HV HRE;by_cases q1:e1=2
  ·subst q1;go_wp2_with fail;go_ret;exact⟨by rw[HE.o];rfl,G,by rw[HE.o];exact H3.o,Turn.of_below HW3.o⟩
  have b1:(e1==2)=false:=by simpa using q1
  by_cases q2:e2=2
  ·subst q2;go_wp2_with fail;go_ret;exact⟨by rw[HE.o];rfl,G,by rw[HE.o];exact H3.o,Turn.of_below HW3.o⟩
  have b2:(e2==2)=false:=by simpa using q2
  have q3:t<f:=by
   rcases hrg with q|q|q
   ·exact absurd q q1
   ·exact absurd q q2
   exact q
  clear hrg;go_wp2_with fail;go_ret;exact⟨by rw[HE.o];rfl,G,by rw[HE.o];exact H3.o,Turn.of_below HW3.o⟩
 have q1:¬e1=2:=fun q=>hrg (.inl q);have q2:¬e2=2:=fun q=>hrg (.inr (.inl q));have q3:¬t<f:=fun q=>hrg (.inr (.inr q));have b1:(e1==2)=false:=by simpa using q1
 have b2:(e2==2)=false:=by simpa using q2
 have hsv:=Qo6 (A:=s.k.A) (f:=f) (t:=t) (by rw[<-HV1.o];exact q1) (by rw[<-HV2.o];exact q2) q3;rw[<-HV1.o,<-HV2.o] at hsv;simp only at hsv;have HSV:=Z1 hsv;clear hsv hrg;by_cases hok:e1=0/\e2=0
 ·obtain⟨rfl,rfl⟩:=hok;have ha:=Qlu (A:=s.k.A) (o:=f) (by rw[<-HV1.o]);have hb:=Qlu (A:=s.k.A) (o:=t) (by rw[<-HV2.o]);rw[<-HV1.o] at ha;rw[<-HV2.o] at hb;simp only at ha hb;subst ha hb;have hs0:(strV s.k.A f t).2.2=0:=by rw[HSV.o,if_pos ⟨rfl,rfl⟩]
  have hnf:0<=f/\0<=t:=by
   have z1:=mt rplV_range.2 (show ¬(rplV s.k.A f).2=2 by rw[<-HV1.o];exact q1);have z2:=mt rplV_range.2 (show ¬(rplV s.k.A t).2=2 by rw[<-HV2.o];exact q2);omega
  have hja:Vm.plK s.k.A f<=L.length:=by rw[HLA.o];exact (Vm.Qc7 s.k.A f hnf.1).1
  have hjb:Vm.plK s.k.A t<=L.length:=by rw[HLA.o];exact (Vm.Qc7 s.k.A t hnf.2).1
  have hab:=(QiT hs0).2.2
  have HEQ:=Z1 (show s.rpl f t text=s.chg (Vm.typV s.k.enc (Vm.endingOf (Vm.cntK s.k.A 0) (Vm.cntK s.k.A 1) (Vm.cntK s.k.A 2)) (Vm.atoms 0 text.data.toList)).2 (rplK s.k f t text) by
   unfold St.rpl
   rw[HRE.o,hs0,if_neg (by decide)])
  have hend:0<=Vm.endingOf (Vm.cntK s.k.A 0) (Vm.cntK s.k.A 1) (Vm.cntK s.k.A 2)/\Vm.endingOf (Vm.cntK s.k.A 0) (Vm.cntK s.k.A 1) (Vm.cntK s.k.A 2)<=2:=by
   unfold Vm.endingOf;by_cases q:(if Vm.cntK s.k.A 0<Vm.cntK s.k.A 1 then Vm.cntK s.k.A 1 else Vm.cntK s.k.A 0)<Vm.cntK s.k.A 2
   ·rw[if_pos q];decide
   rw[if_neg q];split<;>decide
  have T1:=Z1 (fun W=>Qkv text s.k.enc (Vm.endingOf (Vm.cntK s.k.A 0) (Vm.cntK s.k.A 1) (Vm.cntK s.k.A 2)) W (by omega) hk.h0 hk.h3 hend.1 hend.2);clear q1 q2 b1 b2 HV1 HV2 HSV HRE hs0;have hz3:=(H3.o.ty H3.o.self).2.1;have hmo:prog.follows Departure.mixedOrders=true:=by kernel_rfl
  go_wp2_with fail;have c0:∀x:Bl w3,x.val.cell? ⟨r,0,none⟩=some (.int .i64 s.k.enc):=fun x=>(H3.o.low x.2).doc.c0;have PX3:=Z1 (fun (x:Bl w3)=>P3.o x.val (HB3.o.trans (x.2.mono HB3.o.size)));have TX:=Z1 (fun (x:Bl w3)=>T1.o x.val);clear P3 T1;generalize hTV:Vm.typV s.k.enc (Vm.endingOf (Vm.cntK s.k.A 0) (Vm.cntK s.k.A 1) (Vm.cntK s.k.A 2)) (Vm.atoms 0 text.data.toList)=TV at *;have HTV:=Z1 hTV;clear hTV;obtain⟨P,te⟩:=TV;simp only at TX HEQ;generalize hEN:Vm.endingOf (Vm.cntK s.k.A 0) (Vm.cntK s.k.A 1) (Vm.cntK s.k.A 2)=en at *;have HEN:=Z1 hEN;clear hEN;refine Qai hmo (by kernel_rfl) ?_
  repeat (go_big_quiet_step (first|(go_at_call 78;refine Calls.bl_of (PX3.o _))|(go_at_call 148;refine Calls.bl_of (TX.o _))|fail))
  refine wpQuiet_nil ?_;intro _ hw';obtain⟨x5,hx5⟩:=hw';subst hx5;have hb5:=x5.2;generalize x5.val=w5 at *;have H5:=Z1 (H3.o.low hb5);have HW5:=Z1 (HW3.o.trans (hb5.mono HW3.o.size));have HB5:=Z1 (HB3.o.trans (hb5.mono HB3.o.size));clear c0 PX3 TX H3 HW3 HB3 hb5 hz3;by_cases hte:te=0
  ·subst hte
   have hP:P=Vm.typL s.k.enc en (Vm.atoms 0 text.data.toList):=by
    have:=Qms (enc:=s.k.enc) (kd:=en) (A:=Vm.atoms 0 text.data.toList) (by rw[HTV.o]);rw[HTV.o] at this;exact this
   have hPl:=QeY s.k.enc en (Vm.atoms 0 text.data.toList);rw[<-hP] at hPl;have hAt:=Vm.QbH 0 text.data.toList;have hts:text.data.toList.length=text.size:=rfl;have hPs:(strOfNums P).size<=8 * text.size:=by rw[QaX];omega
   have HP:=Z1 hP;clear hP hPl hAt hts HTV;obtain⟨c0,c1,c2,_⟩:=H5.o.doc;have hz5:=Z3 c0;have hsa:=Nat.le_trans (QbQ s.k.A (Vm.plK s.k.A f)) (Qck s.k);have hsb:=Nat.le_trans (QbQ s.k.A (Vm.plK s.k.A t)) (Qck s.k);go_wp2_with fail;have hx6:=Go.Deep.blk_alloc_new w5 (.cells #[.int .i64 s.k.enc,.bool s.k.mark,.string s.k.body] 99);have hb6:Below w5.heap.size w5 (w5.alloc (.cells #[.int .i64 s.k.enc,.bool s.k.mark,.string s.k.body] 99)):=Z7 _ _;have hrX:w5.heap.size≠r:=by omega
   clear c0 c1 c2;generalize w5.alloc (.cells #[.int .i64 s.k.enc,.bool s.k.mark,.string s.k.body] 99)=w6 at *;have PA:=Z1 (P4.o w6.drew (HB5.o.trans ((hb6.drew).mono HB5.o.size)) (Vm.plK s.k.A f) hja);have PB:=Z1 (P4.o w6.drew (HB5.o.trans ((hb6.drew).mono HB5.o.size)) (Vm.plK s.k.A t) hjb);clear P4;have hX:w5.heap.size<w6.heap.size:=Z4 hx6;have HB6:=Z1 hb6;have HX6:=Z1 hx6;have H5X:=Z1 (show w5.heap.size<=w5.heap.size from Z6 _);obtain⟨X,hXe⟩:∃X,X=w5.heap.size:=⟨_,rfl⟩;rw[<-hXe] at hx6 hrX hX HX6 ⊢;have HXE:=Z1 hXe;clear hXe hb6 hz5;have x0:=C0 hx6;have x1:=C1 hx6;have x2:=C2 hx6;have xf:=fun j=>Lib.frozen_of_heap hx6 j;clear hx6;generalize hga:Vm.sizeA (s.k.A.take (Vm.plK s.k.A f))=ga at *;generalize hgb:Vm.sizeA (s.k.A.take (Vm.plK s.k.A t))=gb at *;have HGA:=Z1 hga;have HGB:=Z1 hgb;clear hga hgb;have hPs2:(strOfNums P).size<=1000000000000:=by omega
   have hbd2:s.k.body.size<=1000000000000:=by omega
   go_cut [] from 16 to 81 (fun wx=>wx.heap[X]?=some (.cells #[.int .i64 s.k.enc,.bool s.k.mark,.string (s.k.body.extract 0 ga++strOfNums P++s.k.body.extract gb s.k.body.size)] 99)/\Below w5.heap.size w5 wx)
   case first =>
    clear HV HEQ HP H5 HW5 HB5 HLA H1 HB1 hPs hbd hM hg hk hlen hAl hl hab hend hnf hja hjb q3 hzr hrX x0 x1 H5X HGA HGB;generalize Vm.plK s.k.A f=ja at *;generalize Vm.plK s.k.A t=jb at *;generalize strOfNums P=sp at *;generalize s.k.body=bd at *;have z1:(bd.extract 0 ga).size=ga:=by rw[ByteArray.size_extract];omega
    have z2:(bd.extract gb bd.size).size=bd.size - gb:=by rw[ByteArray.size_extract];omega
    have z3:(bd.extract 0 ga++sp).size=ga+sp.size:=by rw[ByteArray.size_append,z1]
    have y1:(bd.extract 0 ga).size<=1000000000000:=by omega
    have y2:(bd.extract gb bd.size).size<=1000000000000:=by omega
    have y3:(bd.extract 0 ga++sp).size<=2000000000000:=by omega
    have n1:¬9223372036854775807<ga+sp.size:=by omega
    have n2:¬9223372036854775807<ga+sp.size+(bd.size - gb):=by omega
    clear z1 z2 z3 y1 y2 y3;refine wp_region_still_tail 15 hmo (by kernel_rfl) ?_;simp only[List.take_succ_cons,List.take_zero,List.drop_succ_cons,List.drop_zero]
    repeat still_step
    still_call PA.o
    repeat still_step
    still_call PB.o
    repeat still_step
    refine wpStill_nil ?_
    all_goals
     go_wp2_with fail;go_meet;exact⟨Qan (show w6.drew.heap[X]?=_ from HX6.o) _,QbK HB6.o.drew (by rw[HXE.o];exact Z6 _) ((Tn.refl X _).setCell _)⟩
   case rest =>
    obtain⟨hx7,hb7⟩:=hcut;have H7:=Z1 (H5.o.low hb7);have HW7:=Z1 (HW5.o.trans (hb7.mono HW5.o.size));obtain⟨nbd,hnbd⟩:∃nbd,nbd=s.k.body.extract 0 ga++strOfNums P++s.k.body.extract gb s.k.body.size:=⟨_,rfl⟩;rw[<-hnbd] at hx7
    have hns:nbd.size<=30000000000:=by
     rw[hnbd,ByteArray.size_append,ByteArray.size_append,ByteArray.size_extract,ByteArray.size_extract];omega
    have hKE:=Qnr hk (Vm.plK s.k.A f) (Vm.plK s.k.A t) P;rw[HGA.o,HGB.o,<-hnbd,HP.o] at hKE;have HKE:=Z1 hKE;have hms:=QaN s.k.enc
    have hbs:(bytesOf s.k.enc s.k.mark nbd).size<=1099511627776:=by
     unfold bytesOf;split
     ·rw[ByteArray.size_append];omega
     omega
    have BY:=Z1 (fun W=>Qc8 s.k.enc s.k.mark nbd W (by omega) hk.h0 hk.h3);have OF:=Z1 (fun W=>QfB (bytesOf s.k.enc s.k.mark nbd) s.k.enc W hbs hk.h0 hk.h3);have CH:=Z1 (fun W (h:RH B W r s G)=>QcD B r s G (ofK (bytesOf s.k.enc s.k.mark nbd) s.k.enc) W h (by omega));have x0':=C0 hx7;have x1':=C1 hx7;have x2':=C2 hx7;have hz7:=Z3 x0';have hzr7:=(H7.o.ty H7.o.self).2.1;clear x0 x1 x2 xf hx7 hb7 hnbd hKE PA PB HB6 HX6 H5 HW5 HB5 hPs hPs2 hbd2 hms hsa hsb;unfold ofK at CH;simp only at CH;go_wp2_with fail
    go_region_with
     (first
      |(have _hq:=hof;go_at_call 150;refine (CH.o _ ((H7.o.low (((Below.refl _ _).drew).trans hby)).low hof)).mono ?_;rintro e w9 ⟨rfl,G9,hr9,ht9⟩)
      |(have _hq:=hby;go_at_call 42;refine (OF.o _).mono ?_;rintro e w8 ⟨rfl,hof⟩)
      |(go_at_call 75;refine (BY.o _).mono ?_;rintro e w7 ⟨rfl,hby⟩;have x0b:w7.cell? ⟨X,0,none⟩=some (.int .i64 s.k.enc):=(hby.cell (p:=⟨X,0,none⟩) hz7).trans x0')
      |fail)
    all_goals
     have HR9:=Z1 hr9;have HT9:=Z1 ((Turn.of_below (F:=G) HW7.o).trans ((Turn.of_below (((Below.refl _ _).drew).trans hby)).trans ((Turn.of_below hof).trans ht9)))
     have HE:=Z1 (show V=(0,⟨rplK s.k f t text,pushK s.O s.k,[]⟩) by
      rw[HV.o,HEQ.o];unfold St.chg
      rw[if_pos rfl])
     have HK9:=Z1 (show rplK s.k f t text=ofK (bytesOf s.k.enc s.k.mark nbd) s.k.enc by
      rw[HKE.o];unfold rplK;rw[HEN.o])
     clear hr9 ht9 hby hof x0' x1' x2' hz7 hzr7;go_wp2_with fail;go_ret;exact⟨by rw[HE.o];rfl,G9,by rw[HE.o,HK9.o];exact HR9.o,HT9.o⟩
  have b3:(te==0)=false:=by simpa using hte
  have HE:=Z1 (show V=(te,s) by
   rw[HV.o,HEQ.o];unfold St.chg
   rw[if_neg hte])
  clear HV HEQ;go_wp2_with fail;go_ret;exact⟨by rw[HE.o];rfl,G,by rw[HE.o];exact H5.o,Turn.of_below HW5.o⟩
 have HE:=Z1 (show V=(3,s) by
  rw[HV.o];unfold St.rpl;rw[HRE.o,HSV.o,if_neg hok,if_pos (by decide)]
  rfl)
 clear HV HRE HSV;by_cases z1:e1=0
 ·subst z1;have z2:¬e2=0:=fun q=>hok ⟨rfl,q⟩;have b3:(e2==0)=false:=by simpa using z2
  go_wp2_with fail;go_ret;exact⟨by rw[HE.o];rfl,G,by rw[HE.o];exact H3.o,Turn.of_below HW3.o⟩
 have b3:(e1==0)=false:=by simpa using z1
 go_wp2_with fail;go_ret;exact⟨by rw[HE.o];rfl,G,by rw[HE.o];exact H3.o,Turn.of_below HW3.o⟩
theorem rEds (B r:Nat) (s:St) (G:Nat->Prop) (M:Nat) (w:World) (kd:Int) (h:RH B w r s G) (hg:s.Good M) (hM:M<=1000000000) :
  Calls prog 122 #[.pointer (some ⟨r,0,none⟩),.int .i64 kd] w fun e w'=>e=.returned (.int .i64 (s.eds kd).1)/\∃G',RH B w' r (s.eds kd).2 G'/\Turn G G' w w':=by
 have hk:=hg.now.1
 have hbd:=QaZ hg
 have hlen:=hg.len
 have hAl:=Nat.le_trans (Vm.QbH s.k.enc s.k.body.data.toList) (show s.k.body.data.toList.length<=8 * M+1 from hbd)
 have hzr:=(h.ty h.self).2.1
 obtain⟨V,hV⟩:∃V,V=s.eds kd:=⟨_,rfl⟩
 rw[<-hV]
 have HV:=Z1 hV
 have HH:=Z1 h
 clear hV
 by_cases hkd:0<=kd/\kd<=2
 ·have HA:=Z1 (Qbk r s.k.enc s.k.mark s.k.body w h.doc (by omega) hk.h0 hk.h3)
  have HE:=Z1 (show V=(0,⟨endK s.k kd,pushK s.O s.k,[]⟩) by
   rw[HV.o];unfold St.eds edE St.chg;rw[if_pos hkd]
   rfl)
  have n1:¬kd<0:=by omega
  have n2:¬2<kd:=by omega
  clear HV h;go_enter func122,ntmps122;go_wp2_with fail;refine HA.o.mono ?_;rintro e w1 ⟨v,L,rfl,hr,hl,ho,hb1⟩;change Vm.Reads L s.k.A 0 at hr;have hLA:=hr.length
  obtain⟨p,cap,rfl⟩:∃p cap,v=.slice p L.length cap:=by
   rcases ho.2 with ⟨x,y⟩|⟨g,c,cur,x,_⟩
   ·exact⟨none,0,by rw[x,y]⟩
   exact⟨_,_,x⟩
  have H1:=Z1 (HH.o.low hb1);have HB1:=Z1 hb1;have HO:=Z1 ho;have HR:=Z1 hr;obtain⟨c0,c1,c2,_⟩:=H1.o.doc;have hz1:=Z3 c0;have P4:=Z1 (fun W (h:Below w1.heap.size w1 W)=>Qhj _ L s.k.A _ L.length W (ho.below h) hr (Z6 _) (by omega));have hall:s.k.A.take L.length=s.k.A:=by rw[hLA,List.take_length]
  rw[hall] at P4;have HLA:=Z1 hLA;clear HA HH hb1 ho hr hLA hall;go_wp2_with fail;have hx6:=Go.Deep.blk_alloc_new w1 (.cells #[.int .i64 s.k.enc,.bool s.k.mark,.string s.k.body] 99);have hb6:Below w1.heap.size w1 (w1.alloc (.cells #[.int .i64 s.k.enc,.bool s.k.mark,.string s.k.body] 99)):=Z7 _ _;clear c0 c1 c2;generalize w1.alloc (.cells #[.int .i64 s.k.enc,.bool s.k.mark,.string s.k.body] 99)=w6 at *;obtain⟨X,hXe⟩:∃X,X=w1.heap.size:=⟨_,rfl⟩;rw[<-hXe] at hx6 ⊢;have HX6:=Z1 hx6;have HB6:=Z1 hb6;have HXE:=Z1 hXe;have hXz:X<w6.heap.size:=Z4 hx6;clear hx6 hb6 hXe hz1;go_loopw [7,8] (fun sv i wx=>∃j:Nat,j<=L.length/\sv=.string (ofL (Vm.reB s.k.enc kd (s.k.A.take j) s.k.L))/\i=.int .i64 j/\Below w6.heap.size w6 wx) (fun _ i _=>L.length - (intOf i).toNat)
  case atStart=>exact⟨0,Nat.zero_le _,rfl,rfl,Below.refl _ _⟩
  case round =>
   obtain⟨j,hj,rfl,rfl,hbx⟩:=hrel;have hbX:=HB6.o.trans (hbx.mono HB6.o.size);have hxx:=(hbx.block X (Z4 HX6.o)).trans HX6.o;have x0:=C0 hxx;have x1:=C1 hxx;have x2:=C2 hxx;have xf:=fun j=>Lib.frozen_of_heap hxx j;have hzx:=Z3 x0;have hrl:=QoJ (enc:=s.k.enc) (kind:=kd) (s.k.A.take j) s.k.L;have htl:(s.k.A.take j).length<=j:=by rw[List.length_take];omega
   have hst:=Nat.le_trans (QbQ s.k.A j) (Qck s.k);have hsz:(ofL (Vm.reB s.k.enc kd (s.k.A.take j) s.k.L)).size<=100000000000:=by rw[QjT];omega
   have HBX:=Z1 hbx;have HBW:=Z1 hbX;have HXX:=Z1 hxx;by_cases hlt:j<L.length
   ·have hltI:(j:Int)<(L.length:Int):=by omega
    obtain⟨a,ha⟩:∃a,L[j]?=some a:=⟨L[j],List.getElem?_eq_getElem hlt⟩;obtain⟨x,hx⟩:∃x,s.k.A[j]?=some x:=⟨s.k.A[j]'(by rw[<-HLA.o];exact hlt),List.getElem?_eq_getElem _⟩;have hp:=HR.o.pos j a x ha hx;rw[Nat.zero_add] at hp;have hse:=Qgn hx;have hst1:=Nat.le_trans (QbQ s.k.A (j+1)) (Qck s.k);have h1:=hp.1;have h2:a.2.2.2.2=(Vm.sizeA (s.k.A.take (j+1)):Int):=by rw[hp.2.1,hse];simp
    have h3:=hp.2.2.2.1
    obtain⟨g,rfl⟩:∃g,p=some ⟨g,0,none⟩:=by
     rcases HO.o.2 with ⟨y,z⟩|⟨g,c,cur,y,_⟩
     ·omega
     injection y with y1;exact⟨g,y1⟩
    have cell:=fun i (hi:i<5)=>((HO.o.below hbX).cellAt (j * 5+i) (by omega)).trans (QaP L j a i ha hi);have q2:wr.cell? ⟨g,j * 5+2,none⟩=some (.int .i64 a.2.2.1):=cell 2 (by decide);have q3:wr.cell? ⟨g,j * 5+3,none⟩=some (.int .i64 a.2.2.2.1):=cell 3 (by decide);have q4:wr.cell? ⟨g,j * 5+4,none⟩=some (.int .i64 a.2.2.2.2):=cell 4 (by decide);rw[h1] at q3;rw[h2] at q4;rw[h3] at q2;have hx0:=hp.2.2.2.2.2.1;have hrs:=Qj3 (enc:=s.k.enc) (kind:=kd) s.k.A s.k.L j x hx;have hzg:=Z3 q2;generalize hf0:Vm.sizeA (s.k.A.take j)=f0 at *;generalize ht0:Vm.sizeA (s.k.A.take (j+1))=t0 at *;have hft:(f0:Int)<=(t0:Int):=by omega
    have htb:(t0:Int)<=(s.k.body.size:Int):=by omega
    have HSE:=Z1 hse;have HRS:=Z1 hrs;clear hf0 ht0 hse hrs hp h1 h2 h3 ha hx cell hbx hbX hxx hrl;generalize hsj:ofL (Vm.reB s.k.enc kd (s.k.A.take j) s.k.L)=sj at *;have HSJ:=Z1 hsj;clear hsj;by_cases h2:x.1<=2
    ·rw[if_pos h2] at q2;have hpos:0<x.1+1:=by omega
     have HEN:=Z1 (fun W=>Qel kd s.k.enc W hkd.1 hkd.2 hk.h0 hk.h3)
     have HST:=Z1 (show ofL (Vm.reB s.k.enc kd (s.k.A.take (j+1)) s.k.L)=sj++strOfNums (Vm.endL s.k.enc kd) by
      apply QcO
      rw[QdX,Qbs,HRS.o,if_pos h2,<-HSJ.o,Qbs,QlO])
     have hes:(strOfNums (Vm.endL s.k.enc kd)).size<=8:=by
      rw[QaX];have:=Qdb s.k.enc kd (0,10,1);unfold Vm.typA at this;simpa using this
     generalize strOfNums (Vm.endL s.k.enc kd)=en at *;generalize x.1+1=xe at *;clear HRS HSE HSJ h2 hx0;go_wp2_with fail;go_quiet (fail);go_wp2_with fail;refine (HEN.o _).mono ?_;rintro e w7 ⟨rfl,hb7⟩;have HB7:=Z1 ((below_drewN HBX.o nq).trans (hb7.mono HBX.o.size));clear hb7 q2 q3 q4 x0 x1 x2 xf;go_wp2_with fail;refine⟨⟨j+1,by omega,?_,by go_num,HB7.o⟩,by simp [intOf];omega⟩;rw[HST.o]
    rw[if_neg h2] at q2
    have HST:=Z1 (show ofL (Vm.reB s.k.enc kd (s.k.A.take (j+1)) s.k.L)=sj++s.k.body.extract f0 t0 by
     apply QcO;rw[QdX,Qbs,HRS.o,if_neg h2,<-HSJ.o,Qbs,QeW];congr 2;have:=HSE.o
     omega)
    have hes:(s.k.body.extract f0 t0).size<=100000000000:=by rw[ByteArray.size_extract];omega
    clear HRS HSE HSJ h2 hx0;go_wp2_with fail;go_quiet (fail);go_wp2_with fail;refine⟨⟨j+1,by omega,?_,by go_num,below_drewN HBX.o nq⟩,by simp [intOf];omega⟩;rw[HST.o]
   obtain rfl:j=L.length:=by omega
   have hall:s.k.A.take L.length=s.k.A:=by rw[HLA.o,List.take_length]
   rw[hall] at hsz hst ⊢;have PA:=Z1 (P4.o wr.drew (hbX.drew));have n3:(s.k.body.extract (Vm.sizeA s.k.A) s.k.body.size).size<=100000000000:=by rw[ByteArray.size_extract];omega
   have HEK:=Z1 (show (endK s.k kd).body=ofL (Vm.reB s.k.enc kd s.k.A s.k.L)++s.k.body.extract (Vm.sizeA s.k.A) s.k.body.size by
    apply QcO;unfold endK;rw[QdX,Qbs,Qbs,QeW];congr 1
    exact (List.take_of_length_le (by rw[List.length_drop];exact Z6 _)).symm)
   generalize ofL (Vm.reB s.k.enc kd s.k.A s.k.L)=sj at *;generalize Vm.sizeA s.k.A=ga at *;have hmo:prog.follows Departure.mixedOrders=true:=by kernel_rfl
   have H7:=Z1 (H1.o.low hbX);clear P4 hlt hall hrl htl hbx hbX hxx;have n4:¬9223372036854775807<sj.size+(s.k.body.size - ga):=by omega
   have CH:=Z1 (fun W (h:RH B W r s G)=>QcD B r s G (endK s.k kd) W h (by omega));have HCE:=Z1 (show (endK s.k kd).enc=s.k.enc/\(endK s.k kd).mark=s.k.mark from ⟨rfl,rfl⟩);generalize hnbd:sj++s.k.body.extract ga s.k.body.size=nbd at *;rw[HEK.o,HCE.o.1,HCE.o.2] at CH;go_wp2_with fail;go_cut [] from 9 to 63 (fun wx=>wx.heap[X]?=some (.cells #[.int .i64 s.k.enc,.bool s.k.mark,.string nbd] 99)/\Below w1.heap.size w1 wx)
   case first =>
    have HNB:=Z1 hnbd;clear hnbd;generalize s.k.body=bd at *;refine wp_region_still_tail 9 hmo (by kernel_rfl) ?_;simp only[List.take_succ_cons,List.take_zero,List.drop_succ_cons,List.drop_zero]
    repeat still_step
    still_call PA.o
    repeat still_step
    refine wpStill_nil ?_;go_wp2_with fail;go_meet;rw[HNB.o];exact⟨Qan (show wr.drew.heap[X]?=_ from HXX.o) _,QbK HBW.o.drew (by rw[HXE.o];exact Z6 _) ((Tn.refl X _).setCell _)⟩
   case rest =>
    obtain⟨hx7,hb7⟩:=hcut;have H8:=Z1 (H1.o.low hb7);have HW8:=Z1 (HB1.o.trans (hb7.mono HB1.o.size));clear x0 x1 x2 xf hnbd PA;have x0:=C0 hx7;have x1:=C1 hx7;have x2:=C2 hx7;have hz7:=Z3 x0;have hzr7:=(H8.o.ty H8.o.self).2.1;clear hx7 hb7;go_wp2_with fail;refine (CH.o _ H8.o).mono ?_;rintro e w9 ⟨rfl,G9,hr9,ht9⟩;have HR9:=Z1 hr9;have HT9:=Z1 ((Turn.of_below (F:=G) HW8.o).trans ht9);clear hr9 ht9 x0 x1 x2 hz7 hzr7 CH;go_wp2_with fail;go_ret;exact⟨by rw[HE.o];rfl,G9,by rw[HE.o];exact HR9.o,HT9.o⟩
 have HE:=Z1 (show V=(11,s) by
  rw[HV.o];unfold St.eds edE St.chg;rw[if_neg hkd]
  rfl)
 clear HV h
 by_cases n1:kd<0
 ·go_enter func122,ntmps122;go_wp2_with fail;go_ret;exact⟨by rw[HE.o];rfl,G,by rw[HE.o];exact HH.o,Turn.refl _ _⟩
 have n2:2<kd:=by omega
 go_enter func122,ntmps122
 go_wp2_with fail
 go_ret
 exact⟨by rw[HE.o];rfl,G,by rw[HE.o];exact HH.o,Turn.refl _ _⟩
theorem Qmp (A:List Vm.At):0<Vm.cntK A 4↔A.any (fun x=>x.1==4)=true:=by
 unfold Vm.cntK;rw[List.length_pos_iff_exists_mem,List.any_eq_true];constructor
 ·rintro ⟨x,hx⟩;rw[List.mem_filter] at hx;exact⟨x,hx.1,by simpa using hx.2⟩
 rintro ⟨x,h1,h2⟩;exact⟨x,List.mem_filter.2 ⟨h1,by simpa using h2⟩⟩
theorem QiD (h:k.A.any (fun x=>x.1==4)=true):fitsK k e=false:=by
 unfold fitsK;obtain⟨x,h1,h2⟩:=List.any_eq_true.1 h
 have:k.A.all (fun x=>x.1 != 4)=false:=by
  rw[List.all_eq_false];exact⟨x,h1,by simpa using h2⟩
 rw[this];rfl
theorem QiV (h:Vm.sizeA k.A<k.body.size):fitsK k e=false:=by
 unfold fitsK;have:decide (Vm.sizeA k.A=k.L.length)=false:=decide_eq_false (by rw[k.L_len];omega);rw[this,Bool.and_false];rfl
def sayB (en:Int) (A:List Vm.At):Bool:=A.all (fun x=>decide (en≠3\/x.2.1<=255))
theorem QiO (h:sayB e k.A=false):fitsK k e=false:=by
 unfold sayB at h;rw[List.all_eq_false] at h;obtain⟨x,h1,h2⟩:=h
 have h2':e=3/\¬x.2.1<=255:=by
  simp only[decide_eq_true_eq] at h2;exact⟨by omega,by omega⟩
 unfold fitsK
 have:k.A.all (fun x=>decide (x.2.1<=255))=false:=by
  rw[List.all_eq_false];exact⟨x,h1,by simpa using h2'.2⟩
 rw[this,Bool.or_false,decide_eq_false (show ¬e≠3 from fun q=>q h2'.1),Bool.and_false]
theorem Qmo (h1:k.A.any (fun x=>x.1==4)=false) (h2:¬Vm.sizeA k.A<k.body.size) (h3:sayB e k.A=true):fitsK k e=true:=by
 unfold fitsK
 have g1:k.A.all (fun x=>x.1 != 4)=true:=by
  rw[List.all_eq_true];intro x hx;have:=List.any_eq_false.1 h1 x hx;simpa using this
 have g2:decide (Vm.sizeA k.A=k.L.length)=true:=decide_eq_true (by have:=Qck k;rw[k.L_len];omega);rw[g1,g2];unfold sayB at h3;rw[List.all_eq_true] at h3;by_cases he:e=3
 ·have g3:k.A.all (fun x=>decide (x.2.1<=255))=true:=by
   rw[List.all_eq_true];intro x hx;have:=h3 x hx;simp only[decide_eq_true_eq] at this ⊢;omega
  rw[g3,Bool.or_true];rfl
 rw[decide_eq_true (show e≠3 from he)];rfl
theorem Ql4 {en:Int} (h:A[j]?=some x):sayB en (A.take (j+1))=(sayB en (A.take j)&&decide (en≠3\/x.2.1<=255)):=by
 unfold sayB;rw[List.take_add_one,h];simp
theorem Qmz (h:A[j]?=some x):(A.take (j+1)).any (fun x=>x.1==4)=((A.take j).any (fun x=>x.1==4) || x.1==4):=by
 rw[List.take_add_one,h];simp
theorem rCod (
       B r:Nat) (s:St) (G:Nat->Prop) (M:Nat) (w:World) (en:Int) (h:RH B w r s G) (hg:s.Good M) (hM:M<=1000000000) :
  Calls prog 123 #[.pointer (some ⟨r,0,none⟩),.int .i64 en] w fun e w'=>e=.returned (.int .i64 (s.cod en).1)/\∃G',RH B w' r (s.cod en).2 G'/\Turn G G' w w':=by
 have hk:=hg.now.1;have hbd:=QaZ hg;have hlen:=hg.len;have hAl:=Nat.le_trans (Vm.QbH s.k.enc s.k.body.data.toList) (show s.k.body.data.toList.length<=8 * M+1 from hbd);have hzr:=(h.ty h.self).2.1;obtain⟨V,hV⟩:∃V,V=s.cod en:=⟨_,rfl⟩;rw[<-hV];have HV:=Z1 hV;have HH:=Z1 h;clear hV;by_cases hkd:0<=en/\en<=3
 ·have HA:=Z1 (Qbk r s.k.enc s.k.mark s.k.body w h.doc (by omega) hk.h0 hk.h3)
  have HE:=Z1 (show V=(if fitsK s.k en=true then (0,⟨encK s.k en,pushK s.O s.k,[]⟩) else (7,s)) by
   rw[HV.o];unfold St.cod ecE St.chg;rw[if_pos hkd];split
   ·rfl
   rfl)
  have n1:¬en<0:=by omega
  have n2:¬3<en:=by omega
  clear HV h;go_enter func123,ntmps123;go_wp2_with fail;refine HA.o.mono ?_;rintro e w1 ⟨v,L,rfl,hr,hl,ho,hb1⟩;change Vm.Reads L s.k.A 0 at hr;have hLA:=hr.length
  obtain⟨p,cap,rfl⟩:∃p cap,v=.slice p L.length cap:=by
   rcases ho.2 with ⟨x,y⟩|⟨g,c,cur,x,_⟩
   ·exact⟨none,0,by rw[x,y]⟩
   exact⟨_,_,x⟩
  have H1:=Z1 (HH.o.low hb1);have HB1:=Z1 hb1;have HO:=Z1 ho;have HR:=Z1 hr;have SH:=Z1 (QgC r s.k.enc s.k.mark s.k.body w1 H1.o.doc (by omega) hk.h0 hk.h3);have HLA:=Z1 hLA;have hz1:=(H1.o.ty H1.o.self).2.1;clear HA HH hb1 ho hr hLA;obtain⟨n2',n3',n4',n5',n8',hsh⟩:∃n2 n3 n4 n5 n8:Int,shown s.k.enc s.k.mark s.k.body=.agg #[.int .i64 s.k.enc,.bool s.k.mark,.int .i64 n2,.int .i64 n3,.int .i64 n4,.int .i64 n5,.int .i64 (Vm.cntK s.k.A 4),.bool (decide (Vm.sizeA s.k.A<s.k.body.size)),.int .i64 n8]:=⟨_,_,_,_,_,rfl⟩;rw[hsh] at SH;clear hsh;go_wp2_with fail;refine SH.o.mono ?_;rintro e w2 ⟨rfl,hb2⟩;go_wp2_with fail;have hx6:=Go.Deep.blk_alloc_new w2 (.cells #[.int .i64 s.k.enc,.bool s.k.mark,.int .i64 n2',.int .i64 n3',.int .i64 n4',.int .i64 n5',.int .i64 (Vm.cntK s.k.A 4),.bool (decide (Vm.sizeA s.k.A<s.k.body.size)),.int .i64 n8'] 66);have hb6:Below w1.heap.size w1 (w2.alloc (.cells #[.int .i64 s.k.enc,.bool s.k.mark,.int .i64 n2',.int .i64 n3',.int .i64 n4',.int .i64 n5',.int .i64 (Vm.cntK s.k.A 4),.bool (decide (Vm.sizeA s.k.A<s.k.body.size)),.int .i64 n8'] 66)):=hb2.alloc hb2.size _;clear hb2;generalize w2.alloc _=w6 at *;generalize w2.heap.size=X at *;have HX6:=Z1 hx6;have HB6:=Z1 hb6;clear hx6 hb6 SH;go_loopw [7,8,9] (fun sv al i wx=>∃(j:Nat) (sj:ByteArray) (b:Bool),j<=L.length/\sv=.string sj/\al=.bool b/\i=.int .i64 j/\sj.size<=8 * j/\((s.k.A.take j).any (fun x=>x.1==4)=false->sj=strOfNums (Vm.recL en (s.k.A.take j))/\b=sayB en (s.k.A.take j))/\Below w6.heap.size w6 wx) (fun _ _ i _=>L.length - (intOf i).toNat)
  case atStart=>exact⟨0,⟨#[]⟩,true,Nat.zero_le _,rfl,rfl,rfl,Z6 _,fun _=>⟨rfl,rfl⟩,Below.refl _ _⟩
  case round =>
   obtain⟨j,sj,b,hj,rfl,rfl,rfl,hsz,hinv,hbx⟩:=hrel;have hbX:=HB6.o.trans (hbx.mono HB6.o.size);have HBX:=Z1 hbx;have HBW:=Z1 hbX;have HINV:=Z1 hinv;clear hinv;by_cases hlt:j<L.length
   ·have hltI:(j:Int)<(L.length:Int):=by omega
    obtain⟨a,ha⟩:∃a,L[j]?=some a:=⟨L[j],List.getElem?_eq_getElem hlt⟩;obtain⟨x,hx⟩:∃x,s.k.A[j]?=some x:=⟨s.k.A[j]'(by rw[<-HLA.o];exact hlt),List.getElem?_eq_getElem _⟩;have hp:=HR.o.pos j a x ha hx;have hmem:=List.mem_of_getElem? hx;have hao:=Vm.Qao s.k.enc s.k.L x hmem
    obtain⟨g,rfl⟩:∃g,p=some ⟨g,0,none⟩:=by
     rcases HO.o.2 with ⟨y,z⟩|⟨g,c,cur,y,_⟩
     ·omega
     injection y with y1;exact⟨g,y1⟩
    have cell:=fun (W:World) (hb:Below w1.heap.size w1 W) i (hi:i<5)=>((HO.o.below hb).cellAt (j * 5+i) (by omega)).trans (QaP L j a i ha hi);have q0:wr.cell? ⟨g,j * 5,none⟩=some (.int .i64 a.1):=cell wr hbX 0 (by decide);have hcell2:∀W,Below w1.heap.size w1 W->W.cell? ⟨g,j * 5+2,none⟩=some (.int .i64 a.2.2.1):=fun W hb=>cell W hb 2 (by decide);have HC2:=Z1 hcell2;have hzg:=Z3 q0;have ha1:=hp.2.2.2.2.2.2.2;have WR:=Z1 (fun W=>Qb6 a.1 en W ha1.1 ha1.2 hkd.1 hkd.2);have hend:=hp.2.2.2.1;have hchr:=hp.2.2.2.2.1;have hx0:=hp.2.2.2.2.2.1;have hten:=hao.2.2.2.1;have hrs:=QlL (enc:=en) hx;have hsb:=Ql4 (en:=en) hx;have ha4:=Qmz hx;have hwl:(strOfNums (Vm.wrL en a.1)).size<=8:=by rw[QaX];have:=QfN en a.1;omega
    generalize hok:decide (en≠3\/a.1<=255)=ok at *;have HOK:=Z1 hok;clear hok hp hao hmem ha hx cell hcell2 hbX hbx;by_cases h2:x.1<=2
    ·have ED:=Z1 (fun W=>Qel x.1 en W hx0 h2 hkd.1 hkd.2)
     have hel:(strOfNums (Vm.endL en x.1)).size<=8:=by
      rw[QaX];have:=Qdb en x.1 (0,10,1);unfold Vm.typA at this;simpa using this
     rw[if_pos h2] at hend;have hpos:0<a.2.2.1:=by omega
     have hwr:IntKind.i64.wrap (a.2.2.1 - 1)=x.1:=by rw[IntKind.wrap_i64,hend];omega
     have hac:=hchr (by omega)
     have HN:=Z1 (show (s.k.A.take (j+1)).any (fun x=>x.1==4)=false->sj++strOfNums (Vm.endL en x.1)=strOfNums (Vm.recL en (s.k.A.take (j+1)))/\(b&&ok)=sayB en (s.k.A.take (j+1)) from fun h=>by
      rw[ha4,Bool.or_eq_false_iff] at h;obtain⟨i1,i2⟩:=HINV.o h.1;rw[hrs,hsb,QaH,<-i1,<-i2,<-HOK.o,hac];refine⟨?_,rfl⟩;unfold Vm.recA
      rw[if_pos h2])
     clear hend hrs hsb ha4 HINV hac hchr hten HOK h2;generalize strOfNums (Vm.wrL en a.1)=u1 at *;generalize strOfNums (Vm.endL en x.1)=u2 at *;generalize a.2.2.1=ae at *;generalize a.1=ac at *;go_wp2_with fail;refine (WR.o _).mono ?_;rintro e w7 ⟨rfl,hb7⟩;have hbw7:=HBW.o.trans (hb7.mono HBW.o.size);have q2:=HC2.o _ hbw7;have hzg7:=Z3 q2;have HB7:=Z1 (HBX.o.trans (hb7.mono HBX.o.size));have HBW7:=Z1 hbw7;clear q0 hzg hb7 hbw7;go_wp2_with fail;refine (ED.o _).mono ?_;rintro e w8 ⟨rfl,hb8⟩;have HB8:=Z1 (HB7.o.trans (hb8.mono HB7.o.size));clear q2 hzg7 hb8;cases b
     ·go_wp2_with fail;refine⟨⟨j+1,_,_,by omega,rfl,rfl,by go_num,by rw[ByteArray.size_append];omega,HN.o,HB8.o⟩,by simp [intOf];omega⟩
     go_wp2_with fail;refine⟨⟨j+1,_,_,by omega,rfl,rfl,by go_num,by rw[ByteArray.size_append];omega,HN.o,HB8.o⟩,by simp [intOf];omega⟩
    rw[if_neg h2] at hend
    have HN:=Z1 (show (s.k.A.take (j+1)).any (fun x=>x.1==4)=false->sj++strOfNums (Vm.wrL en a.1)=strOfNums (Vm.recL en (s.k.A.take (j+1)))/\(b&&ok)=sayB en (s.k.A.take (j+1)) from fun h=>by
     rw[ha4,Bool.or_eq_false_iff] at h;have hac:=hchr (by simpa using h.2);obtain⟨i1,i2⟩:=HINV.o h.1;rw[hrs,hsb,QaH,<-i1,<-i2,<-HOK.o,hac];refine⟨?_,rfl⟩;unfold Vm.recA
     rw[if_neg h2])
    clear hrs hsb ha4 HINV hchr hten HOK h2;generalize strOfNums (Vm.wrL en a.1)=u1 at *;generalize a.1=ac at *;rw[hend] at HC2;go_wp2_with fail;refine (WR.o _).mono ?_;rintro e w7 ⟨rfl,hb7⟩;have hbw7:=HBW.o.trans (hb7.mono HBW.o.size);have q2:=HC2.o _ hbw7;have hzg7:=Z3 q2;have HB7:=Z1 (HBX.o.trans (hb7.mono HBX.o.size));clear q0 hzg hb7 hbw7 hend;cases b
    ·go_wp2_with fail;refine⟨⟨j+1,_,_,by omega,rfl,rfl,by go_num,by rw[ByteArray.size_append];omega,HN.o,HB7.o⟩,by simp [intOf];omega⟩
    go_wp2_with fail;refine⟨⟨j+1,_,_,by omega,rfl,rfl,by go_num,by rw[ByteArray.size_append];omega,HN.o,HB7.o⟩,by simp [intOf];omega⟩
   obtain rfl:j=L.length:=by omega
   have hall:s.k.A.take L.length=s.k.A:=by rw[HLA.o,List.take_length]
   rw[hall] at HINV;have hxx:=(hbx.block X (Z4 HX6.o)).trans HX6.o;have x6:=C6 hxx;have x7:=C7 hxx;have hzx:=Z3 x6;have H7:=Z1 (H1.o.low hbX);have HW7:=Z1 (HB1.o.trans (hbX.mono HB1.o.size));have hbadN:fitsK s.k en=false->V=(7,s):=fun q=>by rw[HE.o,if_neg (by rw[q];decide)]
   have HBAD:=Z1 hbadN;clear hxx hall hbadN hbx hbX;cases hesc:s.k.A.any (fun x=>x.1==4) with
   |true =>
    have hc4:(0:Int)<(Vm.cntK s.k.A 4:Int):=by have:=(Qmp s.k.A).2 hesc;omega
    have HE7:=Z1 (HBAD.o (QiD hesc));clear hesc HINV HE HBAD;generalize (Vm.cntK s.k.A 4:Int)=c4 at *;go_wp2_with fail;go_ret;exact⟨by rw[HE7.o];rfl,G,by rw[HE7.o];exact H7.o,Turn.of_below HW7.o⟩
   |false =>
    have hc4:¬(0:Int)<(Vm.cntK s.k.A 4:Int):=fun q=>by
     have:=(Qmp s.k.A).1 (by omega);rw[hesc] at this;cases this
    obtain⟨i1,i2⟩:=HINV.o hesc;by_cases htl:Vm.sizeA s.k.A<s.k.body.size
    ·have HE7:=Z1 (HBAD.o (QiV htl));rw[decide_eq_true htl] at x7;clear hesc HINV HE HBAD i1 i2 htl;generalize (Vm.cntK s.k.A 4:Int)=c4 at *;go_wp2_with fail;go_ret;exact⟨by rw[HE7.o];rfl,G,by rw[HE7.o];exact H7.o,Turn.of_below HW7.o⟩
    rw[decide_eq_false htl] at x7;cases b with
    |false =>
     have HE7:=Z1 (HBAD.o (QiO i2.symm));clear hesc HINV HE HBAD i1 i2 htl;generalize (Vm.cntK s.k.A 4:Int)=c4 at *;go_wp2_with fail;go_ret;exact⟨by rw[HE7.o];rfl,G,by rw[HE7.o];exact H7.o,Turn.of_below HW7.o⟩
    |true =>
     have HE0:=Z1 (show V=(0,⟨encK s.k en,pushK s.O s.k,[]⟩) by rw[HE.o,if_pos (Qmo hesc htl i2.symm)]);clear hesc HINV HE HBAD i2 htl;generalize (Vm.cntK s.k.A 4:Int)=c4 at *;obtain⟨c0,c1,c2,_⟩:=H7.o.doc;have hz7:=Z3 c0;obtain⟨mk,hmk⟩:∃mk,mk=(s.k.mark&&decide (en≠3)):=⟨_,rfl⟩;have HMK:=Z1 hmk;have HSJ:=Z1 i1;clear hmk i1;have hsj8:sj.size<=1000000000000:=by omega
     have hms:=QaN en
     have hbs:(bytesOf en mk sj).size<=1099511627776:=by
      unfold bytesOf;split
      ·rw[ByteArray.size_append];omega
      omega
     have BY:=Z1 (fun W=>Qc8 en mk sj W (by omega) hkd.1 hkd.2);have OF:=Z1 (fun W=>QfB (bytesOf en mk sj) en W hbs hkd.1 hkd.2);have CH:=Z1 (fun W (h:RH B W r s G)=>QcD B r s G (ofK (bytesOf en mk sj) en) W h (by omega));unfold ofK at CH;simp only at CH
     have HK9:=Z1 (show encK s.k en=ofK (bytesOf en mk sj) en by
      unfold encK
      rw[HMK.o,HSJ.o])
     have HMM:=Z1 (show s.k.mark=true->(en != 3)=mk from fun q=>by rw[HMK.o,q,Bool.true_and];by_cases h:en=3<;>simp [h]);have HMF:=Z1 (show s.k.mark=false->false=mk from fun q=>by rw[HMK.o,q];rfl);clear hms hbs HMK HSJ HB6 HX6 HO HR c2 hsz hAl hl
     have fin:∀w9:World,(Below wr.heap.size wr w9)->Calls prog 150 #[.pointer (some ⟨r,0,none⟩),.agg #[.int .i64 en,.bool (ofMark (bytesOf en mk sj) en),.string (ofBody (bytesOf en mk sj) en)]] w9 fun e w'=>e=.returned (.tuple #[])/\(Ending.returned (Value.int .i64 0)=Ending.returned (.int .i64 V.1)/\∃G',RH B w' r V.2 G'/\Turn G G' w w'):=fun w9 hb9 =>
      (CH.o w9 (H7.o.low hb9)).mono fun e w' ⟨he,G',h2,h3⟩=>⟨he,by rw[HE0.o],G',by rw[HE0.o,HK9.o];exact h2,(Turn.of_below (F:=G) HW7.o).trans ((Turn.of_below hb9).trans h3)⟩
     have FIN:=Z1 fin;clear fin CH HK9 HE0 H7 HW7;cases hm:s.k.mark with
     |true =>
      have hne:=HMM.o hm;rw[hm] at c1;clear HMM HMF hm;go_wp2_with fail;refine (BY.o _).mono ?_;rintro e w8 ⟨rfl,hb8⟩;go_wp2_with fail;refine (OF.o _).mono ?_;rintro e w9 ⟨rfl,hb9⟩;have hba:Below wr.heap.size wr (wr.alloc (.cells #[.int .i64 en,.bool mk,.string sj] 99)):=Z7 _ _;have hb89:=(hba.trans (hb8.mono hba.size)).trans (hb9.mono (Nat.le_trans hba.size hb8.size));have F9:=Z1 (FIN.o w9 hb89);have hz9:r<w9.heap.size:=by have:=hb89.size;omega
      clear hb8 hb9 hba hb89 FIN BY OF c0 c1 x6 x7;go_wp2_with fail;refine F9.o.mono ?_;rintro e w10 ⟨rfl,hfin⟩;have HFN:=Z1 hfin;clear hfin F9;go_wp2_with fail;go_ret;exact HFN.o
     |false =>
      have hne:=HMF.o hm;subst hne;rw[hm] at c1;clear HMM HMF hm;go_wp2_with fail;refine (BY.o _).mono ?_;rintro e w8 ⟨rfl,hb8⟩;go_wp2_with fail;refine (OF.o _).mono ?_;rintro e w9 ⟨rfl,hb9⟩;have hba:Below wr.heap.size wr (wr.alloc (.cells #[.int .i64 en,.bool false,.string sj] 99)):=Z7 _ _;have hb89:=(hba.trans (hb8.mono hba.size)).trans (hb9.mono (Nat.le_trans hba.size hb8.size));have F9:=Z1 (FIN.o w9 hb89);have hz9:r<w9.heap.size:=by have:=hb89.size;omega
      clear hb8 hb9 hba hb89 FIN BY OF c0 c1 x6 x7;go_wp2_with fail;refine F9.o.mono ?_;rintro e w10 ⟨rfl,hfin⟩;have HFN:=Z1 hfin;clear hfin F9;go_wp2_with fail;go_ret;exact HFN.o
 have HE:=Z1 (show V=(1,s) by
  rw[HV.o];unfold St.cod ecE St.chg;rw[if_neg hkd]
  rfl)
 clear HV h;by_cases n1:en<0
 ·go_enter func123,ntmps123;go_wp2_with fail;go_ret;exact⟨by rw[HE.o];rfl,G,by rw[HE.o];exact HH.o,Turn.refl _ _⟩
 have n2:3<en:=by omega
 go_enter func123,ntmps123;go_wp2_with fail;go_ret;exact⟨by rw[HE.o];rfl,G,by rw[HE.o];exact HH.o,Turn.refl _ _⟩
theorem rMrk (B r:Nat) (s:St) (G:Nat->Prop) (M:Nat) (w:World) (on:Bool) (h:RH B w r s G) (hg:s.Good M) (hM:M<=1000000000) :
  Calls prog 121 #[.pointer (some ⟨r,0,none⟩),.bool on] w fun e w'=>e=.returned (.int .i64 (s.mrk on).1)/\∃G',RH B w' r (s.mrk on).2 G'/\Turn G G' w w':=by
 have hk:=hg.now.1
 have hbd:=QaZ hg
 have hlen:=hg.len
 obtain⟨c0,c1,c2,_⟩:=h.doc
 have hzr:=Z3 c0
 obtain⟨V,hV⟩:∃V,V=s.mrk on:=⟨_,rfl⟩
 rw[<-hV]
 have HV:=Z1 hV
 have HH:=Z1 h
 clear hV h
 by_cases hno:on=true/\s.k.enc=3
 ·obtain⟨rfl,he3⟩:=hno
  have HE:=Z1 (show V=(6,s) by
   rw[HV.o];unfold St.mrk mkE St.chg;rw[if_pos ⟨rfl,he3⟩]
   rfl)
  rw[he3] at c0;clear HV he3;go_enter func121,ntmps121;go_wp2_with fail;go_ret;exact⟨by rw[HE.o];rfl,G,by rw[HE.o];exact HH.o,Turn.refl _ _⟩
 have HE:=Z1 (show V=(0,⟨markK s.k on,pushK s.O s.k,[]⟩) by
  rw[HV.o];unfold St.mrk mkE St.chg;rw[if_neg hno]
  rfl)
 have hKE:=QmV hk on (fun q e=>hno ⟨q,e⟩)
 have HKE:=Z1 hKE
 have hms:=QaN s.k.enc
 have hbs:(bytesOf s.k.enc on s.k.body).size<=1099511627776:=by
  unfold bytesOf;split
  ·rw[ByteArray.size_append];omega
  omega
 have BY:=Z1 (fun W=>Qc8 s.k.enc on s.k.body W (by omega) hk.h0 hk.h3)
 have OF:=Z1 (fun W=>QfB (bytesOf s.k.enc on s.k.body) s.k.enc W hbs hk.h0 hk.h3)
 have CH:=Z1 (fun W (h:RH B W r s G)=>QcD B r s G (ofK (bytesOf s.k.enc on s.k.body) s.k.enc) W h (by omega))
 unfold ofK at CH
 simp only at CH
 have hmo:prog.follows Departure.mixedOrders=true:=by kernel_rfl
 have hen:on=true->¬s.k.enc=3:=fun q e=>hno ⟨q,e⟩
 clear HV hno hKE hms hbs
 have key:Calls prog 121 #[.pointer (some ⟨r,0,none⟩),.bool on] w fun e w'=>e=.returned (.int .i64 0)/\∃G',RH B w' r ⟨ofK (bytesOf s.k.enc on s.k.body) s.k.enc,pushK s.O s.k,[]⟩ G'/\Turn G G' w w':=by
  clear HE HKE hg hM hbd hlen;cases on with
  |true =>
   have he3:=hen rfl;have hb3:(s.k.enc==3)=false:=by simpa using he3
   clear hen;go_enter func121,ntmps121;go_wp2_with fail;have hx7:=Go.Deep.blk_alloc_new w (.cells #[.int .i64 s.k.enc,.bool true,.string s.k.body] 99);have hb7:Below w.heap.size w (w.alloc (.cells #[.int .i64 s.k.enc,.bool true,.string s.k.body] 99)):=Z7 _ _;have H7:=Z1 (HH.o.low hb7);have HW7:=Z1 (Turn.of_below (F:=G) hb7);clear c0 c1 c2 hzr hb7 HH;generalize w.alloc (.cells #[.int .i64 s.k.enc,.bool true,.string s.k.body] 99)=w7 at *;generalize w.heap.size=X at hx7 ⊢;have x0:=C0 hx7;have x1:=C1 hx7;have x2:=C2 hx7;have hz7:=Z3 x0;have hzr7:=(H7.o.ty H7.o.self).2.1;clear hx7
   go_region_with
    (first
     |(have _hq:=hof;go_at_call 150;refine (CH.o _ ((H7.o.low (((Below.refl _ _).drew).trans hby)).low hof)).mono ?_;rintro e w9 ⟨rfl,G9,hr9,ht9⟩)
     |(have _hq:=hby;go_at_call 42;refine (OF.o _).mono ?_;rintro e w8 ⟨rfl,hof⟩)
     |(go_at_call 75;refine (BY.o _).mono ?_;rintro e w6 ⟨rfl,hby⟩;have x0b:w6.cell? ⟨X,0,none⟩=some (.int .i64 s.k.enc):=(hby.cell (p:=⟨X,0,none⟩) hz7).trans x0)
     |fail)
   all_goals
    have HR9:=Z1 hr9;have HT9:=Z1 (HW7.o.trans ((Turn.of_below (((Below.refl _ _).drew).trans hby)).trans ((Turn.of_below hof).trans ht9)));clear hr9 ht9 hby hof x0 x1 x2 hz7 hzr7 H7 HW7;go_wp2_with fail;go_ret;exact⟨rfl,G9,HR9.o,HT9.o⟩
  |false =>
   clear hen;go_enter func121,ntmps121;go_wp2_with fail;have hx7:=Go.Deep.blk_alloc_new w (.cells #[.int .i64 s.k.enc,.bool false,.string s.k.body] 99);have hb7:Below w.heap.size w (w.alloc (.cells #[.int .i64 s.k.enc,.bool false,.string s.k.body] 99)):=Z7 _ _;have H7:=Z1 (HH.o.low hb7);have HW7:=Z1 (Turn.of_below (F:=G) hb7);clear c0 c1 c2 hzr hb7 HH;generalize w.alloc (.cells #[.int .i64 s.k.enc,.bool false,.string s.k.body] 99)=w7 at *;generalize w.heap.size=X at hx7 ⊢;have x0:=C0 hx7;have x1:=C1 hx7;have x2:=C2 hx7;have hz7:=Z3 x0;have hzr7:=(H7.o.ty H7.o.self).2.1;clear hx7
   go_region_with
    (first
     |(have _hq:=hof;go_at_call 150;refine (CH.o _ ((H7.o.low (((Below.refl _ _).drew).trans hby)).low hof)).mono ?_;rintro e w9 ⟨rfl,G9,hr9,ht9⟩)
     |(have _hq:=hby;go_at_call 42;refine (OF.o _).mono ?_;rintro e w8 ⟨rfl,hof⟩)
     |(go_at_call 75;refine (BY.o _).mono ?_;rintro e w6 ⟨rfl,hby⟩;have x0b:w6.cell? ⟨X,0,none⟩=some (.int .i64 s.k.enc):=(hby.cell (p:=⟨X,0,none⟩) hz7).trans x0)
     |fail)
   all_goals
    have HR9:=Z1 hr9;have HT9:=Z1 (HW7.o.trans ((Turn.of_below (((Below.refl _ _).drew).trans hby)).trans ((Turn.of_below hof).trans ht9)));clear hr9 ht9 hby hof x0 x1 x2 hz7 hzr7 H7 HW7;go_wp2_with fail;go_ret;exact⟨rfl,G9,HR9.o,HT9.o⟩
 exact key.mono fun e w' ⟨h1,G',h2,h3⟩=>⟨by rw[HE.o];exact h1,G',by rw[HE.o,<-HKE.o];exact h2,h3⟩
theorem Tn.drewn {b:Nat} (h:Tn b w w'):Tn b w w'.drew:=⟨h.os,h.tape,h.output,h.size,h.keep⟩
theorem QkW (B r:Nat) (s:St) (vo vb:Value) (l:List Kp) (z:Kp) (w:World) (h:RHs B w r s vo vb) (hl:s.O=l++[z]) (hO:s.O.length+s.U.length<=30) :
  Calls prog 124 #[.pointer (some ⟨r,0,none⟩)] w fun e w'=>e=.returned (.int .i64 0)/\∃vo' vb',RHs B w' r ⟨z,l,s.U++[s.k]⟩ vo' vb'/\Turn (fp r vo vb) (fp r vo' vb') w w':=by
 obtain⟨qa,ca,hva,hca,_⟩:=h.hb.val
 obtain⟨n,hn⟩:∃n,n=l.length:=⟨_,rfl⟩
 obtain⟨N,hN⟩:∃N,N=n+1:=⟨_,rfl⟩
 have hlen:s.O.length=N:=by rw[hl,List.length_append,List.length_singleton,hN,hn]
 have hle:s.U.length<=30:=by omega
 have hn30:n<=29:=by omega
 obtain⟨g,o,cap,hvr,hcap,hcm,hg⟩:∃g o cap,vo=.slice (some ⟨g,o,none⟩) N cap/\N<=cap/\cap<=9223372036854775807/\g<w.heap.size:=by
  rcases h.ho with ⟨_,q⟩|⟨g,o,cap,cur,e1,_,e3,_,e5,e6,_⟩
  ·rw[q] at hlen;simp at hlen;omega
  rw[hlen] at e1 e5;exact⟨g,o,cap,e1,e5,e6,Z4 e3⟩
 subst hva hvr
 have hkr:Kr B w (.slice (some ⟨g,o,none⟩) (l++[z]).length cap) (l++[z]):=by
  have:=h.ho;rw[hl] at this;rw[List.length_append,List.length_singleton,<-hn,<-hN];exact this
 obtain⟨z0,z1,z2⟩:=hkr.cell (j:=n) (k:=z) (by rw[hn];simp)
 have hki:Kr B w (.slice (some ⟨g,o,none⟩) n cap) l:=by rw[hn];exact hkr.init
 have hz1:r<w.heap.size:=Z4 h.blk
 have c0:=C0 h.blk
 have c1:=C1 h.blk
 have c2:=C2 h.blk
 have c4:=C4 h.blk
 have c3:=C3 h.blk
 have fc:=fun j=>Lib.frozen_of_heap h.blk j
 have hrB:=h.rB
 have hWW:Below w.heap.size w (w.alloc (.cells (kc s.k).toArray 99)).drew:=(Z7 _ _).drew
 obtain⟨v',w2,hrun,hk,hst,hat⟩:=QdU 101 B (.slice qa s.U.length ca) s.U s.k (w.alloc (.cells (kc s.k).toArray 99)).drew ⟨w.heap.size,0,none⟩ 1 (h.hb.low (fun g hg=>hWW.block g (h.hb.lt hg).2.1)) (QaI w (kc s.k) 99) (by omega) (by have:=hWW.size;omega)
 obtain⟨q',cap',rfl,hcap',hcm'⟩:∃q' cap',v'=.slice q' (s.U.length+1) cap'/\s.U.length+1<=cap'/\cap'<=maxLen:=by
  obtain⟨q',cap',e1,e2,e3⟩:=hk.val;rw[List.length_append,List.length_singleton] at e1 e2;exact⟨q',cap',e1,e2,e3⟩
 have hnr:=h.nr
 have hgr:g≠r:=fun e=>hnr.1 (by rw[<-e];rfl)
 have hga:wblk (Value.slice qa s.U.length ca)≠some g:=fun e=>h.ne g rfl e
 have hb2:w2.heap[r]?=some (.cells #[.int .i64 s.k.enc,.bool s.k.mark,.string s.k.body,.slice (some ⟨g,o,none⟩) N cap,.slice qa s.U.length ca] 103):=by
  rw[hst.keep r (by have:=hWW.size;omega) hnr.2,hWW.block r hz1];exact h.blk
 have hbg:w2.heap[g]?=w.heap[g]?:=by rw[hst.keep g (by have:=hWW.size;omega) hga,hWW.block g hg]
 have d0:=C0 hb2
 have d1:=C1 hb2
 have d2:=C2 hb2
 have d4:=C4 hb2
 have d3:=C3 hb2
 have y0:w2.cell? ⟨g,o+n * 3,none⟩=some (.int .i64 z.enc):=(World.cell?_of_block (w:=w) (a:=⟨g,o+n * 3,none⟩) hbg).trans z0
 have y1:w2.cell? ⟨g,o+n * 3+1,none⟩=some (.bool z.mark):=(World.cell?_of_block (w:=w) (a:=⟨g,o+n * 3+1,none⟩) hbg).trans z1
 have y2:w2.cell? ⟨g,o+n * 3+2,none⟩=some (.string z.body):=(World.cell?_of_block (w:=w) (a:=⟨g,o+n * 3+2,none⟩) hbg).trans z2
 have hyz:=Z3 y0
 have fd:=fun j=>Lib.frozen_of_heap hb2 j
 have hz2:=Z3 d0
 have HFIN:=Z1 (fun F (ht:Tn r w2 F) (hF:F.heap[r]?=some (.cells #[.int .i64 z.enc,.bool z.mark,.string z.body,.slice (some ⟨g,o,none⟩) n cap,.slice q' (s.U.length+1) cap'] 103))=>Qog (z:=z) (F:=F) (v':=.slice (some ⟨g,o,none⟩) n cap) h hWW hst hat rfl hk hki ht hF)
 have HB2:=Z1 hb2
 have HY:=Z1 (fun (W:World) (ht:Tn r w2 W)=>show W.cell? ⟨g,o+n * 3,none⟩=some (.int .i64 z.enc)/\W.cell? ⟨g,o+n * 3+1,none⟩=some (.bool z.mark)/\W.cell? ⟨g,o+n * 3+2,none⟩=some (.string z.body) from
  have e:=ht.keep g hyz hgr
  ⟨(World.cell?_of_block (w:=w2) (a:=⟨g,o+n * 3,none⟩) e).trans y0,(World.cell?_of_block (w:=w2) (a:=⟨g,o+n * 3+1,none⟩) e).trans y1,(World.cell?_of_block (w:=w2) (a:=⟨g,o+n * 3+2,none⟩) e).trans y2⟩)
 have hmo:prog.follows Departure.mixedOrders=true:=by kernel_rfl
 have hwr:IntKind.i64.wrap ((N:Int) - 1)=(n:Int):=by rw[IntKind.wrap_i64];omega
 have hne0:¬(N:Int)=0:=by omega
 have hneb:((N:Int)==0)=false:=by simpa using hne0
 have hnN:(n:Int)<(N:Int):=by omega
 have hnc:(n:Int)<=(cap:Int):=by omega
 unfold kc at hrun
 clear h hl hlen hkr hki hk hst hat hb2 hbg hWW hnr hO hn z0 z1 z2 hga hN
 generalize s.U.length=m at *
 go_enter func124,ntmps124
 go_wp2_with fail
 go_cut [] from 4 to 21 (fun wx=>Tn r w2 wx/\wx.heap[r]?=some (.cells #[.int .i64 s.k.enc,.bool s.k.mark,.string s.k.body,.slice (some ⟨g,o,none⟩) N cap,.slice q' (m+1) cap'] 103))
 case first =>
  go_region_law (refine Qat rfl _ _ _ _ rfl _ _ rfl rfl _ _ hrun ?_)
  all_goals
   clear hrun c0 c1 c2 c3 c4 fc;go_wp2_with fail;go_meet;exact⟨(Tn.refl r w2).setCell _,Qan HB2.o _⟩
 case rest =>
  obtain⟨ht1,hb1⟩:=hcut;clear hrun c0 c1 c2 c3 c4 fc d0 d1 d2 d3 d4 fd y0 y1 y2 HB2 hyz hz1 hz2;obtain⟨y0,y1,y2⟩:=HY.o _ ht1;have e0:=C0 hb1;have e1:=C1 hb1;have e2:=C2 hb1;have e3:=C3 hb1;have fe:=fun j=>Lib.frozen_of_heap hb1 j;have hze:=Z3 e0;have hzg:=Z3 y0;have HT1:=Z1 ht1;have HB1:=Z1 hb1;clear ht1 hb1;go_wp2_with fail;go_cut [] from 22 to 36 (fun wx=>Tn r w2 wx/\wx.heap[r]?=some (.cells #[.int .i64 z.enc,.bool z.mark,.string z.body,.slice (some ⟨g,o,none⟩) N cap,.slice q' (m+1) cap'] 103))
  case first =>
   go_region_with (fail)
   all_goals
    go_wp2_with fail;go_meet;exact⟨((HT1.o.drewn.setCell _).setCell _).setCell _,Qan (Qan (Qan (show wc.drew.heap[r]?=_ from HB1.o) _) _) _⟩
  case rest =>
   obtain⟨ht3,hb3⟩:=hcut;clear e0 e1 e2 e3 fe hze hzg y0 y1 y2 HT1 HB1 HY;rename World=>wd
   have e3:=C3 hb3;have fe:=fun j=>Lib.frozen_of_heap hb3 j;have hze:=Z3 e3;have HT3:=Z1 ht3;have HB3:=Z1 hb3;clear ht3 hb3;go_wp2_with fail;go_region_with (fail)
   all_goals
    go_wp2_with fail;go_ret;have hf:=HFIN.o (wd.drew.setCell ⟨r,3,none⟩ (.slice (some ⟨g,o,none⟩) n cap)) (HT3.o.drewn.setCell _) (Qan (show wd.drew.heap[r]?=_ from HB3.o) _);exact⟨rfl,_,_,hf.1,hf.2⟩
theorem Qma (B r:Nat) (s:St) (vo vb:Value) (l:List Kp) (z:Kp) (w:World) (h:RHs B w r s vo vb) (hl:s.U=l++[z]) (hO:s.O.length+s.U.length<=30) :
  Calls prog 125 #[.pointer (some ⟨r,0,none⟩)] w fun e w'=>e=.returned (.int .i64 0)/\∃vo' vb',RHs B w' r ⟨z,s.O++[s.k],l⟩ vo' vb'/\Turn (fp r vo vb) (fp r vo' vb') w w':=by
 obtain⟨qa,ca,hva,hca,_⟩:=h.ho.val
 obtain⟨n,hn⟩:∃n,n=l.length:=⟨_,rfl⟩
 obtain⟨N,hN⟩:∃N,N=n+1:=⟨_,rfl⟩
 have hlen:s.U.length=N:=by rw[hl,List.length_append,List.length_singleton,hN,hn]
 have hle:s.O.length<=30:=by omega
 have hn30:n<=29:=by omega
 obtain⟨g,o,cap,hvr,hcap,hcm,hg⟩:∃g o cap,vb=.slice (some ⟨g,o,none⟩) N cap/\N<=cap/\cap<=9223372036854775807/\g<w.heap.size:=by
  rcases h.hb with ⟨_,q⟩|⟨g,o,cap,cur,e1,_,e3,_,e5,e6,_⟩
  ·rw[q] at hlen;simp at hlen;omega
  rw[hlen] at e1 e5;exact⟨g,o,cap,e1,e5,e6,Z4 e3⟩
 subst hva hvr
 have hkr:Kr B w (.slice (some ⟨g,o,none⟩) (l++[z]).length cap) (l++[z]):=by
  have:=h.hb;rw[hl] at this;rw[List.length_append,List.length_singleton,<-hn,<-hN];exact this
 obtain⟨z0,z1,z2⟩:=hkr.cell (j:=n) (k:=z) (by rw[hn];simp)
 have hki:Kr B w (.slice (some ⟨g,o,none⟩) n cap) l:=by rw[hn];exact hkr.init
 have hz1:r<w.heap.size:=Z4 h.blk
 have c0:=C0 h.blk
 have c1:=C1 h.blk
 have c2:=C2 h.blk
 have c3:=C3 h.blk
 have c4:=C4 h.blk
 have fc:=fun j=>Lib.frozen_of_heap h.blk j
 have hrB:=h.rB
 have hWW:Below w.heap.size w (w.alloc (.cells (kc s.k).toArray 99)).drew:=(Z7 _ _).drew
 obtain⟨v',w2,hrun,hk,hst,hat⟩:=QdU 101 B (.slice qa s.O.length ca) s.O s.k (w.alloc (.cells (kc s.k).toArray 99)).drew ⟨w.heap.size,0,none⟩ 1 (h.ho.low (fun g hg=>hWW.block g (h.ho.lt hg).2.1)) (QaI w (kc s.k) 99) (by omega) (by have:=hWW.size;omega)
 obtain⟨q',cap',rfl,hcap',hcm'⟩:∃q' cap',v'=.slice q' (s.O.length+1) cap'/\s.O.length+1<=cap'/\cap'<=maxLen:=by
  obtain⟨q',cap',e1,e2,e3⟩:=hk.val;rw[List.length_append,List.length_singleton] at e1 e2;exact⟨q',cap',e1,e2,e3⟩
 have hnr:=h.nr
 have hgr:g≠r:=fun e=>hnr.2 (by rw[<-e];rfl)
 have hga:wblk (Value.slice qa s.O.length ca)≠some g:=fun e=>h.ne g e rfl
 have hb2:w2.heap[r]?=some (.cells #[.int .i64 s.k.enc,.bool s.k.mark,.string s.k.body,.slice qa s.O.length ca,.slice (some ⟨g,o,none⟩) N cap] 103):=by
  rw[hst.keep r (by have:=hWW.size;omega) hnr.1,hWW.block r hz1];exact h.blk
 have hbg:w2.heap[g]?=w.heap[g]?:=by rw[hst.keep g (by have:=hWW.size;omega) hga,hWW.block g hg]
 have d0:=C0 hb2
 have d1:=C1 hb2
 have d2:=C2 hb2
 have d3:=C3 hb2
 have d4:=C4 hb2
 have y0:w2.cell? ⟨g,o+n * 3,none⟩=some (.int .i64 z.enc):=(World.cell?_of_block (w:=w) (a:=⟨g,o+n * 3,none⟩) hbg).trans z0
 have y1:w2.cell? ⟨g,o+n * 3+1,none⟩=some (.bool z.mark):=(World.cell?_of_block (w:=w) (a:=⟨g,o+n * 3+1,none⟩) hbg).trans z1
 have y2:w2.cell? ⟨g,o+n * 3+2,none⟩=some (.string z.body):=(World.cell?_of_block (w:=w) (a:=⟨g,o+n * 3+2,none⟩) hbg).trans z2
 have hyz:=Z3 y0
 have fd:=fun j=>Lib.frozen_of_heap hb2 j
 have hz2:=Z3 d0
 have HFIN:=Z1 (fun F (ht:Tn r w2 F) (hF:F.heap[r]?=some (.cells #[.int .i64 z.enc,.bool z.mark,.string z.body,.slice q' (s.O.length+1) cap',.slice (some ⟨g,o,none⟩) n cap] 103))=>QoG (z:=z) (F:=F) (v':=.slice (some ⟨g,o,none⟩) n cap) h hWW hst hat rfl hk hki ht hF)
 have HB2:=Z1 hb2
 have HY:=Z1 (fun (W:World) (ht:Tn r w2 W)=>show W.cell? ⟨g,o+n * 3,none⟩=some (.int .i64 z.enc)/\W.cell? ⟨g,o+n * 3+1,none⟩=some (.bool z.mark)/\W.cell? ⟨g,o+n * 3+2,none⟩=some (.string z.body) from
  have e:=ht.keep g hyz hgr
  ⟨(World.cell?_of_block (w:=w2) (a:=⟨g,o+n * 3,none⟩) e).trans y0,(World.cell?_of_block (w:=w2) (a:=⟨g,o+n * 3+1,none⟩) e).trans y1,(World.cell?_of_block (w:=w2) (a:=⟨g,o+n * 3+2,none⟩) e).trans y2⟩)
 have hmo:prog.follows Departure.mixedOrders=true:=by kernel_rfl
 have hwr:IntKind.i64.wrap ((N:Int) - 1)=(n:Int):=by rw[IntKind.wrap_i64];omega
 have hne0:¬(N:Int)=0:=by omega
 have hneb:((N:Int)==0)=false:=by simpa using hne0
 have hnN:(n:Int)<(N:Int):=by omega
 have hnc:(n:Int)<=(cap:Int):=by omega
 unfold kc at hrun
 clear h hl hlen hkr hki hk hst hat hb2 hbg hWW hnr hO hn z0 z1 z2 hga hN
 generalize s.O.length=m at *
 go_enter func125,ntmps125
 go_wp2_with fail
 go_cut [] from 4 to 21 (fun wx=>Tn r w2 wx/\wx.heap[r]?=some (.cells #[.int .i64 s.k.enc,.bool s.k.mark,.string s.k.body,.slice q' (m+1) cap',.slice (some ⟨g,o,none⟩) N cap] 103))
 case first =>
  go_region_law (refine Qat rfl _ _ _ _ rfl _ _ rfl rfl _ _ hrun ?_)
  all_goals
   clear hrun c0 c1 c2 c3 c4 fc;go_wp2_with fail;go_meet;exact⟨(Tn.refl r w2).setCell _,Qan HB2.o _⟩
 case rest =>
  obtain⟨ht1,hb1⟩:=hcut;clear hrun c0 c1 c2 c3 c4 fc d0 d1 d2 d3 d4 fd y0 y1 y2 HB2 hyz hz1 hz2;obtain⟨y0,y1,y2⟩:=HY.o _ ht1;have e0:=C0 hb1;have e1:=C1 hb1;have e2:=C2 hb1;have e4:=C4 hb1;have fe:=fun j=>Lib.frozen_of_heap hb1 j;have hze:=Z3 e0;have hzg:=Z3 y0;have HT1:=Z1 ht1;have HB1:=Z1 hb1;clear ht1 hb1;go_wp2_with fail;go_cut [] from 22 to 36 (fun wx=>Tn r w2 wx/\wx.heap[r]?=some (.cells #[.int .i64 z.enc,.bool z.mark,.string z.body,.slice q' (m+1) cap',.slice (some ⟨g,o,none⟩) N cap] 103))
  case first =>
   go_region_with (fail)
   all_goals
    go_wp2_with fail;go_meet;exact⟨((HT1.o.drewn.setCell _).setCell _).setCell _,Qan (Qan (Qan (show wc.drew.heap[r]?=_ from HB1.o) _) _) _⟩
  case rest =>
   obtain⟨ht3,hb3⟩:=hcut;clear e0 e1 e2 e4 fe hze hzg y0 y1 y2 HT1 HB1 HY;rename World=>wd
   have e4:=C4 hb3;have fe:=fun j=>Lib.frozen_of_heap hb3 j;have hze:=Z3 e4;have HT3:=Z1 ht3;have HB3:=Z1 hb3;clear ht3 hb3;go_wp2_with fail;go_region_with (fail)
   all_goals
    go_wp2_with fail;go_ret;have hf:=HFIN.o (wd.drew.setCell ⟨r,4,none⟩ (.slice (some ⟨g,o,none⟩) n cap)) (HT3.o.drewn.setCell _) (Qan (show wd.drew.heap[r]?=_ from HB3.o) _);exact⟨rfl,_,_,hf.1,hf.2⟩
theorem Qm2 (B r:Nat) (s:St) (vo vb:Value) (w:World) (h:RHs B w r s vo vb) (hl:s.O=[]) :
  Calls prog 124 #[.pointer (some ⟨r,0,none⟩)] w fun e w'=>e=.returned (.int .i64 8)/\w'=w:=by
 obtain⟨q,cap,hv,_⟩:=h.ho.val
 rw[hl] at hv
 subst hv
 have c:=C3 h.blk
 have hz:=Z3 c
 clear h hl
 go_enter func124,ntmps124
 go_wp2_with fail
 go_ret
 exact⟨rfl,rfl⟩
theorem QmQ (B r:Nat) (s:St) (vo vb:Value) (w:World) (h:RHs B w r s vo vb) (hl:s.U=[]) :
  Calls prog 125 #[.pointer (some ⟨r,0,none⟩)] w fun e w'=>e=.returned (.int .i64 9)/\w'=w:=by
 obtain⟨q,cap,hv,_⟩:=h.hb.val
 rw[hl] at hv
 subst hv
 have c:=C4 h.blk
 have hz:=Z3 c
 clear h hl
 go_enter func125,ntmps125
 go_wp2_with fail
 go_ret
 exact⟨rfl,rfl⟩
theorem rUnd (B r:Nat) (s:St) (G:Nat->Prop) (M:Nat) (w:World) (h:RH B w r s G) (hg:s.Good M) :
  Calls prog 124 #[.pointer (some ⟨r,0,none⟩)] w fun e w'=>e=.returned (.int .i64 s.und.1)/\∃G',RH B w' r s.und.2 G'/\Turn G G' w w':=by
 obtain⟨vo,vb,h1,rfl⟩:=h
 unfold St.und
 cases ho:s.O.getLast? with
 |none =>
  have he:s.O=[]:=List.getLast?_eq_none_iff.1 ho;exact (Qm2 B r s vo vb w h1 he).mono fun e w' ⟨he,hw⟩=>⟨he,_,⟨vo,vb,by rw[hw];exact h1,rfl⟩,by rw[hw];exact Turn.refl _ _⟩
 |some z =>
  exact (QkW B r s vo vb s.O.dropLast z w h1 (Qc6 ho) hg.len).mono fun e w' ⟨he,vo',vb',h2,h3⟩=>⟨he,_,⟨vo',vb',h2,rfl⟩,h3⟩
theorem rRed (B r:Nat) (s:St) (G:Nat->Prop) (M:Nat) (w:World) (h:RH B w r s G) (hg:s.Good M) :
  Calls prog 125 #[.pointer (some ⟨r,0,none⟩)] w fun e w'=>e=.returned (.int .i64 s.red.1)/\∃G',RH B w' r s.red.2 G'/\Turn G G' w w':=by
 obtain⟨vo,vb,h1,rfl⟩:=h
 unfold St.red
 cases ho:s.U.getLast? with
 |none =>
  have he:s.U=[]:=List.getLast?_eq_none_iff.1 ho;exact (QmQ B r s vo vb w h1 he).mono fun e w' ⟨he,hw⟩=>⟨he,_,⟨vo,vb,by rw[hw];exact h1,rfl⟩,by rw[hw];exact Turn.refl _ _⟩
 |some z =>
  exact (Qma B r s vo vb s.U.dropLast z w h1 (Qc6 ho) hg.len).mono fun e w' ⟨he,vo',vb',h2,h3⟩=>⟨he,_,⟨vo',vb',h2,rfl⟩,h3⟩
def PX (B:Nat) (w:World) (x:Nat) (s:St) (K:Nat->Prop):Prop :=
 ∃p r F G,w.heap[x]?=some (.cells #[.pointer (some ⟨p,0,none⟩),.pointer (some ⟨r,0,none⟩)] 46)/\B<=x/\EH B w p s F/\RH B w r s G/\∀i,K i↔(i=x\/F i\/G i)
section
variable {B:Nat} {w w' w1 w2:World} {x p r:Nat} {s s':St} {F F' G G' K:Nat->Prop}
theorem eh_rh (he:EH B w p s F) (hr:RH B w r s' G) (h1:F i) (h2:G i):False:=by
 have a:=(he.ty h1).2.2;have b:=(hr.ty h2).2.2;rcases a with a|a<;>rcases b with b|b<;>(rw[a] at b;exact absurd (Option.some.inj b) (by decide))
theorem eh_px (he:EH B w p s F) (hx:w.heap[x]?=some (.cells o 46)):¬F x:=by
 intro h;have b:tyAt w x=some 46:=by unfold tyAt;rw[hx]
 rcases (he.ty h).2.2 with a|a<;>(rw[a] at b;exact absurd (Option.some.inj b) (by decide))
theorem rh_px (hr:RH B w r s G) (hx:w.heap[x]?=some (.cells o 46)):¬G x:=by
 intro h;have b:tyAt w x=some 46:=by unfold tyAt;rw[hx]
 rcases (hr.ty h).2.2 with a|a<;>(rw[a] at b;exact absurd (Option.some.inj b) (by decide))
theorem PX.low (h:PX B w x s K) (hb:Below w.heap.size w w'):PX B w' x s K:=by
 obtain⟨p,r,F,G,h1,h2,h3,h4,h5⟩:=h;exact⟨p,r,F,G,(hb.block x (Z4 h1)).trans h1,h2,h3.low hb,h4.low hb,h5⟩
theorem PX.ty (h:PX B w x s K) (hi:K i):B<=i/\i<w.heap.size/\NoNd w i:=by
 obtain⟨p,r,F,G,h1,h2,h3,h4,h5⟩:=h;rcases (h5 i).1 hi with rfl|q|q
 ·refine⟨h2,Z4 h1,?_⟩;have b:tyAt w i=some 46:=by unfold tyAt;rw[h1]
  unfold NoNd;rw[b];exact⟨fun e=>absurd (Option.some.inj e) (by decide),fun e=>absurd (Option.some.inj e) (by decide)⟩
 ·exact⟨(h3.ty q).1,(h3.ty q).2.1,h3.nd q⟩
 exact⟨(h4.ty q).1,(h4.ty q).2.1,h4.nd q⟩
theorem PX.turn {H H':Nat->Prop} (h:PX B w x s K) (ht:Turn H H' w w') (hd:∀i,H i->¬K i) (hn:∀i,H i->NoNd w i):PX B w' x s K:=by
 obtain⟨p,r,F,G,h1,h2,h3,h4,h5⟩:=h;exact⟨p,r,F,G,(ht.keep x (Z4 h1) (fun e=>hd x e ((h5 x).2 (.inl rfl)))).trans h1,h2,h3.turn ht (fun i hi hf=>hd i hi ((h5 i).2 (.inr (.inl hf)))) hn,h4.turn ht (fun i hi hf=>hd i hi ((h5 i).2 (.inr (.inr hf)))),h5⟩
theorem Qgd (hx:w.heap[x]?=some (.cells o 46)) (he:EH B w p s F) (hr:RH B w r s' G) (t1:Turn F F' w w1):w1.heap[x]?=some (.cells o 46)/\RH B w1 r s' G :=
 ⟨(t1.keep x (Z4 hx) (eh_px he hx)).trans hx,hr.turn t1 (fun _ h1 h2=>eh_rh he hr h1 h2)⟩
theorem Qgq (hK:∀i,K i↔(i=x\/F i\/G i)) (hx:w1.heap[x]?=some (.cells #[.pointer (some ⟨p,0,none⟩),.pointer (some ⟨r,0,none⟩)] 46)) (hB:B<=x) (he1:EH B w1 p s' F') (t1:Turn F F' w w1) (hr1:RH B w1 r s G) (hr2:RH B w2 r s' G') (t2:Turn G G' w1 w2):∃K',PX B w2 x s' K'/\Turn K K' w w2:=by
 refine⟨fun i=>i=x\/F' i\/G' i,⟨p,r,F',G',(t2.keep x (Z4 hx) (rh_px hr1 hx)).trans hx,hB,he1.turn t2 (fun _ h1 h2=>eh_rh he1 hr1 h2 h1) (fun _ h=>hr1.nd h),hr2,fun i=>Iff.rfl⟩,?_⟩;have hs1:=t1.size;have hs2:=t2.size;refine⟨t2.os.trans t1.os,t2.tape.trans t1.tape,t2.output.trans t1.output,by omega,fun i h1 h2=>?_,fun i hi=>?_⟩
 ·rw[t2.keep i (by omega) (fun e=>h2 ((hK i).2 (.inr (.inr e)))),t1.keep i h1 (fun e=>h2 ((hK i).2 (.inr (.inl e))))]
 rcases hi with rfl|q|q
 ·exact .inl ((hK _).2 (.inl rfl))
 ·rcases t1.new i q with e|e
  ·exact .inl ((hK _).2 (.inr (.inl e)))
  exact .inr e
 rcases t2.new i q with e|e
 ·exact .inl ((hK _).2 (.inr (.inr e)))
 exact .inr (by omega)
end
def St.op (s:St) (kind a b:Int) (S:ByteArray):Int × St :=
 if kind=1 then s.rpl a b S else if kind=2 then s.mrk (decide (0<a)) else if kind=3 then s.eds a else if kind=4 then s.cod a else if kind=5 then s.und else if kind=6 then s.red else (0,s)
theorem St.Good.op {kind a b:Int} {S:ByteArray} (h:s.Good M):(s.op kind a b S).2.Good (M+8 * S.size):=by
 unfold St.op
 repeat' split
 ·exact h.rpl
 ·exact h.mrk.mono (by omega)
 ·exact h.eds.mono (by omega)
 ·exact h.cod.mono (by omega)
 ·exact h.und.mono (by omega)
 ·exact h.red.mono (by omega)
 exact h.mono (by omega)
theorem apiX :ApiL Tabs DD:={ api with position:=docPosition,offset:=docOffset }
theorem PX.looked {x:Nat} (h:PX B w x s K) (ht:Tabs w) (hg:s.Good M) (hM:M<=1000000000) :
  Calls prog 15 #[.pointer (some ⟨x,0,none⟩)] w fun e w'=>e=.returned (.bool true)/\Below w.heap.size w w':=by
 obtain⟨p,r,F,G,h1,h2,h3,h4,h5⟩:=h
 have hb:=QaZ hg
 exact QkM api x p r _ _ _ w ht (by rw[Lib.cell_of_heap h1];rfl) (by rw[Lib.cell_of_heap h1];rfl) (h3.dd (by omega)) h4.doc (by omega) hg.now.1.h0 hg.now.1.h3
theorem PX.placed {x:Nat} (h:PX B w x s K) (ht:Tabs w) (hg:s.Good M) (hM:M<=1000000000) (o line col:Int) :
  Calls prog 83 #[.pointer (some ⟨x,0,none⟩),.int .i64 o,.int .i64 line,.int .i64 col] w fun e w'=>e=.returned (.bool true)/\Below w.heap.size w w':=by
 obtain⟨p,r,F,G,h1,h2,h3,h4,h5⟩:=h
 have hb:=QaZ hg
 exact Qkw apiX x p r _ _ _ o line col w ht (by rw[Lib.cell_of_heap h1];rfl) (by rw[Lib.cell_of_heap h1];rfl) (h3.dd (by omega)) h4.doc (by omega) hg.now.1.h0 hg.now.1.h3
theorem Qm4 (B x:Nat) (s:St) (K:Nat->Prop) (M:Nat) (a b c:Int) (S:ByteArray) (w:World) (ht:TabA w) (h:PX B w x s K) (hg:s.Good M) (hM:M+S.size<=1000000000) :
  Calls prog 84 #[.pointer (some ⟨x,0,none⟩),.agg #[.int .i64 1,.int .i64 a,.int .i64 b,.int .i64 c,.string S]] w fun e w'=>e=.returned (.bool true)/\∃K',PX B w' x (s.op 1 a b S).2 K'/\Turn K K' w w':=by
 have hop:s.op 1 a b S=(s.rpl a b S):=by unfold St.op;rw[if_pos rfl]
 rw[hop]
 obtain⟨p,r,F,G,h1,h2,h3,h4,h5⟩:=h
 have hw1:Below w.heap.size w (w.alloc (.cells #[.int .i64 1,.int .i64 a,.int .i64 b,.int .i64 c,.string S] 55)).drew:=(Z7 _ _).drew
 have hmo:prog.follows Departure.mixedOrders=true:=by kernel_rfl
 have P:=Z1 (eRpl B p s F M _ a b S (ht.below hw1) (h3.low hw1) hg hM)
 have R:=Z1 (fun W (h:RH B W r s G)=>rRpl B r s G M W a b S h hg hM)
 obtain⟨V,hV⟩:∃V,V=(s.rpl a b S):=⟨_,rfl⟩
 rw[<-hV] at P R ⊢
 clear hV hop
 obtain⟨v1,s1⟩:=V
 simp only at P R
 have HX:=Z1 (show w.heap[x]?=_ from h1)
 have HE:=Z1 h3
 have HR:=Z1 h4
 have HW:=Z1 hw1
 have c0:=C0 h1
 have hz:=Z3 c0
 clear h1 h3 h4 hw1 ht
 go_enter func84,ntmps84
 go_wp2_with fail
 have hC0:=Go.Deep.blk_alloc_new w (.cells #[.int .i64 1,.int .i64 a,.int .i64 b,.int .i64 c,.string S] 55)
 have hx0:(w.alloc (.cells #[.int .i64 1,.int .i64 a,.int .i64 b,.int .i64 c,.string S] 55)).heap[x]?=w.heap[x]?:=Below.heap_alloc _ _ _ hz
 have c0':=C0 (hx0.trans HX.o)
 have o1:=C1 hC0
 have o2:=C2 hC0
 have o4:=C4 hC0
 have hsz:(w.alloc (.cells #[.int .i64 1,.int .i64 a,.int .i64 b,.int .i64 c,.string S] 55)).heap.size=w.heap.size+1:=World.size_alloc _ _
 have HC0:=Z1 hC0
 have HSZ:=Z1 hsz
 clear c0 hx0 hC0 hsz
 generalize w.alloc (.cells #[.int .i64 1,.int .i64 a,.int .i64 b,.int .i64 c,.string S] 55)=W0 at *
 refine wp_region_still_tail 10 hmo (by kernel_rfl) ?_
 simp only[List.take_succ_cons,List.take_zero,List.drop_succ_cons,List.drop_zero]
 repeat still_step
 refine wpStill_nil ?_
 go_wp2_with fail
 refine P.o.mono ?_
 rintro e w1 ⟨rfl,F1,he1,t1⟩
 have hx':=(HW.o.block x (Z4 HX.o)).trans HX.o
 obtain⟨hx1,hr1⟩:=Qgd hx' (HE.o.low HW.o) (HR.o.low HW.o) t1
 have hC1:w1.heap[w.heap.size]?=some (.cells #[.int .i64 1,.int .i64 a,.int .i64 b,.int .i64 c,.string S] 55):=(t1.keep w.heap.size (by rw[World.size_drew,HSZ.o];omega) (fun q=>by have:=(HE.o.ty q).2.1;omega)).trans (HC0.o)
 have hd1:=(Below.refl w1.heap.size w1).drew
 have R1:=Z1 (R.o w1.drew (hr1.low hd1))
 have HX1:=Z1 hx1
 have HR1:=Z1 hr1
 have HE1:=Z1 he1
 have HT1:=Z1 t1
 have HD1:=Z1 (Turn.of_below (F:=G) hd1)
 clear hd1
 have HT0:=Z1 (Turn.of_below (F:=F) HW.o)
 have c1:=C1 hx1
 have k0:=C0 hC1
 have k1:=C1 hC1
 have k2:=C2 hC1
 have k4:=C4 hC1
 have hz1:=Z3 c1
 have hz2:=Z3 k0
 clear P R HX HE HR HW hx' hx1 hr1 he1 t1 hC1 c0' o1 o2 o4 hz
 go_wp2_with fail
 refine wp_region_still_tail 10 hmo (by kernel_rfl) ?_
 simp only[List.take_succ_cons,List.take_zero,List.drop_succ_cons,List.drop_zero]
 repeat still_step
 refine wpStill_nil ?_
 go_wp2_with fail
 refine R1.o.mono ?_
 rintro e w2 ⟨rfl,G1,hr2,t2⟩
 have HF:=Z1 (Qgq h5 HX1.o h2 HE1.o (HT0.o.trans HT1.o) HR1.o hr2 (HD1.o.trans t2))
 clear R1 HX1 HR1 HE1 HT1 HT0 c1 k0 k1 k2 k4 hz1 hz2 hr2 t2
 clear HD1 hmo
 go_wp2_with fail
 go_ret
 exact⟨rfl,HF.o⟩
theorem Qnw (B x:Nat) (s:St) (K:Nat->Prop) (M:Nat) (a b c:Int) (S:ByteArray) (w:World) (ht:TabA w) (h:PX B w x s K) (hg:s.Good M) (hM:M+S.size<=1000000000) :
  Calls prog 84 #[.pointer (some ⟨x,0,none⟩),.agg #[.int .i64 2,.int .i64 a,.int .i64 b,.int .i64 c,.string S]] w fun e w'=>e=.returned (.bool true)/\∃K',PX B w' x (s.op 2 a b S).2 K'/\Turn K K' w w':=by
 have hop:s.op 2 a b S=(s.mrk (decide (0<a))):=by unfold St.op;rw[if_neg (by decide),if_pos rfl]
 rw[hop]
 obtain⟨p,r,F,G,h1,h2,h3,h4,h5⟩:=h
 have hw1:Below w.heap.size w (w.alloc (.cells #[.int .i64 2,.int .i64 a,.int .i64 b,.int .i64 c,.string S] 55)).drew:=(Z7 _ _).drew
 have hmo:prog.follows Departure.mixedOrders=true:=by kernel_rfl
 have P:=Z1 (eMrk B p s F M _ (decide (0<a)) (ht.below hw1) (h3.low hw1) hg (by omega))
 have R:=Z1 (fun W (h:RH B W r s G)=>rMrk B r s G M W (decide (0<a)) h hg (by omega))
 obtain⟨V,hV⟩:∃V,V=(s.mrk (decide (0<a))):=⟨_,rfl⟩
 rw[<-hV] at P R ⊢
 clear hV hop
 obtain⟨v1,s1⟩:=V
 simp only at P R
 have HX:=Z1 (show w.heap[x]?=_ from h1)
 have HE:=Z1 h3
 have HR:=Z1 h4
 have HW:=Z1 hw1
 have c0:=C0 h1
 have hz:=Z3 c0
 clear h1 h3 h4 hw1 ht
 go_enter func84,ntmps84
 go_wp2_with fail
 have hC0:=Go.Deep.blk_alloc_new w (.cells #[.int .i64 2,.int .i64 a,.int .i64 b,.int .i64 c,.string S] 55)
 have hx0:(w.alloc (.cells #[.int .i64 2,.int .i64 a,.int .i64 b,.int .i64 c,.string S] 55)).heap[x]?=w.heap[x]?:=Below.heap_alloc _ _ _ hz
 have c0':=C0 (hx0.trans HX.o)
 have o1:=C1 hC0
 have o2:=C2 hC0
 have o4:=C4 hC0
 have hsz:(w.alloc (.cells #[.int .i64 2,.int .i64 a,.int .i64 b,.int .i64 c,.string S] 55)).heap.size=w.heap.size+1:=World.size_alloc _ _
 have HC0:=Z1 hC0
 have HSZ:=Z1 hsz
 clear c0 hx0 hC0 hsz
 generalize w.alloc (.cells #[.int .i64 2,.int .i64 a,.int .i64 b,.int .i64 c,.string S] 55)=W0 at *
 refine wp_region_still_tail 7 hmo (by kernel_rfl) ?_
 simp only[List.take_succ_cons,List.take_zero,List.drop_succ_cons,List.drop_zero]
 repeat still_step
 refine wpStill_nil ?_
 go_wp2_with fail
 refine P.o.mono ?_
 rintro e w1 ⟨rfl,F1,he1,t1⟩
 have hx':=(HW.o.block x (Z4 HX.o)).trans HX.o
 obtain⟨hx1,hr1⟩:=Qgd hx' (HE.o.low HW.o) (HR.o.low HW.o) t1
 have hC1:w1.heap[w.heap.size]?=some (.cells #[.int .i64 2,.int .i64 a,.int .i64 b,.int .i64 c,.string S] 55):=(t1.keep w.heap.size (by rw[World.size_drew,HSZ.o];omega) (fun q=>by have:=(HE.o.ty q).2.1;omega)).trans (HC0.o)
 have hd1:=(Below.refl w1.heap.size w1).drew
 have R1:=Z1 (R.o w1.drew (hr1.low hd1))
 have HX1:=Z1 hx1
 have HR1:=Z1 hr1
 have HE1:=Z1 he1
 have HT1:=Z1 t1
 have HD1:=Z1 (Turn.of_below (F:=G) hd1)
 clear hd1
 have HT0:=Z1 (Turn.of_below (F:=F) HW.o)
 have c1:=C1 hx1
 have k0:=C0 hC1
 have k1:=C1 hC1
 have k2:=C2 hC1
 have k4:=C4 hC1
 have hz1:=Z3 c1
 have hz2:=Z3 k0
 clear P R HX HE HR HW hx' hx1 hr1 he1 t1 hC1 c0' o1 o2 o4 hz
 go_wp2_with fail
 refine wp_region_still_tail 7 hmo (by kernel_rfl) ?_
 simp only[List.take_succ_cons,List.take_zero,List.drop_succ_cons,List.drop_zero]
 repeat still_step
 refine wpStill_nil ?_
 go_wp2_with fail
 refine R1.o.mono ?_
 rintro e w2 ⟨rfl,G1,hr2,t2⟩
 have HF:=Z1 (Qgq h5 HX1.o h2 HE1.o (HT0.o.trans HT1.o) HR1.o hr2 (HD1.o.trans t2))
 clear R1 HX1 HR1 HE1 HT1 HT0 c1 k0 k1 k2 k4 hz1 hz2 hr2 t2
 clear HD1 hmo
 go_wp2_with fail
 go_ret
 exact⟨rfl,HF.o⟩
theorem Qnf (B x:Nat) (s:St) (K:Nat->Prop) (M:Nat) (a b c:Int) (S:ByteArray) (w:World) (ht:TabA w) (h:PX B w x s K) (hg:s.Good M) (hM:M+S.size<=1000000000) :
  Calls prog 84 #[.pointer (some ⟨x,0,none⟩),.agg #[.int .i64 3,.int .i64 a,.int .i64 b,.int .i64 c,.string S]] w fun e w'=>e=.returned (.bool true)/\∃K',PX B w' x (s.op 3 a b S).2 K'/\Turn K K' w w':=by
 have hop:s.op 3 a b S=(s.eds a):=by unfold St.op;rw[if_neg (by decide),if_neg (by decide),if_pos rfl]
 rw[hop]
 obtain⟨p,r,F,G,h1,h2,h3,h4,h5⟩:=h
 have hw1:Below w.heap.size w (w.alloc (.cells #[.int .i64 3,.int .i64 a,.int .i64 b,.int .i64 c,.string S] 55)).drew:=(Z7 _ _).drew
 have hmo:prog.follows Departure.mixedOrders=true:=by kernel_rfl
 have P:=Z1 (eEds B p s F M _ a (ht.below hw1) (h3.low hw1) hg (by omega))
 have R:=Z1 (fun W (h:RH B W r s G)=>rEds B r s G M W a h hg (by omega))
 obtain⟨V,hV⟩:∃V,V=(s.eds a):=⟨_,rfl⟩
 rw[<-hV] at P R ⊢
 clear hV hop
 obtain⟨v1,s1⟩:=V
 simp only at P R
 have HX:=Z1 (show w.heap[x]?=_ from h1)
 have HE:=Z1 h3
 have HR:=Z1 h4
 have HW:=Z1 hw1
 have c0:=C0 h1
 have hz:=Z3 c0
 clear h1 h3 h4 hw1 ht
 go_enter func84,ntmps84
 go_wp2_with fail
 have hC0:=Go.Deep.blk_alloc_new w (.cells #[.int .i64 3,.int .i64 a,.int .i64 b,.int .i64 c,.string S] 55)
 have hx0:(w.alloc (.cells #[.int .i64 3,.int .i64 a,.int .i64 b,.int .i64 c,.string S] 55)).heap[x]?=w.heap[x]?:=Below.heap_alloc _ _ _ hz
 have c0':=C0 (hx0.trans HX.o)
 have o1:=C1 hC0
 have o2:=C2 hC0
 have o4:=C4 hC0
 have hsz:(w.alloc (.cells #[.int .i64 3,.int .i64 a,.int .i64 b,.int .i64 c,.string S] 55)).heap.size=w.heap.size+1:=World.size_alloc _ _
 have HC0:=Z1 hC0
 have HSZ:=Z1 hsz
 clear c0 hx0 hC0 hsz
 generalize w.alloc (.cells #[.int .i64 3,.int .i64 a,.int .i64 b,.int .i64 c,.string S] 55)=W0 at *
 refine wp_region_still_tail 6 hmo (by kernel_rfl) ?_
 simp only[List.take_succ_cons,List.take_zero,List.drop_succ_cons,List.drop_zero]
 repeat still_step
 refine wpStill_nil ?_
 go_wp2_with fail
 refine P.o.mono ?_
 rintro e w1 ⟨rfl,F1,he1,t1⟩
 have hx':=(HW.o.block x (Z4 HX.o)).trans HX.o
 obtain⟨hx1,hr1⟩:=Qgd hx' (HE.o.low HW.o) (HR.o.low HW.o) t1
 have hC1:w1.heap[w.heap.size]?=some (.cells #[.int .i64 3,.int .i64 a,.int .i64 b,.int .i64 c,.string S] 55):=(t1.keep w.heap.size (by rw[World.size_drew,HSZ.o];omega) (fun q=>by have:=(HE.o.ty q).2.1;omega)).trans (HC0.o)
 have hd1:=(Below.refl w1.heap.size w1).drew
 have R1:=Z1 (R.o w1.drew (hr1.low hd1))
 have HX1:=Z1 hx1
 have HR1:=Z1 hr1
 have HE1:=Z1 he1
 have HT1:=Z1 t1
 have HD1:=Z1 (Turn.of_below (F:=G) hd1)
 clear hd1
 have HT0:=Z1 (Turn.of_below (F:=F) HW.o)
 have c1:=C1 hx1
 have k0:=C0 hC1
 have k1:=C1 hC1
 have k2:=C2 hC1
 have k4:=C4 hC1
 have hz1:=Z3 c1
 have hz2:=Z3 k0
 clear P R HX HE HR HW hx' hx1 hr1 he1 t1 hC1 c0' o1 o2 o4 hz
 go_wp2_with fail
 refine wp_region_still_tail 6 hmo (by kernel_rfl) ?_
 simp only[List.take_succ_cons,List.take_zero,List.drop_succ_cons,List.drop_zero]
 repeat still_step
 refine wpStill_nil ?_
 go_wp2_with fail
 refine R1.o.mono ?_
 rintro e w2 ⟨rfl,G1,hr2,t2⟩
 have HF:=Z1 (Qgq h5 HX1.o h2 HE1.o (HT0.o.trans HT1.o) HR1.o hr2 (HD1.o.trans t2))
 clear R1 HX1 HR1 HE1 HT1 HT0 c1 k0 k1 k2 k4 hz1 hz2 hr2 t2
 clear HD1 hmo
 go_wp2_with fail
 go_ret
 exact⟨rfl,HF.o⟩
theorem QnD (B x:Nat) (s:St) (K:Nat->Prop) (M:Nat) (a b c:Int) (S:ByteArray) (w:World) (ht:TabA w) (h:PX B w x s K) (hg:s.Good M) (hM:M+S.size<=1000000000) :
  Calls prog 84 #[.pointer (some ⟨x,0,none⟩),.agg #[.int .i64 4,.int .i64 a,.int .i64 b,.int .i64 c,.string S]] w fun e w'=>e=.returned (.bool true)/\∃K',PX B w' x (s.op 4 a b S).2 K'/\Turn K K' w w':=by
 have hop:s.op 4 a b S=(s.cod a):=by unfold St.op;rw[if_neg (by decide),if_neg (by decide),if_neg (by decide),if_pos rfl]
 rw[hop]
 obtain⟨p,r,F,G,h1,h2,h3,h4,h5⟩:=h
 have hw1:Below w.heap.size w (w.alloc (.cells #[.int .i64 4,.int .i64 a,.int .i64 b,.int .i64 c,.string S] 55)).drew:=(Z7 _ _).drew
 have hmo:prog.follows Departure.mixedOrders=true:=by kernel_rfl
 have P:=Z1 (eCod B p s F M _ a (ht.below hw1) (h3.low hw1) hg (by omega))
 have R:=Z1 (fun W (h:RH B W r s G)=>rCod B r s G M W a h hg (by omega))
 obtain⟨V,hV⟩:∃V,V=(s.cod a):=⟨_,rfl⟩
 rw[<-hV] at P R ⊢
 clear hV hop
 obtain⟨v1,s1⟩:=V
 simp only at P R
 have HX:=Z1 (show w.heap[x]?=_ from h1)
 have HE:=Z1 h3
 have HR:=Z1 h4
 have HW:=Z1 hw1
 have c0:=C0 h1
 have hz:=Z3 c0
 clear h1 h3 h4 hw1 ht
 go_enter func84,ntmps84
 go_wp2_with fail
 have hC0:=Go.Deep.blk_alloc_new w (.cells #[.int .i64 4,.int .i64 a,.int .i64 b,.int .i64 c,.string S] 55)
 have hx0:(w.alloc (.cells #[.int .i64 4,.int .i64 a,.int .i64 b,.int .i64 c,.string S] 55)).heap[x]?=w.heap[x]?:=Below.heap_alloc _ _ _ hz
 have c0':=C0 (hx0.trans HX.o)
 have o1:=C1 hC0
 have o2:=C2 hC0
 have o4:=C4 hC0
 have hsz:(w.alloc (.cells #[.int .i64 4,.int .i64 a,.int .i64 b,.int .i64 c,.string S] 55)).heap.size=w.heap.size+1:=World.size_alloc _ _
 have HC0:=Z1 hC0
 have HSZ:=Z1 hsz
 clear c0 hx0 hC0 hsz
 generalize w.alloc (.cells #[.int .i64 4,.int .i64 a,.int .i64 b,.int .i64 c,.string S] 55)=W0 at *
 refine wp_region_still_tail 6 hmo (by kernel_rfl) ?_
 simp only[List.take_succ_cons,List.take_zero,List.drop_succ_cons,List.drop_zero]
 repeat still_step
 refine wpStill_nil ?_
 go_wp2_with fail
 refine P.o.mono ?_
 rintro e w1 ⟨rfl,F1,he1,t1⟩
 have hx':=(HW.o.block x (Z4 HX.o)).trans HX.o
 obtain⟨hx1,hr1⟩:=Qgd hx' (HE.o.low HW.o) (HR.o.low HW.o) t1
 have hC1:w1.heap[w.heap.size]?=some (.cells #[.int .i64 4,.int .i64 a,.int .i64 b,.int .i64 c,.string S] 55):=(t1.keep w.heap.size (by rw[World.size_drew,HSZ.o];omega) (fun q=>by have:=(HE.o.ty q).2.1;omega)).trans (HC0.o)
 have hd1:=(Below.refl w1.heap.size w1).drew
 have R1:=Z1 (R.o w1.drew (hr1.low hd1))
 have HX1:=Z1 hx1
 have HR1:=Z1 hr1
 have HE1:=Z1 he1
 have HT1:=Z1 t1
 have HD1:=Z1 (Turn.of_below (F:=G) hd1)
 clear hd1
 have HT0:=Z1 (Turn.of_below (F:=F) HW.o)
 have c1:=C1 hx1
 have k0:=C0 hC1
 have k1:=C1 hC1
 have k2:=C2 hC1
 have k4:=C4 hC1
 have hz1:=Z3 c1
 have hz2:=Z3 k0
 clear P R HX HE HR HW hx' hx1 hr1 he1 t1 hC1 c0' o1 o2 o4 hz
 go_wp2_with fail
 refine wp_region_still_tail 6 hmo (by kernel_rfl) ?_
 simp only[List.take_succ_cons,List.take_zero,List.drop_succ_cons,List.drop_zero]
 repeat still_step
 refine wpStill_nil ?_
 go_wp2_with fail
 refine R1.o.mono ?_
 rintro e w2 ⟨rfl,G1,hr2,t2⟩
 have HF:=Z1 (Qgq h5 HX1.o h2 HE1.o (HT0.o.trans HT1.o) HR1.o hr2 (HD1.o.trans t2))
 clear R1 HX1 HR1 HE1 HT1 HT0 c1 k0 k1 k2 k4 hz1 hz2 hr2 t2
 clear HD1 hmo
 go_wp2_with fail
 go_ret
 exact⟨rfl,HF.o⟩
theorem QnF (B x:Nat) (s:St) (K:Nat->Prop) (M:Nat) (a b c:Int) (S:ByteArray) (w:World) (_ht:TabA w) (h:PX B w x s K) (hg:s.Good M) (_hM:M+S.size<=1000000000) :
  Calls prog 84 #[.pointer (some ⟨x,0,none⟩),.agg #[.int .i64 5,.int .i64 a,.int .i64 b,.int .i64 c,.string S]] w fun e w'=>e=.returned (.bool true)/\∃K',PX B w' x (s.op 5 a b S).2 K'/\Turn K K' w w':=by
 have hop:s.op 5 a b S=s.und:=by unfold St.op;rw[if_neg (by decide),if_neg (by decide),if_neg (by decide),if_neg (by decide),if_pos rfl]
 rw[hop]
 obtain⟨p,r,F,G,h1,h2,h3,h4,h5⟩:=h
 have hw1:Below w.heap.size w (w.alloc (.cells #[.int .i64 5,.int .i64 a,.int .i64 b,.int .i64 c,.string S] 55)):=Z7 _ _
 have hmo:prog.follows Departure.mixedOrders=true:=by kernel_rfl
 have P:=Z1 (eUnd B p s F M _ (h3.low hw1) hg)
 have R:=Z1 (fun W (h:RH B W r s G)=>rUnd B r s G M W h hg)
 obtain⟨V,hV⟩:∃V,V=s.und:=⟨_,rfl⟩
 rw[<-hV] at P R ⊢
 clear hV hop
 obtain⟨v1,s1⟩:=V
 simp only at P R
 have HX:=Z1 (show w.heap[x]?=_ from h1)
 have HE:=Z1 h3
 have HR:=Z1 h4
 have HW:=Z1 hw1
 have c0:=C0 h1
 have hz:=Z3 c0
 clear h1 h3 h4 hw1 _ht
 go_enter func84,ntmps84
 go_wp2_with fail
 refine P.o.mono ?_
 rintro e w1 ⟨rfl,F1,he1,t1⟩
 have hx':=(HW.o.block x (Z4 HX.o)).trans HX.o
 obtain⟨hx1,hr1⟩:=Qgd hx' (HE.o.low HW.o) (HR.o.low HW.o) t1
 have hC1:w1.heap[w.heap.size]?=some (.cells #[.int .i64 5,.int .i64 a,.int .i64 b,.int .i64 c,.string S] 55):=(t1.keep w.heap.size (by rw[World.size_alloc];omega) (fun q=>by have:=(HE.o.ty q).2.1;omega)).trans (Go.Deep.blk_alloc_new _ _)
 have hd1:=(Below.refl w1.heap.size w1).drew
 have R1:=Z1 (R.o w1 hr1)
 have HX1:=Z1 hx1
 have HR1:=Z1 hr1
 have HE1:=Z1 he1
 have HT1:=Z1 t1
 have HD1:=Z1 (Turn.of_below (F:=G) hd1)
 clear hd1
 have HT0:=Z1 (Turn.of_below (F:=F) HW.o)
 have c1:=C1 hx1
 have k0:=C0 hC1
 have k1:=C1 hC1
 have k2:=C2 hC1
 have k4:=C4 hC1
 have hz1:=Z3 c1
 have hz2:=Z3 k0
 clear P R HX HE HR HW hx' hx1 hr1 he1 t1 hC1 c0 hz
 go_wp2_with fail
 refine R1.o.mono ?_
 rintro e w2 ⟨rfl,G1,hr2,t2⟩
 have HF:=Z1 (Qgq h5 HX1.o h2 HE1.o (HT0.o.trans HT1.o) HR1.o hr2 t2)
 clear R1 HX1 HR1 HE1 HT1 HT0 c1 k0 k1 k2 k4 hz1 hz2 hr2 t2
 clear HD1 hmo
 go_wp2_with fail
 go_ret
 exact⟨rfl,HF.o⟩
theorem Qm0 (B x:Nat) (s:St) (K:Nat->Prop) (M:Nat) (a b c:Int) (S:ByteArray) (w:World) (_ht:TabA w) (h:PX B w x s K) (hg:s.Good M) (_hM:M+S.size<=1000000000) :
  Calls prog 84 #[.pointer (some ⟨x,0,none⟩),.agg #[.int .i64 6,.int .i64 a,.int .i64 b,.int .i64 c,.string S]] w fun e w'=>e=.returned (.bool true)/\∃K',PX B w' x (s.op 6 a b S).2 K'/\Turn K K' w w':=by
 have hop:s.op 6 a b S=s.red:=by unfold St.op;rw[if_neg (by decide),if_neg (by decide),if_neg (by decide),if_neg (by decide),if_neg (by decide),if_pos rfl]
 rw[hop]
 obtain⟨p,r,F,G,h1,h2,h3,h4,h5⟩:=h
 have hw1:Below w.heap.size w (w.alloc (.cells #[.int .i64 6,.int .i64 a,.int .i64 b,.int .i64 c,.string S] 55)):=Z7 _ _
 have hmo:prog.follows Departure.mixedOrders=true:=by kernel_rfl
 have P:=Z1 (eRed B p s F M _ (h3.low hw1) hg)
 have R:=Z1 (fun W (h:RH B W r s G)=>rRed B r s G M W h hg)
 obtain⟨V,hV⟩:∃V,V=s.red:=⟨_,rfl⟩
 rw[<-hV] at P R ⊢
 clear hV hop
 obtain⟨v1,s1⟩:=V
 simp only at P R
 have HX:=Z1 (show w.heap[x]?=_ from h1)
 have HE:=Z1 h3
 have HR:=Z1 h4
 have HW:=Z1 hw1
 have c0:=C0 h1
 have hz:=Z3 c0
 clear h1 h3 h4 hw1 _ht
 go_enter func84,ntmps84
 go_wp2_with fail
 refine P.o.mono ?_
 rintro e w1 ⟨rfl,F1,he1,t1⟩
 have hx':=(HW.o.block x (Z4 HX.o)).trans HX.o
 obtain⟨hx1,hr1⟩:=Qgd hx' (HE.o.low HW.o) (HR.o.low HW.o) t1
 have hC1:w1.heap[w.heap.size]?=some (.cells #[.int .i64 6,.int .i64 a,.int .i64 b,.int .i64 c,.string S] 55):=(t1.keep w.heap.size (by rw[World.size_alloc];omega) (fun q=>by have:=(HE.o.ty q).2.1;omega)).trans (Go.Deep.blk_alloc_new _ _)
 have hd1:=(Below.refl w1.heap.size w1).drew
 have R1:=Z1 (R.o w1 hr1)
 have HX1:=Z1 hx1
 have HR1:=Z1 hr1
 have HE1:=Z1 he1
 have HT1:=Z1 t1
 have HD1:=Z1 (Turn.of_below (F:=G) hd1)
 clear hd1
 have HT0:=Z1 (Turn.of_below (F:=F) HW.o)
 have c1:=C1 hx1
 have k0:=C0 hC1
 have k1:=C1 hC1
 have k2:=C2 hC1
 have k4:=C4 hC1
 have hz1:=Z3 c1
 have hz2:=Z3 k0
 clear P R HX HE HR HW hx' hx1 hr1 he1 t1 hC1 c0 hz
 go_wp2_with fail
 refine R1.o.mono ?_
 rintro e w2 ⟨rfl,G1,hr2,t2⟩
 have HF:=Z1 (Qgq h5 HX1.o h2 HE1.o (HT0.o.trans HT1.o) HR1.o hr2 t2)
 clear R1 HX1 HR1 HE1 HT1 HT0 c1 k0 k1 k2 k4 hz1 hz2 hr2 t2
 clear HD1 hmo
 go_wp2_with fail
 go_ret
 exact⟨rfl,HF.o⟩
theorem Qnm (B x:Nat) (s:St) (K:Nat->Prop) (kind a b c:Int) (S:ByteArray) (w:World) (h:PX B w x s K) (h1:kind≠1) (h2:kind≠2) (h3:kind≠3) (h4:kind≠4) (h5:kind≠5) (h6:kind≠6) :
  Calls prog 84 #[.pointer (some ⟨x,0,none⟩),.agg #[.int .i64 kind,.int .i64 a,.int .i64 b,.int .i64 c,.string S]] w fun e w'=>e=.returned (.bool true)/\∃K',PX B w' x (s.op kind a b S).2 K'/\Turn K K' w w':=by
 have hop:s.op kind a b S=(0,s):=by unfold St.op;rw[if_neg h1,if_neg h2,if_neg h3,if_neg h4,if_neg h5,if_neg h6]
 rw[hop]
 have b1:(kind==1)=false:=by simpa using h1
 have b2:(kind==2)=false:=by simpa using h2
 have b3:(kind==3)=false:=by simpa using h3
 have b4:(kind==4)=false:=by simpa using h4
 have b5:(kind==5)=false:=by simpa using h5
 have b6:(kind==6)=false:=by simpa using h6
 have HP:=Z1 h
 clear h
 go_enter func84,ntmps84
 go_wp2_with fail
 go_ret
 have hw1:Below w.heap.size w (w.alloc (.cells #[.int .i64 kind,.int .i64 a,.int .i64 b,.int .i64 c,.string S] 55)):=Z7 _ _
 exact⟨rfl,K,HP.o.low hw1,Turn.of_below hw1⟩
theorem Qm5 (B x:Nat) (s:St) (K:Nat->Prop) (M:Nat) (kind a b c:Int) (S:ByteArray) (w:World) (ht:TabA w) (h:PX B w x s K) (hg:s.Good M) (hM:M+S.size<=1000000000) :
  Calls prog 84 #[.pointer (some ⟨x,0,none⟩),.agg #[.int .i64 kind,.int .i64 a,.int .i64 b,.int .i64 c,.string S]] w fun e w'=>e=.returned (.bool true)/\∃K',PX B w' x (s.op kind a b S).2 K'/\Turn K K' w w':=by
 by_cases h1:kind=1
 ·subst h1;exact Qm4 B x s K M a b c S w ht h hg hM
 by_cases h2:kind=2
 ·subst h2;exact Qnw B x s K M a b c S w ht h hg hM
 by_cases h3:kind=3
 ·subst h3;exact Qnf B x s K M a b c S w ht h hg hM
 by_cases h4:kind=4
 ·subst h4;exact QnD B x s K M a b c S w ht h hg hM
 by_cases h5:kind=5
 ·subst h5;exact QnF B x s K M a b c S w ht h hg hM
 by_cases h6:kind=6
 ·subst h6;exact Qm0 B x s K M a b c S w ht h hg hM
 exact Qnm B x s K kind a b c S w h h1 h2 h3 h4 h5 h6
theorem loadedX (B:Nat) (b:ByteArray) (mode:Int) (w:World) (ht:Tabs w) (hs:b.size<=1099511627000) (h0:0<=mode) (h7:mode<=7) (hB:B<=w.heap.size) :
  Calls prog 19 #[.string b,.int .i64 mode] w fun e w'=>∃x K,e=.returned (.tuple #[.pointer (some ⟨x,0,none⟩),.bool true])/\PX B w' x ⟨ofK b (encOf b mode),[],[]⟩ K/\(∀i,K i->w.heap.size<=i)/\Below w.heap.size w w':=by
 have L:=Z2 (Qjr b mode w ht (by omega) h0 h7)
 have R:=Z2 (fun w=>QdK b mode w (by omega) h0 h7)
 go_enter func19,ntmps19
 go_wp2_with fail
 refine L.o.mono ?_
 rintro e w1 ⟨p,rfl,hp,hd,hb1⟩
 go_wp2_with fail
 refine (R.o w1).mono ?_
 rintro e w2 ⟨r,rfl,hr1,hrd,hb2⟩
 have HD:=Z2 (hd.low hb2)
 have HR:=Z2 hrd
 have hb12:=hb1.trans (hb2.mono hb1.size)
 have hz1:=hb1.size
 clear hd hrd L R
 go_wp2_with fail
 have hba:=Z7 w2 (.cells #[.pointer (some ⟨p,0,none⟩),.pointer (some ⟨r,0,none⟩)] 46)
 go_ret2
 have hE:EH B w2 p ⟨ofK b (encOf b mode),[],[]⟩ (fun i=>i=p):=EH.new HD.o (by omega)
 have hR:RH B w2 r ⟨ofK b (encOf b mode),[],[]⟩ (fun i=>i=r):=RH.new HR.o (by omega)
 refine⟨w2.heap.size,fun i=>i=w2.heap.size\/i=p\/i=r,rfl,⟨p,r,_,_,Go.Deep.blk_alloc_new _ _,by have:=hb12.size;omega,hE.low hba,hR.low hba,fun i=>Iff.rfl⟩,fun i hi=>?_,hb12.trans (hba.mono hb12.size)⟩
 have:=hb12.size
 rcases hi with rfl|rfl|rfl<;>omega
structure Opr where
 kind:Int
 a:Int
 b:Int
 c:Int
 S:ByteArray
def Opr.val (o:Opr):Value:=.agg #[.int .i64 o.kind,.int .i64 o.a,.int .i64 o.b,.int .i64 o.c,.string o.S]
def OpsAt (w:World) (v:Value) (l:List Opr):Prop :=
 ∃q cap,v=.slice q l.length cap/\∀i o,l[i]?=some o->∃g f,q=some ⟨g,f,none⟩/\w.cell? ⟨g,f+i * 5,none⟩=some (.int .i64 o.kind)/\w.cell? ⟨g,f+i * 5+1,none⟩=some (.int .i64 o.a)/\w.cell? ⟨g,f+i * 5+2,none⟩=some (.int .i64 o.b)/\w.cell? ⟨g,f+i * 5+3,none⟩=some (.int .i64 o.c)/\w.cell? ⟨g,f+i * 5+4,none⟩=some (.string o.S)
theorem OpsAt.low {v:Value} {l:List Opr} (h:OpsAt w v l) (hb:Below w.heap.size w w'):OpsAt w' v l:=by
 obtain⟨q,cap,h1,h2⟩:=h;refine⟨q,cap,h1,fun i o hi=>?_⟩;obtain⟨g,f,a0,a1,a2,a3,a4,a5⟩:=h2 i o hi;have z:=Z3 a1;exact⟨g,f,a0,(hb.cell (p:=⟨g,f+i * 5,none⟩) z).trans a1,(hb.cell (p:=⟨g,f+i * 5+1,none⟩) z).trans a2,(hb.cell (p:=⟨g,f+i * 5+2,none⟩) z).trans a3,(hb.cell (p:=⟨g,f+i * 5+3,none⟩) z).trans a4,(hb.cell (p:=⟨g,f+i * 5+4,none⟩) z).trans a5⟩
def opsS (l:List Opr):Nat:=(l.map (fun o=>o.S.size)).sum
theorem Qmk {l:List Opr} {o:Opr} (h:l[j]?=some o):opsS (l.take (j+1))=opsS (l.take j)+o.S.size:=by
 unfold opsS;rw[List.take_add_one,h];simp
theorem QlA (l:List Opr) (j:Nat):opsS (l.take j)<=opsS l:=by
 have g:∀X Y:List Opr,opsS (X++Y)=opsS X+opsS Y:=fun X Y=>by unfold opsS;simp
 have h:=g (l.take j) (l.drop j);rw[List.take_append_drop] at h;omega
theorem Qnv (B x:Nat) (s:St) (K:Nat->Prop) (M:Nat) (o:Opr) (w:World) (ht:TabA w) (h:PX B w x s K) (hg:s.Good M) (hM:M+o.S.size<=1000000000) :
  Calls prog 50 #[.pointer (some ⟨x,0,none⟩),o.val] w fun e w'=>e=.returned (.bool true)/\∃s' K',PX B w' x s' K'/\s'.Good (M+8 * o.S.size)/\Turn K K' w w':=by
 obtain⟨kind,a,b,c,S⟩:=o
 unfold Opr.val
 simp only at hM ⊢
 have hw1:Below w.heap.size w (w.alloc (.cells #[.int .i64 kind,.int .i64 a,.int .i64 b,.int .i64 c,.string S] 55)):=Z7 _ _
 have hz:x<w.heap.size:=by
  obtain⟨p,r,F,G,h1,_⟩:=h;exact Z4 h1
 have h':=h.low hw1
 have ht':=ht.below hw1
 have HG:=Z1 hg
 have HW:=Z1 hw1
 have HH:=Z1 h'
 by_cases h7:kind=7
 ·subst h7;have P:=Z1 (h'.looked ht'.tw.tabs hg (by omega));clear h h' ht ht' hg hw1;go_enter func50,ntmps50;go_wp2_with fail;refine P.o.mono ?_;rintro e w1 ⟨rfl,hb1⟩;have HF:=Z1 (show ∃s' K',PX B w1 x s' K'/\s'.Good (M+8 * S.size)/\Turn K K' w w1 from ⟨s,K,HH.o.low hb1,HG.o.mono (by omega),(Turn.of_below HW.o).trans (Turn.of_below hb1)⟩);clear P HH HG HW hb1;go_wp2_with fail;go_ret;exact⟨rfl,HF.o⟩
 by_cases h8:kind=8
 ·subst h8;have P:=Z1 (h'.placed ht'.tw.tabs hg (by omega) a a b);clear h h' ht ht' hg hw1 h7;go_enter func50,ntmps50;go_wp2_with fail;refine P.o.mono ?_;rintro e w1 ⟨rfl,hb1⟩;have HF:=Z1 (show ∃s' K',PX B w1 x s' K'/\s'.Good (M+8 * S.size)/\Turn K K' w w1 from ⟨s,K,HH.o.low hb1,HG.o.mono (by omega),(Turn.of_below HW.o).trans (Turn.of_below hb1)⟩);clear P HH HG HW hb1;go_wp2_with fail;go_ret;exact⟨rfl,HF.o⟩
 have b7:(kind==7)=false:=by simpa using h7
 have b8:(kind==8)=false:=by simpa using h8
 have P:=Z1 (Qm5 B x s K M kind a b c S _ ht' h' hg hM)
 clear h h' ht ht' hg hw1 HH
 go_enter func50,ntmps50
 go_wp2_with fail
 refine P.o.mono ?_
 rintro e w1 ⟨rfl,K1,hx1,t1⟩
 have HF:=Z1 (show ∃s' K',PX B w1 x s' K'/\s'.Good (M+8 * S.size)/\Turn K K' w w1 from ⟨_,K1,hx1,HG.o.op,(Turn.of_below HW.o).trans t1⟩)
 clear P HG HW hx1 t1
 go_wp2_with fail
 go_ret
 exact⟨rfl,HF.o⟩
end Go.Proofs.YtoejbngihecafaaGreatDoor
