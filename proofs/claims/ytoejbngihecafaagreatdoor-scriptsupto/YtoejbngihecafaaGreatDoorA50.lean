import Derived.StillTailTactics
import Derived.Test.YtoejbngihecafaaGreatDoorA40
import Derived.Test.YtoejbngihecafaaGreatDoorA49
import Derived.Test.YtoejbngihecafaaGreatDoorA41
set_option maxRecDepth 100000
set_option maxHeartbeats 1000000
namespace Go.Proofs.YtoejbngihecafaaGreatDoor
open Go.RowKit
theorem rbody_any (v:Value) (L:List Vm.RA) (A:List Vm.At) (base:Nat) (j:Nat) (w:World) (ho:Holds w base v L) (hr:Vm.Reads L A 0) (hj:j<=L.length) (hl:L.length<=1099511627776) :
  Calls Tryz.prog 149 #[v,.int .i64 j] w fun e w'=>e=.returned (.int .i64 (Vm.sizeA (A.take j)))/\w'=w:=by
 obtain⟨p,cap,rfl⟩:∃p cap,v=.slice p L.length cap:=by
  rcases ho.2 with ⟨x,y⟩|⟨g,c,cur,x,_⟩
  ·exact⟨none,0,by rw[x,y]⟩
  ·exact⟨_,_,x⟩
 have hlen:=hr.length
 obtain⟨V,hV⟩:∃V,V=Vm.sizeA (A.take j):=⟨_,rfl⟩
 rw[<-hV]
 have HV:=Z2 hV
 clear hV
 have hget:∀i,i<L.length->∃a x,L[i]?=some a/\A[i]?=some x/\a.2.2.2.1=(Vm.sizeA (A.take i):Int)/\a.2.2.2.2=(Vm.sizeA (A.take (i+1)):Int):=by
  intro i hi
  have ha:L[i]?=some L[i]:=List.getElem?_eq_getElem hi
  have hx:A[i]?=some A[i]:=List.getElem?_eq_getElem (by omega)
  have hp:=hr.pos i _ _ ha hx
  rw[Nat.zero_add] at hp
  refine⟨_,_,ha,hx,hp.1,?_⟩
  rw[hp.2.1,sizeA_step hx];simp
 by_cases hlt:j<L.length
 ·obtain⟨a,x,ha,hx,h1,h2⟩:=hget j hlt
  obtain⟨g,rfl⟩:∃g,p=some ⟨g,0,none⟩:=by
   rcases ho.2 with ⟨y,z⟩|⟨g,c,cur,y,_⟩
   ·omega
   ·injection y with y1;exact⟨g,y1⟩
  have q3:w.cell? ⟨g,j * 5+3,none⟩=some (.int .i64 a.2.2.2.1):=(ho.cellAt (j * 5+3) (by omega)).trans (flatRA_at L j a 3 ha (by decide))
  have q3':w.cell? ⟨g,j * 5+3,none⟩=some (.int .i64 (V:Int)):=by rw[HV.out,<-h1];exact q3
  have hltI:(j:Int)<(L.length:Int):=by omega
  have hz:=Z3 q3'
  clear q3 h1 h2 ha hx ho hr hlen hget
  go_enter Tryz.func149,Tryz.ntmps149
  go_wp2_with fail
  go_ret
  exact⟨rfl,rfl⟩
 ·obtain rfl:j=L.length:=by omega
  by_cases h0:L.length=0
  ·have hp:V=0:=by
    rw[HV.out,h0];rfl
   have h0I:¬(0:Int)<(L.length:Int):=by omega
   rw[hp]
   clear ho hr hlen hget hp HV
   go_enter Tryz.func149,Tryz.ntmps149
   go_wp2_with fail
   go_ret
   exact⟨rfl,rfl⟩
  ·obtain⟨m,hm⟩:∃m,L.length=m+1:=⟨L.length - 1,by omega⟩
   obtain⟨a,x,ha,hx,h1,h2⟩:=hget m (by omega)
   obtain⟨g,rfl⟩:∃g,p=some ⟨g,0,none⟩:=by
    rcases ho.2 with ⟨y,z⟩|⟨g,c,cur,y,_⟩
    ·omega
    ·injection y with y1;exact⟨g,y1⟩
   have q4:w.cell? ⟨g,m * 5+4,none⟩=some (.int .i64 a.2.2.2.2):=(ho.cellAt (m * 5+4) (by omega)).trans (flatRA_at L m a 4 ha (by decide))
   rw[hm] at HV
   have q4':w.cell? ⟨g,m * 5+4,none⟩=some (.int .i64 (V:Int)):=by rw[HV.out,<-h2];exact q4
   have hz:=Z3 q4'
   rw[hm]
   have hwr:IntKind.i64.wrap (((m+1:Nat):Int) - 1)=(m:Int):=by rw[IntKind.wrap_i64];omega
   clear q4 h1 h2 ha hx ho hr hlen hget hlt h0
   have hml:m<L.length:=by omega
   clear hm
   go_enter Tryz.func149,Tryz.ntmps149
   go_wp2_with fail
   go_ret
   exact⟨rfl,rfl⟩
theorem rRpl (
       B r:Nat) (s:St) (G:Nat->Prop) (M:Nat) (w:World) (f t:Int) (text:ByteArray) (h:RH B w r s G) (hg:s.Good M) (hM:M+text.size<=1000000000) :
  Calls Tryz.prog 120 #[.pointer (some ⟨r,0,none⟩),.int .i64 f,.int .i64 t,.string text] w fun e w'=>e=.returned (.int .i64 (s.rpl f t text).1)/\∃G',RH B w' r (s.rpl f t text).2 G'/\Turn G G' w w':=by
 have hk:=hg.now.1
 have hbd:=good_body hg
 have hlen:=hg.len
 have hAl:=Nat.le_trans (Vm.atoms_len s.k.enc s.k.body.data.toList) (show s.k.body.data.toList.length<=8 * M+1 from hbd)
 have HA:=Z1 (rdatoms_any r s.k.enc s.k.mark s.k.body w h.doc (by omega) hk.h0 hk.h3)
 have hRE:=rplE_of s.k f t text (Vm.endingOf (Vm.cntK s.k.A 0) (Vm.cntK s.k.A 1) (Vm.cntK s.k.A 2))
 have HRE:=Z1 hRE
 have HH:=Z1 h
 have hzr:=(h.ty h.self).2.1
 obtain⟨V,hV⟩:∃V,V=s.rpl f t text:=⟨_,rfl⟩
 rw[<-hV]
 have HV:=Z1 hV
 clear hV h hRE
 go_enter Tryz.func120,Tryz.ntmps120
 go_wp2_with fail
 refine HA.out.mono ?_
 rintro e w1 ⟨v,L,rfl,hr,hl,ho,hb1⟩
 have hok:=Vm.atoms_ok s.k.enc s.k.L
 change Vm.Reads L s.k.A 0 at hr
 have P1:=Z1 (fun W (h:Below w1.heap.size w1 W)=>rplace_any v L s.k.A _ f W (ho.below h) hr hok (by omega))
 have P2:=Z1 (fun W (h:Below w1.heap.size w1 W)=>rplace_any v L s.k.A _ t W (ho.below h) hr hok (by omega))
 have P3:=Z1 (fun W (h:Below w1.heap.size w1 W)=>rending_any v L s.k.A _ W (ho.below h) hr (by omega))
 have P4:=Z1 (fun W (h:Below w1.heap.size w1 W) (j:Nat) (hj:j<=L.length)=>rbody_any v L s.k.A _ j W (ho.below h) hr hj (by omega))
 have hLA:=hr.length
 have HLA:=Z1 hLA
 obtain⟨p,cap,rfl⟩:∃p cap,v=.slice p L.length cap:=by
  rcases ho.2 with ⟨x,y⟩|⟨g,c,cur,x,_⟩
  ·exact⟨none,0,by rw[x,y]⟩
  ·exact⟨_,_,x⟩
 have H1:=Z1 (HH.out.low hb1)
 have HB1:=Z1 hb1
 clear HA HH hr ho hok hb1 hLA
 obtain⟨V1,hV1⟩:∃V,V=rplV s.k.A f:=⟨_,rfl⟩
 obtain⟨V2,hV2⟩:∃V,V=rplV s.k.A t:=⟨_,rfl⟩
 rw[<-hV1] at P1
 rw[<-hV2] at P2
 have HV1:=Z1 hV1
 have HV2:=Z1 hV2
 obtain⟨a,e1⟩:=V1
 obtain⟨b,e2⟩:=V2
 simp only at P1 P2
 clear hV1 hV2
 go_wp2_with fail
 refine (P1.out _ (Below.refl _ _)).mono ?_
 rintro e w2 ⟨rfl,hb2⟩
 go_wp2_with fail
 refine (P2.out _ hb2).mono ?_
 rintro e w3 ⟨rfl,hb3⟩
 have HB3:=Z1 (hb2.trans (hb3.mono hb2.size))
 have H3:=Z1 (H1.out.low HB3.out)
 have HW3:=Z1 (HB1.out.trans (HB3.out.mono HB1.out.size))
 clear hb2 hb3 P1 P2
 by_cases hrg:e1=2\/e2=2\/t<f
 ·have HE:=Z1 (show V=(2,s) by
   have q:=str_range (A:=s.k.A) (f:=f) (t:=t) (by rw[<-HV1.out,<-HV2.out];exact hrg)
   rw[HV.out]
   unfold St.rpl
   rw[HRE.out,q,if_pos (by decide)]
   rfl)
  clear HV HRE
  by_cases q1:e1=2
  ·subst q1
   go_wp2_with fail
   go_ret
   exact⟨by rw[HE.out];rfl,G,by rw[HE.out];exact H3.out,Turn.of_below HW3.out⟩
  ·have b1:(e1==2)=false:=by simpa using q1
   by_cases q2:e2=2
   ·subst q2
    go_wp2_with fail
    go_ret
    exact⟨by rw[HE.out];rfl,G,by rw[HE.out];exact H3.out,Turn.of_below HW3.out⟩
   ·have b2:(e2==2)=false:=by simpa using q2
    have q3:t<f:=by
     rcases hrg with q|q|q
     ·exact absurd q q1
     ·exact absurd q q2
     ·exact q
    clear hrg
    go_wp2_with fail
    go_ret
    exact⟨by rw[HE.out];rfl,G,by rw[HE.out];exact H3.out,Turn.of_below HW3.out⟩
 ·have q1:¬e1=2:=fun q=>hrg (.inl q)
  have q2:¬e2=2:=fun q=>hrg (.inr (.inl q))
  have q3:¬t<f:=fun q=>hrg (.inr (.inr q))
  have b1:(e1==2)=false:=by simpa using q1
  have b2:(e2==2)=false:=by simpa using q2
  have hsv:=str_in (A:=s.k.A) (f:=f) (t:=t) (by rw[<-HV1.out];exact q1) (by rw[<-HV2.out];exact q2) q3
  rw[<-HV1.out,<-HV2.out] at hsv
  simp only at hsv
  have HSV:=Z1 hsv
  clear hsv hrg
  by_cases hok:e1=0/\e2=0
  ·obtain⟨rfl,rfl⟩:=hok
   have ha:=rplV_ok (A:=s.k.A) (o:=f) (by rw[<-HV1.out])
   have hb:=rplV_ok (A:=s.k.A) (o:=t) (by rw[<-HV2.out])
   rw[<-HV1.out] at ha
   rw[<-HV2.out] at hb
   simp only at ha hb
   subst ha hb
   have hs0:(strV s.k.A f t).2.2=0:=by rw[HSV.out,if_pos ⟨rfl,rfl⟩]
   have hnf:0<=f/\0<=t:=by
    have z1:=mt rplV_range.2 (show ¬(rplV s.k.A f).2=2 by rw[<-HV1.out];exact q1)
    have z2:=mt rplV_range.2 (show ¬(rplV s.k.A t).2=2 by rw[<-HV2.out];exact q2)
    omega
   have hja:Vm.plK s.k.A f<=L.length:=by rw[HLA.out];exact (Vm.plK_spec s.k.A f hnf.1).1
   have hjb:Vm.plK s.k.A t<=L.length:=by rw[HLA.out];exact (Vm.plK_spec s.k.A t hnf.2).1
   have hab:=(strV_ok hs0).2.2
   have HEQ:=Z1 (show s.rpl f t text=s.chg (Vm.typV s.k.enc (Vm.endingOf (Vm.cntK s.k.A 0) (Vm.cntK s.k.A 1) (Vm.cntK s.k.A 2)) (Vm.atoms 0 text.data.toList)).2 (rplK s.k f t text) by
    unfold St.rpl
    rw[HRE.out,hs0,if_neg (by decide)])
   have hend:0<=Vm.endingOf (Vm.cntK s.k.A 0) (Vm.cntK s.k.A 1) (Vm.cntK s.k.A 2)/\Vm.endingOf (Vm.cntK s.k.A 0) (Vm.cntK s.k.A 1) (Vm.cntK s.k.A 2)<=2:=by
    unfold Vm.endingOf
    by_cases q:(if Vm.cntK s.k.A 0<Vm.cntK s.k.A 1 then Vm.cntK s.k.A 1 else Vm.cntK s.k.A 0)<Vm.cntK s.k.A 2
    ·rw[if_pos q];decide
    ·rw[if_neg q];split<;>decide
   have T1:=Z1 (fun W=>rtyped_any text s.k.enc (Vm.endingOf (Vm.cntK s.k.A 0) (Vm.cntK s.k.A 1) (Vm.cntK s.k.A 2)) W (by omega) hk.h0 hk.h3 hend.1 hend.2)
   clear q1 q2 b1 b2 HV1 HV2 HSV HRE hs0
   have hz3:=(H3.out.ty H3.out.self).2.1
   have hmo:Tryz.prog.follows Departure.mixedOrders=true:=by kernel_rfl
   go_wp2_with fail
   have c0:∀x:Bl w3,x.val.cell? ⟨r,0,none⟩=some (.int .i64 s.k.enc):=fun x=>(H3.out.low x.2).doc.c0
   have PX3:=Z1 (fun (x:Bl w3)=>P3.out x.val (HB3.out.trans (x.2.mono HB3.out.size)))
   have TX:=Z1 (fun (x:Bl w3)=>T1.out x.val)
   clear P3 T1
   generalize hTV:Vm.typV s.k.enc (Vm.endingOf (Vm.cntK s.k.A 0) (Vm.cntK s.k.A 1) (Vm.cntK s.k.A 2)) (Vm.atoms 0 text.data.toList)=TV at *
   have HTV:=Z1 hTV
   clear hTV
   obtain⟨P,te⟩:=TV
   simp only at TX HEQ
   generalize hEN:Vm.endingOf (Vm.cntK s.k.A 0) (Vm.cntK s.k.A 1) (Vm.cntK s.k.A 2)=en at *
   have HEN:=Z1 hEN
   clear hEN
   refine wp_region_bl hmo (by kernel_rfl) ?_
   repeat (go_big_quiet_step (first|(go_at_call 78;refine Calls.bl_of (PX3.out _))|(go_at_call 148;refine Calls.bl_of (TX.out _))|fail))
   refine wpQuiet_nil ?_
   intro _ hw'
   obtain⟨x5,hx5⟩:=hw'
   subst hx5
   have hb5:=x5.2
   generalize x5.val=w5 at *
   have H5:=Z1 (H3.out.low hb5)
   have HW5:=Z1 (HW3.out.trans (hb5.mono HW3.out.size))
   have HB5:=Z1 (HB3.out.trans (hb5.mono HB3.out.size))
   clear c0 PX3 TX H3 HW3 HB3 hb5 hz3
   by_cases hte:te=0
   ·subst hte
    have hP:P=Vm.typL s.k.enc en (Vm.atoms 0 text.data.toList):=by
     have:=typV_list (enc:=s.k.enc) (kd:=en) (A:=Vm.atoms 0 text.data.toList) (by rw[HTV.out])
     rw[HTV.out] at this;exact this
    have hPl:=typL_len s.k.enc en (Vm.atoms 0 text.data.toList)
    rw[<-hP] at hPl
    have hAt:=Vm.atoms_len 0 text.data.toList
    have hts:text.data.toList.length=text.size:=rfl
    have hPs:(strOfNums P).size<=8 * text.size:=by rw[nums_size];omega
    have HP:=Z1 hP
    clear hP hPl hAt hts HTV
    obtain⟨c0,c1,c2,_⟩:=H5.out.doc
    have hz5:=Z3 c0
    have hsa:=Nat.le_trans (sizeA_take_le s.k.A (Vm.plK s.k.A f)) (sizeA_body s.k)
    have hsb:=Nat.le_trans (sizeA_take_le s.k.A (Vm.plK s.k.A t)) (sizeA_body s.k)
    go_wp2_with fail
    have hx6:=Go.Deep.blk_alloc_new w5 (.cells #[.int .i64 s.k.enc,.bool s.k.mark,.string s.k.body] 99)
    have hb6:Below w5.heap.size w5 (w5.alloc (.cells #[.int .i64 s.k.enc,.bool s.k.mark,.string s.k.body] 99)):=(Below.refl _ _).alloc (Nat.le_refl _) _
    have hrX:w5.heap.size≠r:=by omega
    clear c0 c1 c2
    generalize w5.alloc (.cells #[.int .i64 s.k.enc,.bool s.k.mark,.string s.k.body] 99)=w6 at *
    have PA:=Z1 (P4.out w6.drew (HB5.out.trans ((hb6.drew).mono HB5.out.size)) (Vm.plK s.k.A f) hja)
    have PB:=Z1 (P4.out w6.drew (HB5.out.trans ((hb6.drew).mono HB5.out.size)) (Vm.plK s.k.A t) hjb)
    clear P4
    have hX:w5.heap.size<w6.heap.size:=Z4 hx6
    have HB6:=Z1 hb6
    have HX6:=Z1 hx6
    have H5X:=Z1 (show w5.heap.size<=w5.heap.size from Nat.le_refl _)
    obtain⟨X,hXe⟩:∃X,X=w5.heap.size:=⟨_,rfl⟩
    rw[<-hXe] at hx6 hrX hX HX6 ⊢
    have HXE:=Z1 hXe
    clear hXe hb6 hz5
    have x0:w6.cell? ⟨X,0,none⟩=some (.int .i64 s.k.enc):=by rw[Lib.cell_of_heap hx6];rfl
    have x1:w6.cell? ⟨X,1,none⟩=some (.bool s.k.mark):=by rw[Lib.cell_of_heap hx6];rfl
    have x2:w6.cell? ⟨X,2,none⟩=some (.string s.k.body):=by rw[Lib.cell_of_heap hx6];rfl
    have xf:=fun j=>Lib.frozen_of_heap hx6 j
    clear hx6
    generalize hga:Vm.sizeA (s.k.A.take (Vm.plK s.k.A f))=ga at *
    generalize hgb:Vm.sizeA (s.k.A.take (Vm.plK s.k.A t))=gb at *
    have HGA:=Z1 hga
    have HGB:=Z1 hgb
    clear hga hgb
    have hPs2:(strOfNums P).size<=1000000000000:=by omega
    have hbd2:s.k.body.size<=1000000000000:=by omega
    go_cut [] from 16 to 81 (fun wx=>wx.heap[X]?=some (.cells #[.int .i64 s.k.enc,.bool s.k.mark,.string (s.k.body.extract 0 ga++strOfNums P++s.k.body.extract gb s.k.body.size)] 99)/\Below w5.heap.size w5 wx)
    case first =>
     clear HV HEQ HP H5 HW5 HB5 HLA H1 HB1 hPs hbd hM hg hk hlen hAl hl hab hend hnf hja hjb q3 hzr hrX x0 x1 H5X HGA HGB
     generalize Vm.plK s.k.A f=ja at *
     generalize Vm.plK s.k.A t=jb at *
     generalize strOfNums P=sp at *
     generalize s.k.body=bd at *
     have z1:(bd.extract 0 ga).size=ga:=by rw[ByteArray.size_extract];omega
     have z2:(bd.extract gb bd.size).size=bd.size - gb:=by rw[ByteArray.size_extract];omega
     have z3:(bd.extract 0 ga++sp).size=ga+sp.size:=by rw[ByteArray.size_append,z1]
     have y1:(bd.extract 0 ga).size<=1000000000000:=by omega
     have y2:(bd.extract gb bd.size).size<=1000000000000:=by omega
     have y3:(bd.extract 0 ga++sp).size<=2000000000000:=by omega
     have n1:¬9223372036854775807<ga+sp.size:=by omega
     have n2:¬9223372036854775807<ga+sp.size+(bd.size - gb):=by omega
     clear z1 z2 z3 y1 y2 y3
     refine wp_region_still_tail 15 hmo (by kernel_rfl) ?_
     simp only[List.take_succ_cons,List.take_zero,List.drop_succ_cons,List.drop_zero]
     repeat still_step
     still_call PA.out
     repeat still_step
     still_call PB.out
     repeat still_step
     refine wpStill_nil ?_
     all_goals
      go_wp2_with fail
      go_meet
      exact⟨blk_set (show w6.drew.heap[X]?=_ from HX6.out) _,low_tn HB6.out.drew (by rw[HXE.out];exact Nat.le_refl _) ((Tn.refl X _).setCell _)⟩
    case rest =>
     obtain⟨hx7,hb7⟩:=hcut
     have H7:=Z1 (H5.out.low hb7)
     have HW7:=Z1 (HW5.out.trans (hb7.mono HW5.out.size))
     obtain⟨nbd,hnbd⟩:∃nbd,nbd=s.k.body.extract 0 ga++strOfNums P++s.k.body.extract gb s.k.body.size:=⟨_,rfl⟩
     rw[<-hnbd] at hx7
     have hns:nbd.size<=30000000000:=by
      rw[hnbd,ByteArray.size_append,ByteArray.size_append,ByteArray.size_extract,ByteArray.size_extract];omega
     have hKE:=rpl_body hk (Vm.plK s.k.A f) (Vm.plK s.k.A t) P
     rw[HGA.out,HGB.out,<-hnbd,HP.out] at hKE
     have HKE:=Z1 hKE
     have hms:=markB_size s.k.enc
     have hbs:(bytesOf s.k.enc s.k.mark nbd).size<=1099511627776:=by
      unfold bytesOf;split
      ·rw[ByteArray.size_append];omega
      ·omega
     have BY:=Z1 (fun W=>rbytes_any s.k.enc s.k.mark nbd W (by omega) hk.h0 hk.h3)
     have OF:=Z1 (fun W=>rof_any (bytesOf s.k.enc s.k.mark nbd) s.k.enc W hbs hk.h0 hk.h3)
     have CH:=Z1 (fun W (h:RH B W r s G)=>rchange_any B r s G (ofK (bytesOf s.k.enc s.k.mark nbd) s.k.enc) W h (by omega))
     have x0':wc.cell? ⟨X,0,none⟩=some (.int .i64 s.k.enc):=by rw[Lib.cell_of_heap hx7];rfl
     have x1':wc.cell? ⟨X,1,none⟩=some (.bool s.k.mark):=by rw[Lib.cell_of_heap hx7];rfl
     have x2':wc.cell? ⟨X,2,none⟩=some (.string nbd):=by rw[Lib.cell_of_heap hx7];rfl
     have hz7:=Z3 x0'
     have hzr7:=(H7.out.ty H7.out.self).2.1
     clear x0 x1 x2 xf hx7 hb7 hnbd hKE PA PB HB6 HX6 H5 HW5 HB5 hPs hPs2 hbd2 hms hsa hsb
     unfold ofK at CH
     simp only at CH
     go_wp2_with fail
     go_region_with
      (first
       |(have _hq:=hof;go_at_call 150;refine (CH.out _ ((H7.out.low (((Below.refl _ _).drew).trans hby)).low hof)).mono ?_;rintro e w9 ⟨rfl,G9,hr9,ht9⟩)
       |(have _hq:=hby;go_at_call 42;refine (OF.out _).mono ?_;rintro e w8 ⟨rfl,hof⟩)
       |(go_at_call 75;refine (BY.out _).mono ?_;rintro e w7 ⟨rfl,hby⟩;have x0b:w7.cell? ⟨X,0,none⟩=some (.int .i64 s.k.enc):=(hby.cell (p:=⟨X,0,none⟩) hz7).trans x0')
       |fail)
     all_goals
      have HR9:=Z1 hr9
      have HT9:=Z1 ((Turn.of_below (F:=G) HW7.out).trans ((Turn.of_below (((Below.refl _ _).drew).trans hby)).trans ((Turn.of_below hof).trans ht9)))
      have HE:=Z1 (show V=(0,⟨rplK s.k f t text,pushK s.O s.k,[]⟩) by
       rw[HV.out,HEQ.out]
       unfold St.chg
       rw[if_pos rfl])
      have HK9:=Z1 (show rplK s.k f t text=ofK (bytesOf s.k.enc s.k.mark nbd) s.k.enc by
       rw[HKE.out];unfold rplK;rw[HEN.out])
      clear hr9 ht9 hby hof x0' x1' x2' hz7 hzr7
      go_wp2_with fail
      go_ret
      exact⟨by rw[HE.out];rfl,G9,by rw[HE.out,HK9.out];exact HR9.out,HT9.out⟩
   ·have b3:(te==0)=false:=by simpa using hte
    have HE:=Z1 (show V=(te,s) by
     rw[HV.out,HEQ.out]
     unfold St.chg
     rw[if_neg hte])
    clear HV HEQ
    go_wp2_with fail
    go_ret
    exact⟨by rw[HE.out];rfl,G,by rw[HE.out];exact H5.out,Turn.of_below HW5.out⟩
  ·have HE:=Z1 (show V=(3,s) by
    rw[HV.out]
    unfold St.rpl
    rw[HRE.out,HSV.out,if_neg hok,if_pos (by decide)]
    rfl)
   clear HV HRE HSV
   by_cases z1:e1=0
   ·subst z1
    have z2:¬e2=0:=fun q=>hok ⟨rfl,q⟩
    have b3:(e2==0)=false:=by simpa using z2
    go_wp2_with fail
    go_ret
    exact⟨by rw[HE.out];rfl,G,by rw[HE.out];exact H3.out,Turn.of_below HW3.out⟩
   ·have b3:(e1==0)=false:=by simpa using z1
    go_wp2_with fail
    go_ret
    exact⟨by rw[HE.out];rfl,G,by rw[HE.out];exact H3.out,Turn.of_below HW3.out⟩
end Go.Proofs.YtoejbngihecafaaGreatDoor
namespace Go.Proofs.YtoejbngihecafaaGreatDoor
open Go.RowKit
theorem rEds (B r:Nat) (s:St) (G:Nat->Prop) (M:Nat) (w:World) (kd:Int) (h:RH B w r s G) (hg:s.Good M) (hM:M<=1000000000) :
  Calls Tryz.prog 122 #[.pointer (some ⟨r,0,none⟩),.int .i64 kd] w fun e w'=>e=.returned (.int .i64 (s.eds kd).1)/\∃G',RH B w' r (s.eds kd).2 G'/\Turn G G' w w':=by
 have hk:=hg.now.1
 have hbd:=good_body hg
 have hlen:=hg.len
 have hAl:=Nat.le_trans (Vm.atoms_len s.k.enc s.k.body.data.toList) (show s.k.body.data.toList.length<=8 * M+1 from hbd)
 have hzr:=(h.ty h.self).2.1
 obtain⟨V,hV⟩:∃V,V=s.eds kd:=⟨_,rfl⟩
 rw[<-hV]
 have HV:=Z1 hV
 have HH:=Z1 h
 clear hV
 by_cases hkd:0<=kd/\kd<=2
 ·have HA:=Z1 (rdatoms_any r s.k.enc s.k.mark s.k.body w h.doc (by omega) hk.h0 hk.h3)
  have HE:=Z1 (show V=(0,⟨endK s.k kd,pushK s.O s.k,[]⟩) by
   rw[HV.out]
   unfold St.eds edE St.chg
   rw[if_pos hkd]
   rfl)
  have n1:¬kd<0:=by omega
  have n2:¬2<kd:=by omega
  clear HV h
  go_enter Tryz.func122,Tryz.ntmps122
  go_wp2_with fail
  refine HA.out.mono ?_
  rintro e w1 ⟨v,L,rfl,hr,hl,ho,hb1⟩
  change Vm.Reads L s.k.A 0 at hr
  have hLA:=hr.length
  obtain⟨p,cap,rfl⟩:∃p cap,v=.slice p L.length cap:=by
   rcases ho.2 with ⟨x,y⟩|⟨g,c,cur,x,_⟩
   ·exact⟨none,0,by rw[x,y]⟩
   ·exact⟨_,_,x⟩
  have H1:=Z1 (HH.out.low hb1)
  have HB1:=Z1 hb1
  have HO:=Z1 ho
  have HR:=Z1 hr
  obtain⟨c0,c1,c2,_⟩:=H1.out.doc
  have hz1:=Z3 c0
  have P4:=Z1 (fun W (h:Below w1.heap.size w1 W)=>rbody_any _ L s.k.A _ L.length W (ho.below h) hr (Nat.le_refl _) (by omega))
  have hall:s.k.A.take L.length=s.k.A:=by rw[hLA,List.take_length]
  rw[hall] at P4
  have HLA:=Z1 hLA
  clear HA HH hb1 ho hr hLA hall
  go_wp2_with fail
  have hx6:=Go.Deep.blk_alloc_new w1 (.cells #[.int .i64 s.k.enc,.bool s.k.mark,.string s.k.body] 99)
  have hb6:Below w1.heap.size w1 (w1.alloc (.cells #[.int .i64 s.k.enc,.bool s.k.mark,.string s.k.body] 99)):=(Below.refl _ _).alloc (Nat.le_refl _) _
  clear c0 c1 c2
  generalize w1.alloc (.cells #[.int .i64 s.k.enc,.bool s.k.mark,.string s.k.body] 99)=w6 at *
  obtain⟨X,hXe⟩:∃X,X=w1.heap.size:=⟨_,rfl⟩
  rw[<-hXe] at hx6 ⊢
  have HX6:=Z1 hx6
  have HB6:=Z1 hb6
  have HXE:=Z1 hXe
  have hXz:X<w6.heap.size:=Z4 hx6
  clear hx6 hb6 hXe hz1
  go_loopw [7,8] (fun sv i wx=>∃j:Nat,j<=L.length/\sv=.string (ofL (Vm.reB s.k.enc kd (s.k.A.take j) s.k.L))/\i=.int .i64 j/\Below w6.heap.size w6 wx) (fun _ i _=>L.length - (intOf i).toNat)
  case atStart=>exact⟨0,Nat.zero_le _,rfl,rfl,Below.refl _ _⟩
  case round =>
   obtain⟨j,hj,rfl,rfl,hbx⟩:=hrel
   have hbX:=HB6.out.trans (hbx.mono HB6.out.size)
   have hxx:=(hbx.block X (Z4 HX6.out)).trans HX6.out
   have x0:wr.cell? ⟨X,0,none⟩=some (.int .i64 s.k.enc):=by rw[Lib.cell_of_heap hxx];rfl
   have x1:wr.cell? ⟨X,1,none⟩=some (.bool s.k.mark):=by rw[Lib.cell_of_heap hxx];rfl
   have x2:wr.cell? ⟨X,2,none⟩=some (.string s.k.body):=by rw[Lib.cell_of_heap hxx];rfl
   have xf:=fun j=>Lib.frozen_of_heap hxx j
   have hzx:=Z3 x0
   have hrl:=reB_len (enc:=s.k.enc) (kind:=kd) (s.k.A.take j) s.k.L
   have htl:(s.k.A.take j).length<=j:=by rw[List.length_take];omega
   have hst:=Nat.le_trans (sizeA_take_le s.k.A j) (sizeA_body s.k)
   have hsz:(ofL (Vm.reB s.k.enc kd (s.k.A.take j) s.k.L)).size<=100000000000:=by rw[ofL_size];omega
   have HBX:=Z1 hbx
   have HBW:=Z1 hbX
   have HXX:=Z1 hxx
   by_cases hlt:j<L.length
   ·have hltI:(j:Int)<(L.length:Int):=by omega
    obtain⟨a,ha⟩:∃a,L[j]?=some a:=⟨L[j],List.getElem?_eq_getElem hlt⟩
    obtain⟨x,hx⟩:∃x,s.k.A[j]?=some x:=⟨s.k.A[j]'(by rw[<-HLA.out];exact hlt),List.getElem?_eq_getElem _⟩
    have hp:=HR.out.pos j a x ha hx
    rw[Nat.zero_add] at hp
    have hse:=sizeA_step hx
    have hst1:=Nat.le_trans (sizeA_take_le s.k.A (j+1)) (sizeA_body s.k)
    have h1:=hp.1
    have h2:a.2.2.2.2=(Vm.sizeA (s.k.A.take (j+1)):Int):=by rw[hp.2.1,hse];simp
    have h3:=hp.2.2.2.1
    obtain⟨g,rfl⟩:∃g,p=some ⟨g,0,none⟩:=by
     rcases HO.out.2 with ⟨y,z⟩|⟨g,c,cur,y,_⟩
     ·omega
     ·injection y with y1;exact⟨g,y1⟩
    have cell:=fun i (hi:i<5)=>((HO.out.below hbX).cellAt (j * 5+i) (by omega)).trans (flatRA_at L j a i ha hi)
    have q2:wr.cell? ⟨g,j * 5+2,none⟩=some (.int .i64 a.2.2.1):=cell 2 (by decide)
    have q3:wr.cell? ⟨g,j * 5+3,none⟩=some (.int .i64 a.2.2.2.1):=cell 3 (by decide)
    have q4:wr.cell? ⟨g,j * 5+4,none⟩=some (.int .i64 a.2.2.2.2):=cell 4 (by decide)
    rw[h1] at q3
    rw[h2] at q4
    rw[h3] at q2
    have hx0:=hp.2.2.2.2.2.1
    have hrs:=reB_step (enc:=s.k.enc) (kind:=kd) s.k.A s.k.L j x hx
    have hzg:=Z3 q2
    generalize hf0:Vm.sizeA (s.k.A.take j)=f0 at *
    generalize ht0:Vm.sizeA (s.k.A.take (j+1))=t0 at *
    have hft:(f0:Int)<=(t0:Int):=by omega
    have htb:(t0:Int)<=(s.k.body.size:Int):=by omega
    have HSE:=Z1 hse
    have HRS:=Z1 hrs
    clear hf0 ht0 hse hrs hp h1 h2 h3 ha hx cell hbx hbX hxx hrl
    generalize hsj:ofL (Vm.reB s.k.enc kd (s.k.A.take j) s.k.L)=sj at *
    have HSJ:=Z1 hsj
    clear hsj
    by_cases h2:x.1<=2
    ·rw[if_pos h2] at q2
     have hpos:0<x.1+1:=by omega
     have HEN:=Z1 (fun W=>rended_any kd s.k.enc W hkd.1 hkd.2 hk.h0 hk.h3)
     have HST:=Z1 (show ofL (Vm.reB s.k.enc kd (s.k.A.take (j+1)) s.k.L)=sj++strOfNums (Vm.endL s.k.enc kd) by
      apply ba_ext
      rw[app_list,ofL_list,HRS.out,if_pos h2,<-HSJ.out,ofL_list,nums_nb])
     have hes:(strOfNums (Vm.endL s.k.enc kd)).size<=8:=by
      rw[nums_size]
      have:=typA_len s.k.enc kd (0,10,1)
      unfold Vm.typA at this
      simpa using this
     generalize strOfNums (Vm.endL s.k.enc kd)=en at *
     generalize x.1+1=xe at *
     clear HRS HSE HSJ h2 hx0
     go_wp2_with fail
     go_quiet (fail)
     go_wp2_with fail
     refine (HEN.out _).mono ?_
     rintro e w7 ⟨rfl,hb7⟩
     have HB7:=Z1 ((below_drewN HBX.out nq).trans (hb7.mono HBX.out.size))
     clear hb7 q2 q3 q4 x0 x1 x2 xf
     go_wp2_with fail
     refine⟨⟨j+1,by omega,?_,by go_num,HB7.out⟩,by simp [intOf];omega⟩
     rw[HST.out]
    ·rw[if_neg h2] at q2
     have HST:=Z1 (show ofL (Vm.reB s.k.enc kd (s.k.A.take (j+1)) s.k.L)=sj++s.k.body.extract f0 t0 by
      apply ba_ext
      rw[app_list,ofL_list,HRS.out,if_neg h2,<-HSJ.out,ofL_list,ext_list]
      congr 2
      have:=HSE.out
      omega)
     have hes:(s.k.body.extract f0 t0).size<=100000000000:=by rw[ByteArray.size_extract];omega
     clear HRS HSE HSJ h2 hx0
     go_wp2_with fail
     go_quiet (fail)
     go_wp2_with fail
     refine⟨⟨j+1,by omega,?_,by go_num,below_drewN HBX.out nq⟩,by simp [intOf];omega⟩
     rw[HST.out]
   ·obtain rfl:j=L.length:=by omega
    have hall:s.k.A.take L.length=s.k.A:=by rw[HLA.out,List.take_length]
    rw[hall] at hsz hst ⊢
    have PA:=Z1 (P4.out wr.drew (hbX.drew))
    have n3:(s.k.body.extract (Vm.sizeA s.k.A) s.k.body.size).size<=100000000000:=by rw[ByteArray.size_extract];omega
    have HEK:=Z1 (show (endK s.k kd).body=ofL (Vm.reB s.k.enc kd s.k.A s.k.L)++s.k.body.extract (Vm.sizeA s.k.A) s.k.body.size by
     apply ba_ext
     unfold endK
     rw[app_list,ofL_list,ofL_list,ext_list]
     congr 1
     exact (List.take_of_length_le (by rw[List.length_drop];exact Nat.le_refl _)).symm)
    generalize ofL (Vm.reB s.k.enc kd s.k.A s.k.L)=sj at *
    generalize Vm.sizeA s.k.A=ga at *
    have hmo:Tryz.prog.follows Departure.mixedOrders=true:=by kernel_rfl
    have H7:=Z1 (H1.out.low hbX)
    clear P4 hlt hall hrl htl hbx hbX hxx
    have n4:¬9223372036854775807<sj.size+(s.k.body.size - ga):=by omega
    have CH:=Z1 (fun W (h:RH B W r s G)=>rchange_any B r s G (endK s.k kd) W h (by omega))
    have HCE:=Z1 (show (endK s.k kd).enc=s.k.enc/\(endK s.k kd).mark=s.k.mark from ⟨rfl,rfl⟩)
    generalize hnbd:sj++s.k.body.extract ga s.k.body.size=nbd at *
    rw[HEK.out,HCE.out.1,HCE.out.2] at CH
    go_wp2_with fail
    go_cut [] from 9 to 63 (fun wx=>wx.heap[X]?=some (.cells #[.int .i64 s.k.enc,.bool s.k.mark,.string nbd] 99)/\Below w1.heap.size w1 wx)
    case first =>
     have HNB:=Z1 hnbd
     clear hnbd
     generalize s.k.body=bd at *
     refine wp_region_still_tail 9 hmo (by kernel_rfl) ?_
     simp only[List.take_succ_cons,List.take_zero,List.drop_succ_cons,List.drop_zero]
     repeat still_step
     still_call PA.out
     repeat still_step
     refine wpStill_nil ?_
     go_wp2_with fail
     go_meet
     rw[HNB.out]
     exact⟨blk_set (show wr.drew.heap[X]?=_ from HXX.out) _,low_tn HBW.out.drew (by rw[HXE.out];exact Nat.le_refl _) ((Tn.refl X _).setCell _)⟩
    case rest =>
     obtain⟨hx7,hb7⟩:=hcut
     have H8:=Z1 (H1.out.low hb7)
     have HW8:=Z1 (HB1.out.trans (hb7.mono HB1.out.size))
     clear x0 x1 x2 xf hnbd PA
     have x0:wc.cell? ⟨X,0,none⟩=some (.int .i64 s.k.enc):=by rw[Lib.cell_of_heap hx7];rfl
     have x1:wc.cell? ⟨X,1,none⟩=some (.bool s.k.mark):=by rw[Lib.cell_of_heap hx7];rfl
     have x2:wc.cell? ⟨X,2,none⟩=some (.string nbd):=by rw[Lib.cell_of_heap hx7];rfl
     have hz7:=Z3 x0
     have hzr7:=(H8.out.ty H8.out.self).2.1
     clear hx7 hb7
     go_wp2_with fail
     refine (CH.out _ H8.out).mono ?_
     rintro e w9 ⟨rfl,G9,hr9,ht9⟩
     have HR9:=Z1 hr9
     have HT9:=Z1 ((Turn.of_below (F:=G) HW8.out).trans ht9)
     clear hr9 ht9 x0 x1 x2 hz7 hzr7 CH
     go_wp2_with fail
     go_ret
     exact⟨by rw[HE.out];rfl,G9,by rw[HE.out];exact HR9.out,HT9.out⟩
 ·have HE:=Z1 (show V=(11,s) by
   rw[HV.out]
   unfold St.eds edE St.chg
   rw[if_neg hkd]
   rfl)
  clear HV h
  by_cases n1:kd<0
  ·go_enter Tryz.func122,Tryz.ntmps122
   go_wp2_with fail
   go_ret
   exact⟨by rw[HE.out];rfl,G,by rw[HE.out];exact HH.out,Turn.refl _ _⟩
  ·have n2:2<kd:=by omega
   go_enter Tryz.func122,Tryz.ntmps122
   go_wp2_with fail
   go_ret
   exact⟨by rw[HE.out];rfl,G,by rw[HE.out];exact HH.out,Turn.refl _ _⟩
end Go.Proofs.YtoejbngihecafaaGreatDoor
namespace Go.Proofs.YtoejbngihecafaaGreatDoor
open Go.RowKit
theorem cnt_any (A:List Vm.At):0<Vm.cntK A 4↔A.any (fun x=>x.1==4)=true:=by
 unfold Vm.cntK
 rw[List.length_pos_iff_exists_mem,List.any_eq_true]
 constructor
 ·rintro ⟨x,hx⟩
  rw[List.mem_filter] at hx
  exact⟨x,hx.1,by simpa using hx.2⟩
 ·rintro ⟨x,h1,h2⟩
  exact⟨x,List.mem_filter.2 ⟨h1,by simpa using h2⟩⟩
theorem fits_false1 {k:Kp} {e:Int} (h:k.A.any (fun x=>x.1==4)=true):fitsK k e=false:=by
 unfold fitsK
 obtain⟨x,h1,h2⟩:=List.any_eq_true.1 h
 have:k.A.all (fun x=>x.1 != 4)=false:=by
  rw[List.all_eq_false]
  exact⟨x,h1,by simpa using h2⟩
 rw[this];rfl
theorem fits_false2 {k:Kp} {e:Int} (h:Vm.sizeA k.A<k.body.size):fitsK k e=false:=by
 unfold fitsK
 have:decide (Vm.sizeA k.A=k.L.length)=false:=decide_eq_false (by rw[k.L_len];omega)
 rw[this,Bool.and_false];rfl
def sayB (en:Int) (A:List Vm.At):Bool:=A.all (fun x=>decide (en≠3\/x.2.1<=255))
theorem fits_false3 {k:Kp} {e:Int} (h:sayB e k.A=false):fitsK k e=false:=by
 unfold sayB at h
 rw[List.all_eq_false] at h
 obtain⟨x,h1,h2⟩:=h
 have h2':e=3/\¬x.2.1<=255:=by
  simp only[decide_eq_true_eq] at h2
  exact⟨by omega,by omega⟩
 unfold fitsK
 have:k.A.all (fun x=>decide (x.2.1<=255))=false:=by
  rw[List.all_eq_false]
  exact⟨x,h1,by simpa using h2'.2⟩
 rw[this,Bool.or_false,decide_eq_false (show ¬e≠3 from fun q=>q h2'.1),Bool.and_false]
theorem fits_true {k:Kp} {e:Int} (h1:k.A.any (fun x=>x.1==4)=false) (h2:¬Vm.sizeA k.A<k.body.size) (h3:sayB e k.A=true):fitsK k e=true:=by
 unfold fitsK
 have g1:k.A.all (fun x=>x.1 != 4)=true:=by
  rw[List.all_eq_true]
  intro x hx
  have:=List.any_eq_false.1 h1 x hx
  simpa using this
 have g2:decide (Vm.sizeA k.A=k.L.length)=true:=decide_eq_true (by have:=sizeA_body k;rw[k.L_len];omega)
 rw[g1,g2]
 unfold sayB at h3
 rw[List.all_eq_true] at h3
 by_cases he:e=3
 ·have g3:k.A.all (fun x=>decide (x.2.1<=255))=true:=by
   rw[List.all_eq_true]
   intro x hx
   have:=h3 x hx
   simp only[decide_eq_true_eq] at this ⊢
   omega
  rw[g3,Bool.or_true];rfl
 ·rw[decide_eq_true (show e≠3 from he)];rfl
theorem sayB_step {en:Int} {A:List Vm.At} {j:Nat} {x:Vm.At} (h:A[j]?=some x):sayB en (A.take (j+1))=(sayB en (A.take j)&&decide (en≠3\/x.2.1<=255)):=by
 unfold sayB
 rw[List.take_add_one,h];simp
theorem any4_step {A:List Vm.At} {j:Nat} {x:Vm.At} (h:A[j]?=some x):(A.take (j+1)).any (fun x=>x.1==4)=((A.take j).any (fun x=>x.1==4) || x.1==4):=by
 rw[List.take_add_one,h];simp
theorem rCod (
       B r:Nat) (s:St) (G:Nat->Prop) (M:Nat) (w:World) (en:Int) (h:RH B w r s G) (hg:s.Good M) (hM:M<=1000000000) :
  Calls Tryz.prog 123 #[.pointer (some ⟨r,0,none⟩),.int .i64 en] w fun e w'=>e=.returned (.int .i64 (s.cod en).1)/\∃G',RH B w' r (s.cod en).2 G'/\Turn G G' w w':=by
 have hk:=hg.now.1
 have hbd:=good_body hg
 have hlen:=hg.len
 have hAl:=Nat.le_trans (Vm.atoms_len s.k.enc s.k.body.data.toList) (show s.k.body.data.toList.length<=8 * M+1 from hbd)
 have hzr:=(h.ty h.self).2.1
 obtain⟨V,hV⟩:∃V,V=s.cod en:=⟨_,rfl⟩
 rw[<-hV]
 have HV:=Z1 hV
 have HH:=Z1 h
 clear hV
 by_cases hkd:0<=en/\en<=3
 ·have HA:=Z1 (rdatoms_any r s.k.enc s.k.mark s.k.body w h.doc (by omega) hk.h0 hk.h3)
  have HE:=Z1 (show V=(if fitsK s.k en=true then (0,⟨encK s.k en,pushK s.O s.k,[]⟩) else (7,s)) by
   rw[HV.out]
   unfold St.cod ecE St.chg
   rw[if_pos hkd]
   split
   ·rfl
   ·rfl)
  have n1:¬en<0:=by omega
  have n2:¬3<en:=by omega
  clear HV h
  go_enter Tryz.func123,Tryz.ntmps123
  go_wp2_with fail
  refine HA.out.mono ?_
  rintro e w1 ⟨v,L,rfl,hr,hl,ho,hb1⟩
  change Vm.Reads L s.k.A 0 at hr
  have hLA:=hr.length
  obtain⟨p,cap,rfl⟩:∃p cap,v=.slice p L.length cap:=by
   rcases ho.2 with ⟨x,y⟩|⟨g,c,cur,x,_⟩
   ·exact⟨none,0,by rw[x,y]⟩
   ·exact⟨_,_,x⟩
  have H1:=Z1 (HH.out.low hb1)
  have HB1:=Z1 hb1
  have HO:=Z1 ho
  have HR:=Z1 hr
  have SH:=Z1 (rstate_any r s.k.enc s.k.mark s.k.body w1 H1.out.doc (by omega) hk.h0 hk.h3)
  have HLA:=Z1 hLA
  have hz1:=(H1.out.ty H1.out.self).2.1
  clear HA HH hb1 ho hr hLA
  obtain⟨n2',n3',n4',n5',n8',hsh⟩:∃n2 n3 n4 n5 n8:Int,shown s.k.enc s.k.mark s.k.body=.agg #[.int .i64 s.k.enc,.bool s.k.mark,.int .i64 n2,.int .i64 n3,.int .i64 n4,.int .i64 n5,.int .i64 (Vm.cntK s.k.A 4),.bool (decide (Vm.sizeA s.k.A<s.k.body.size)),.int .i64 n8]:=⟨_,_,_,_,_,rfl⟩
  rw[hsh] at SH
  clear hsh
  go_wp2_with fail
  refine SH.out.mono ?_
  rintro e w2 ⟨rfl,hb2⟩
  go_wp2_with fail
  have hx6:=Go.Deep.blk_alloc_new w2 (.cells #[.int .i64 s.k.enc,.bool s.k.mark,.int .i64 n2',.int .i64 n3',.int .i64 n4',.int .i64 n5',.int .i64 (Vm.cntK s.k.A 4),.bool (decide (Vm.sizeA s.k.A<s.k.body.size)),.int .i64 n8'] 66)
  have hb6:Below w1.heap.size w1 (w2.alloc (.cells #[.int .i64 s.k.enc,.bool s.k.mark,.int .i64 n2',.int .i64 n3',.int .i64 n4',.int .i64 n5',.int .i64 (Vm.cntK s.k.A 4),.bool (decide (Vm.sizeA s.k.A<s.k.body.size)),.int .i64 n8'] 66)):=hb2.alloc hb2.size _
  clear hb2
  generalize w2.alloc _=w6 at *
  generalize w2.heap.size=X at *
  have HX6:=Z1 hx6
  have HB6:=Z1 hb6
  clear hx6 hb6 SH
  go_loopw [7,8,9] (fun sv al i wx=>∃(j:Nat) (sj:ByteArray) (b:Bool),j<=L.length/\sv=.string sj/\al=.bool b/\i=.int .i64 j/\sj.size<=8 * j/\((s.k.A.take j).any (fun x=>x.1==4)=false->sj=strOfNums (Vm.recL en (s.k.A.take j))/\b=sayB en (s.k.A.take j))/\Below w6.heap.size w6 wx) (fun _ _ i _=>L.length - (intOf i).toNat)
  case atStart=>exact⟨0,⟨#[]⟩,true,Nat.zero_le _,rfl,rfl,rfl,Nat.le_refl _,fun _=>⟨rfl,rfl⟩,Below.refl _ _⟩
  case round =>
   obtain⟨j,sj,b,hj,rfl,rfl,rfl,hsz,hinv,hbx⟩:=hrel
   have hbX:=HB6.out.trans (hbx.mono HB6.out.size)
   have HBX:=Z1 hbx
   have HBW:=Z1 hbX
   have HINV:=Z1 hinv
   clear hinv
   by_cases hlt:j<L.length
   ·have hltI:(j:Int)<(L.length:Int):=by omega
    obtain⟨a,ha⟩:∃a,L[j]?=some a:=⟨L[j],List.getElem?_eq_getElem hlt⟩
    obtain⟨x,hx⟩:∃x,s.k.A[j]?=some x:=⟨s.k.A[j]'(by rw[<-HLA.out];exact hlt),List.getElem?_eq_getElem _⟩
    have hp:=HR.out.pos j a x ha hx
    have hmem:=List.mem_of_getElem? hx
    have hao:=Vm.atoms_ok s.k.enc s.k.L x hmem
    obtain⟨g,rfl⟩:∃g,p=some ⟨g,0,none⟩:=by
     rcases HO.out.2 with ⟨y,z⟩|⟨g,c,cur,y,_⟩
     ·omega
     ·injection y with y1;exact⟨g,y1⟩
    have cell:=fun (W:World) (hb:Below w1.heap.size w1 W) i (hi:i<5)=>((HO.out.below hb).cellAt (j * 5+i) (by omega)).trans (flatRA_at L j a i ha hi)
    have q0:wr.cell? ⟨g,j * 5,none⟩=some (.int .i64 a.1):=cell wr hbX 0 (by decide)
    have hcell2:∀W,Below w1.heap.size w1 W->W.cell? ⟨g,j * 5+2,none⟩=some (.int .i64 a.2.2.1):=fun W hb=>cell W hb 2 (by decide)
    have HC2:=Z1 hcell2
    have hzg:=Z3 q0
    have ha1:=hp.2.2.2.2.2.2.2
    have WR:=Z1 (fun W=>rwritten_any a.1 en W ha1.1 ha1.2 hkd.1 hkd.2)
    have hend:=hp.2.2.2.1
    have hchr:=hp.2.2.2.2.1
    have hx0:=hp.2.2.2.2.2.1
    have hten:=hao.2.2.2.1
    have hrs:=recL_step (enc:=en) hx
    have hsb:=sayB_step (en:=en) hx
    have ha4:=any4_step hx
    have hwl:(strOfNums (Vm.wrL en a.1)).size<=8:=by rw[nums_size];have:=wr_len en a.1;omega
    generalize hok:decide (en≠3\/a.1<=255)=ok at *
    have HOK:=Z1 hok
    clear hok hp hao hmem ha hx cell hcell2 hbX hbx
    by_cases h2:x.1<=2
    ·have ED:=Z1 (fun W=>rended_any x.1 en W hx0 h2 hkd.1 hkd.2)
     have hel:(strOfNums (Vm.endL en x.1)).size<=8:=by
      rw[nums_size]
      have:=typA_len en x.1 (0,10,1)
      unfold Vm.typA at this
      simpa using this
     rw[if_pos h2] at hend
     have hpos:0<a.2.2.1:=by omega
     have hwr:IntKind.i64.wrap (a.2.2.1 - 1)=x.1:=by rw[IntKind.wrap_i64,hend];omega
     have hac:=hchr (by omega)
     have HN:=Z1 (show (s.k.A.take (j+1)).any (fun x=>x.1==4)=false->sj++strOfNums (Vm.endL en x.1)=strOfNums (Vm.recL en (s.k.A.take (j+1)))/\(b&&ok)=sayB en (s.k.A.take (j+1)) from fun h=>by
      rw[ha4,Bool.or_eq_false_iff] at h
      obtain⟨i1,i2⟩:=HINV.out h.1
      rw[hrs,hsb,strOf_append,<-i1,<-i2,<-HOK.out,hac]
      refine⟨?_,rfl⟩
      unfold Vm.recA
      rw[if_pos h2])
     clear hend hrs hsb ha4 HINV hac hchr hten HOK h2
     generalize strOfNums (Vm.wrL en a.1)=u1 at *
     generalize strOfNums (Vm.endL en x.1)=u2 at *
     generalize a.2.2.1=ae at *
     generalize a.1=ac at *
     go_wp2_with fail
     refine (WR.out _).mono ?_
     rintro e w7 ⟨rfl,hb7⟩
     have hbw7:=HBW.out.trans (hb7.mono HBW.out.size)
     have q2:=HC2.out _ hbw7
     have hzg7:=Z3 q2
     have HB7:=Z1 (HBX.out.trans (hb7.mono HBX.out.size))
     have HBW7:=Z1 hbw7
     clear q0 hzg hb7 hbw7
     go_wp2_with fail
     refine (ED.out _).mono ?_
     rintro e w8 ⟨rfl,hb8⟩
     have HB8:=Z1 (HB7.out.trans (hb8.mono HB7.out.size))
     clear q2 hzg7 hb8
     cases b
     ·go_wp2_with fail
      refine⟨⟨j+1,_,_,by omega,rfl,rfl,by go_num,by rw[ByteArray.size_append];omega,HN.out,HB8.out⟩,by simp [intOf];omega⟩
     ·go_wp2_with fail
      refine⟨⟨j+1,_,_,by omega,rfl,rfl,by go_num,by rw[ByteArray.size_append];omega,HN.out,HB8.out⟩,by simp [intOf];omega⟩
    ·rw[if_neg h2] at hend
     have HN:=Z1 (show (s.k.A.take (j+1)).any (fun x=>x.1==4)=false->sj++strOfNums (Vm.wrL en a.1)=strOfNums (Vm.recL en (s.k.A.take (j+1)))/\(b&&ok)=sayB en (s.k.A.take (j+1)) from fun h=>by
      rw[ha4,Bool.or_eq_false_iff] at h
      have hac:=hchr (by simpa using h.2)
      obtain⟨i1,i2⟩:=HINV.out h.1
      rw[hrs,hsb,strOf_append,<-i1,<-i2,<-HOK.out,hac]
      refine⟨?_,rfl⟩
      unfold Vm.recA
      rw[if_neg h2])
     clear hrs hsb ha4 HINV hchr hten HOK h2
     generalize strOfNums (Vm.wrL en a.1)=u1 at *
     generalize a.1=ac at *
     rw[hend] at HC2
     go_wp2_with fail
     refine (WR.out _).mono ?_
     rintro e w7 ⟨rfl,hb7⟩
     have hbw7:=HBW.out.trans (hb7.mono HBW.out.size)
     have q2:=HC2.out _ hbw7
     have hzg7:=Z3 q2
     have HB7:=Z1 (HBX.out.trans (hb7.mono HBX.out.size))
     clear q0 hzg hb7 hbw7 hend
     cases b
     ·go_wp2_with fail
      refine⟨⟨j+1,_,_,by omega,rfl,rfl,by go_num,by rw[ByteArray.size_append];omega,HN.out,HB7.out⟩,by simp [intOf];omega⟩
     ·go_wp2_with fail
      refine⟨⟨j+1,_,_,by omega,rfl,rfl,by go_num,by rw[ByteArray.size_append];omega,HN.out,HB7.out⟩,by simp [intOf];omega⟩
   ·obtain rfl:j=L.length:=by omega
    have hall:s.k.A.take L.length=s.k.A:=by rw[HLA.out,List.take_length]
    rw[hall] at HINV
    have hxx:=(hbx.block X (Z4 HX6.out)).trans HX6.out
    have x6:wr.cell? ⟨X,6,none⟩=some (.int .i64 (Vm.cntK s.k.A 4)):=by rw[Lib.cell_of_heap hxx];rfl
    have x7:wr.cell? ⟨X,7,none⟩=some (.bool (decide (Vm.sizeA s.k.A<s.k.body.size))):=by rw[Lib.cell_of_heap hxx];rfl
    have hzx:=Z3 x6
    have H7:=Z1 (H1.out.low hbX)
    have HW7:=Z1 (HB1.out.trans (hbX.mono HB1.out.size))
    have hbadN:fitsK s.k en=false->V=(7,s):=fun q=>by rw[HE.out,if_neg (by rw[q];decide)]
    have HBAD:=Z1 hbadN
    clear hxx hall hbadN hbx hbX
    cases hesc:s.k.A.any (fun x=>x.1==4) with
    |true =>
     have hc4:(0:Int)<(Vm.cntK s.k.A 4:Int):=by have:=(cnt_any s.k.A).2 hesc;omega
     have HE7:=Z1 (HBAD.out (fits_false1 hesc))
     clear hesc HINV HE HBAD
     generalize (Vm.cntK s.k.A 4:Int)=c4 at *
     go_wp2_with fail
     go_ret
     exact⟨by rw[HE7.out];rfl,G,by rw[HE7.out];exact H7.out,Turn.of_below HW7.out⟩
    |false =>
     have hc4:¬(0:Int)<(Vm.cntK s.k.A 4:Int):=fun q=>by
      have:=(cnt_any s.k.A).1 (by omega)
      rw[hesc] at this;cases this
     obtain⟨i1,i2⟩:=HINV.out hesc
     by_cases htl:Vm.sizeA s.k.A<s.k.body.size
     ·have HE7:=Z1 (HBAD.out (fits_false2 htl))
      rw[decide_eq_true htl] at x7
      clear hesc HINV HE HBAD i1 i2 htl
      generalize (Vm.cntK s.k.A 4:Int)=c4 at *
      go_wp2_with fail
      go_ret
      exact⟨by rw[HE7.out];rfl,G,by rw[HE7.out];exact H7.out,Turn.of_below HW7.out⟩
     ·rw[decide_eq_false htl] at x7
      cases b with
      |false =>
       have HE7:=Z1 (HBAD.out (fits_false3 i2.symm))
       clear hesc HINV HE HBAD i1 i2 htl
       generalize (Vm.cntK s.k.A 4:Int)=c4 at *
       go_wp2_with fail
       go_ret
       exact⟨by rw[HE7.out];rfl,G,by rw[HE7.out];exact H7.out,Turn.of_below HW7.out⟩
      |true =>
       have HE0:=Z1 (show V=(0,⟨encK s.k en,pushK s.O s.k,[]⟩) by rw[HE.out,if_pos (fits_true hesc htl i2.symm)])
       clear hesc HINV HE HBAD i2 htl
       generalize (Vm.cntK s.k.A 4:Int)=c4 at *
       obtain⟨c0,c1,c2,_⟩:=H7.out.doc
       have hz7:=Z3 c0
       obtain⟨mk,hmk⟩:∃mk,mk=(s.k.mark&&decide (en≠3)):=⟨_,rfl⟩
       have HMK:=Z1 hmk
       have HSJ:=Z1 i1
       clear hmk i1
       have hsj8:sj.size<=1000000000000:=by omega
       have hms:=markB_size en
       have hbs:(bytesOf en mk sj).size<=1099511627776:=by
        unfold bytesOf;split
        ·rw[ByteArray.size_append];omega
        ·omega
       have BY:=Z1 (fun W=>rbytes_any en mk sj W (by omega) hkd.1 hkd.2)
       have OF:=Z1 (fun W=>rof_any (bytesOf en mk sj) en W hbs hkd.1 hkd.2)
       have CH:=Z1 (fun W (h:RH B W r s G)=>rchange_any B r s G (ofK (bytesOf en mk sj) en) W h (by omega))
       unfold ofK at CH
       simp only at CH
       have HK9:=Z1 (show encK s.k en=ofK (bytesOf en mk sj) en by
        unfold encK
        rw[HMK.out,HSJ.out])
       have HMM:=Z1 (show s.k.mark=true->(en != 3)=mk from fun q=>by rw[HMK.out,q,Bool.true_and];by_cases h:en=3<;>simp [h])
       have HMF:=Z1 (show s.k.mark=false->false=mk from fun q=>by rw[HMK.out,q];rfl)
       clear hms hbs HMK HSJ HB6 HX6 HO HR c2 hsz hAl hl
       have fin:∀w9:World,(Below wr.heap.size wr w9)->Calls Tryz.prog 150 #[.pointer (some ⟨r,0,none⟩),.agg #[.int .i64 en,.bool (ofMark (bytesOf en mk sj) en),.string (ofBody (bytesOf en mk sj) en)]] w9 fun e w'=>e=.returned (.tuple #[])/\(Ending.returned (Value.int .i64 0)=Ending.returned (.int .i64 V.1)/\∃G',RH B w' r V.2 G'/\Turn G G' w w'):=fun w9 hb9 =>
        (CH.out w9 (H7.out.low hb9)).mono fun e w' ⟨he,G',h2,h3⟩=>⟨he,by rw[HE0.out],G',by rw[HE0.out,HK9.out];exact h2,(Turn.of_below (F:=G) HW7.out).trans ((Turn.of_below hb9).trans h3)⟩
       have FIN:=Z1 fin
       clear fin CH HK9 HE0 H7 HW7
       cases hm:s.k.mark with
       |true =>
        have hne:=HMM.out hm
        rw[hm] at c1
        clear HMM HMF hm
        go_wp2_with fail
        refine (BY.out _).mono ?_
        rintro e w8 ⟨rfl,hb8⟩
        go_wp2_with fail
        refine (OF.out _).mono ?_
        rintro e w9 ⟨rfl,hb9⟩
        have hba:Below wr.heap.size wr (wr.alloc (.cells #[.int .i64 en,.bool mk,.string sj] 99)):=(Below.refl _ _).alloc (Nat.le_refl _) _
        have hb89:=(hba.trans (hb8.mono hba.size)).trans (hb9.mono (Nat.le_trans hba.size hb8.size))
        have F9:=Z1 (FIN.out w9 hb89)
        have hz9:r<w9.heap.size:=by have:=hb89.size;omega
        clear hb8 hb9 hba hb89 FIN BY OF c0 c1 x6 x7
        go_wp2_with fail
        refine F9.out.mono ?_
        rintro e w10 ⟨rfl,hfin⟩
        have HFN:=Z1 hfin
        clear hfin F9
        go_wp2_with fail
        go_ret
        exact HFN.out
       |false =>
        have hne:=HMF.out hm
        subst hne
        rw[hm] at c1
        clear HMM HMF hm
        go_wp2_with fail
        refine (BY.out _).mono ?_
        rintro e w8 ⟨rfl,hb8⟩
        go_wp2_with fail
        refine (OF.out _).mono ?_
        rintro e w9 ⟨rfl,hb9⟩
        have hba:Below wr.heap.size wr (wr.alloc (.cells #[.int .i64 en,.bool false,.string sj] 99)):=(Below.refl _ _).alloc (Nat.le_refl _) _
        have hb89:=(hba.trans (hb8.mono hba.size)).trans (hb9.mono (Nat.le_trans hba.size hb8.size))
        have F9:=Z1 (FIN.out w9 hb89)
        have hz9:r<w9.heap.size:=by have:=hb89.size;omega
        clear hb8 hb9 hba hb89 FIN BY OF c0 c1 x6 x7
        go_wp2_with fail
        refine F9.out.mono ?_
        rintro e w10 ⟨rfl,hfin⟩
        have HFN:=Z1 hfin
        clear hfin F9
        go_wp2_with fail
        go_ret
        exact HFN.out
 ·have HE:=Z1 (show V=(1,s) by
   rw[HV.out]
   unfold St.cod ecE St.chg
   rw[if_neg hkd]
   rfl)
  clear HV h
  by_cases n1:en<0
  ·go_enter Tryz.func123,Tryz.ntmps123
   go_wp2_with fail
   go_ret
   exact⟨by rw[HE.out];rfl,G,by rw[HE.out];exact HH.out,Turn.refl _ _⟩
  ·have n2:3<en:=by omega
   go_enter Tryz.func123,Tryz.ntmps123
   go_wp2_with fail
   go_ret
   exact⟨by rw[HE.out];rfl,G,by rw[HE.out];exact HH.out,Turn.refl _ _⟩
end Go.Proofs.YtoejbngihecafaaGreatDoor
