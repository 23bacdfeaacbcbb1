import Derived.Test.YtoejbngihecafaaGreatDoorC4
import Derived.Test.YtoejbngihecafaaGreatDoorC21
import Derived.Test.YtoejbngihecafaaGreatDoorC0
set_option maxRecDepth 100000
set_option maxHeartbeats 4000000
open Go.Proofs.Tryz
namespace Go.Proofs.YtoejbngihecafaaGreatDoor
open Go.RowKit
variable {W w:World} {q C r k:Nat} {enc o:Int} {mark:Bool} {body:ByteArray} {u v0 v1 v2 v3 v4 v5 v6 v7 v8:Value} {A:List Vm.At}
variable {T:World->Prop} {D:World->Nat->Int->Bool->ByteArray->Prop}
theorem QgC (B:Nat) (enc:Int) (mark:Bool) (body:ByteArray) (w:World) (hd:RDoc w B enc mark body) (hs:body.size<=1099511627776) (h0:0<=enc) (h3:enc<=3) :
  Calls prog 46 #[.pointer (some ⟨B,0,none⟩)] w fun e w'=>e=.returned (shown enc mark body)/\Below w.heap.size w w' :=
 (QhM B enc mark body w hd hs h0 h3).mono (fun _ _ h=>⟨h.1 _ rfl,h.2⟩)
theorem QiQ (enc:Int) (mark:Bool) (body:ByteArray):∃n2 n3 n4 n5 n6 t7 n8,shown enc mark body=.agg #[.int .i64 enc,.bool mark,.int .i64 n2,.int .i64 n3,.int .i64 n4,.int .i64 n5,.int .i64 n6,.bool t7,.int .i64 n8]:=⟨_,_,_,_,_,_,_,rfl⟩
theorem Qb0 {w':World} (h:w.cell? ⟨q,1,none⟩=some u/\w.cell? ⟨C,0,none⟩=some v0/\w.cell? ⟨C,1,none⟩=some v1/\w.cell? ⟨C,2,none⟩=some v2/\w.cell? ⟨C,3,none⟩=some v3/\w.cell? ⟨C,4,none⟩=some v4/\w.cell? ⟨C,5,none⟩=some v5/\w.cell? ⟨C,6,none⟩=some v6/\w.cell? ⟨C,7,none⟩=some v7/\w.cell? ⟨C,8,none⟩=some v8/\RDoc w r enc mark body/\Below W.heap.size W w) (hb:Below w.heap.size w w'):w'.cell? ⟨q,1,none⟩=some u/\w'.cell? ⟨C,0,none⟩=some v0/\w'.cell? ⟨C,1,none⟩=some v1/\w'.cell? ⟨C,2,none⟩=some v2/\w'.cell? ⟨C,3,none⟩=some v3/\w'.cell? ⟨C,4,none⟩=some v4/\w'.cell? ⟨C,5,none⟩=some v5/\w'.cell? ⟨C,6,none⟩=some v6/\w'.cell? ⟨C,7,none⟩=some v7/\w'.cell? ⟨C,8,none⟩=some v8/\RDoc w' r enc mark body/\Below W.heap.size W w':=by
 obtain⟨h,c0,c1,c2,c3,c4,c5,c6,c7,c8,d,k⟩:=h;have g:∀b o v,w.cell? ⟨b,o,none⟩=some v->w'.cell? ⟨b,o,none⟩=some v:=fun b o v h=>(hb.cell (p:=⟨b,o,none⟩) (Z3 h)).trans h;exact⟨g _ _ _ h,g _ _ _ c0,g _ _ _ c1,g _ _ _ c2,g _ _ _ c3,g _ _ _ c4,g _ _ _ c5,g _ _ _ c6,g _ _ _ c7,g _ _ _ c8,d.below hb,k.trans (hb.mono k.size)⟩
theorem Qfo (h:w.cell? ⟨q,1,none⟩=some u/\w.cell? ⟨C,0,none⟩=some v0/\w.cell? ⟨C,1,none⟩=some v1/\w.cell? ⟨C,2,none⟩=some v2/\w.cell? ⟨C,3,none⟩=some v3/\w.cell? ⟨C,4,none⟩=some v4/\w.cell? ⟨C,5,none⟩=some v5/\w.cell? ⟨C,6,none⟩=some v6/\w.cell? ⟨C,7,none⟩=some v7/\w.cell? ⟨C,8,none⟩=some v8/\RDoc w r enc mark body/\Below W.heap.size W w):w.drew.cell? ⟨q,1,none⟩=some u/\w.drew.cell? ⟨C,0,none⟩=some v0/\w.drew.cell? ⟨C,1,none⟩=some v1/\w.drew.cell? ⟨C,2,none⟩=some v2/\w.drew.cell? ⟨C,3,none⟩=some v3/\w.drew.cell? ⟨C,4,none⟩=some v4/\w.drew.cell? ⟨C,5,none⟩=some v5/\w.drew.cell? ⟨C,6,none⟩=some v6/\w.drew.cell? ⟨C,7,none⟩=some v7/\w.drew.cell? ⟨C,8,none⟩=some v8/\RDoc w.drew r enc mark body/\Below W.heap.size W w.drew:=Qb0 h ((Below.refl _ _).drew)
theorem QkM (api:Api T D) (q p r:Nat) (enc:Int) (mark:Bool) (body:ByteArray) (w:World) (ht:T w) (hp:w.cell? ⟨q,0,none⟩=some (.pointer (some ⟨p,0,none⟩))) (hr:w.cell? ⟨q,1,none⟩=some (.pointer (some ⟨r,0,none⟩)))
  (hd:D w p enc mark body) (hw:RDoc w r enc mark body) (hs:body.size<=1099511627000) (h0:0<=enc) (h3:enc<=3) :
  Calls prog 15 #[.pointer (some ⟨q,0,none⟩)] w fun e w'=>e=.returned (.bool true)/\Below w.heap.size w w':=by
 have a1:=fun w=>api.save p enc mark body w
 have a2:=fun w=>api.text p enc mark body w
 have a3:=fun w=>api.state p enc mark body w
 have a4:=fun w=>api.stable p enc mark body w
 have b1:=fun w h=>Qfc r enc mark body w h (by omega) h0 h3
 have b2:=fun w h=>Ql6 r enc mark body w h (by omega) h0 h3
 have b3:=fun w h=>QgC r enc mark body w h (by omega) h0 h3
 have b4:=fun w h=>Qjn r enc mark body w h hs h0 h3
 obtain⟨n2,n3,n4,n5,n6,t7,n8,hsh⟩:=QiQ enc mark body
 rw[hsh] at a3 b3
 clear hsh
 generalize bytesOf enc mark body=X1 at *
 generalize strOfNums (Vm.textL (Vm.atoms enc body.data.toList))=X2 at *
 generalize stableB enc mark body=X4 at *
 have A1:=Z2 a1
 have A2:=Z2 a2
 have A3:=Z2 a3
 have A4:=Z2 a4
 have B1:=Z2 b1
 have B2:=Z2 b2
 have B3:=Z2 b3
 have B4:=Z2 b4
 clear a1 a2 a3 a4 b1 b2 b3 b4
 go_enter func15,ntmps15
 go_wp2_with fail
 refine (A1.o w ht hd).mono ?_
 rintro e w1 ⟨rfl,hb1⟩
 have ht1:=api.tab ht hb1
 have hd1:=api.low hd hb1
 have hp1:=(hb1.cell (p:=⟨q,0,none⟩) (Z3 hp)).trans hp
 have hr1:=(hb1.cell (p:=⟨q,1,none⟩) (Z3 hp)).trans hr
 have hw1:=hw.below hb1
 go_wp2_with fail
 refine (A2.o w1 ht1 hd1).mono ?_
 rintro e w2 ⟨rfl,hb2⟩
 have ht2:=api.tab ht1 hb2
 have hd2:=api.low hd1 hb2
 have hp2:=(hb2.cell (p:=⟨q,0,none⟩) (Z3 hp1)).trans hp1
 have hr2:=(hb2.cell (p:=⟨q,1,none⟩) (Z3 hp1)).trans hr1
 have hw2:=hw1.below hb2
 go_wp2_with fail
 refine (A3.o w2 ht2 hd2).mono ?_
 rintro e w3 ⟨rfl,hb3⟩
 have hba:=Z7 w3 (.cells #[.int .i64 enc,.bool mark,.int .i64 n2,.int .i64 n3,.int .i64 n4,.int .i64 n5,.int .i64 n6,.bool t7,.int .i64 n8] 66)
 have hb3':=hb3.trans (hba.mono hb3.size)
 have ht3:=api.tab ht2 hb3'
 have hd3:=api.low hd2 hb3'
 have hp3:=(hb3'.cell (p:=⟨q,0,none⟩) (Z3 hp2)).trans hp2
 have hr3:=(hb3'.cell (p:=⟨q,1,none⟩) (Z3 hp2)).trans hr2
 have hw3:=hw2.below hb3'
 have bx:=Bx9.new w3 66 (.int .i64 enc) (.bool mark) (.int .i64 n2) (.int .i64 n3) (.int .i64 n4) (.int .i64 n5) (.int .i64 n6) (.bool t7) (.int .i64 n8)
 have hqz:=Z3 hp2
 have hqz3:q<w3.heap.size:=Nat.lt_of_lt_of_le hqz hb3.size
 have hp3':=(hb3.cell (p:=⟨q,0,none⟩) (Z3 hp2)).trans hp2
 have hr3':=(hb3.cell (p:=⟨q,1,none⟩) (Z3 hp2)).trans hr2
 have BX:=Z2 bx
 clear bx
 go_wp2_with fail
 refine (A4.o _ ht3 hd3).mono ?_
 rintro e w4 ⟨rfl,hb4⟩
 have hp4:=(hb4.cell (p:=⟨q,0,none⟩) (Z3 hp3)).trans hp3
 have hr4:=(hb4.cell (p:=⟨q,1,none⟩) (Z3 hp3)).trans hr3
 have hw4:=hw3.below hb4
 have bx4:=BX.o.below hb4
 have hb04:Below w.heap.size w w4:=((hb1.trans (hb2.mono hb1.size)).trans (hb3'.mono (Nat.le_trans hb1.size hb2.size))).trans (hb4.mono (Nat.le_trans hb1.size (Nat.le_trans hb2.size hb3'.size)))
 clear hp hr hp1 hr1 hp2 hr2 hp3 hr3 hp3' hr3' ht hd hw ht1 hd1 hw1 ht2 hd2 hw2 ht3 hd3 hw3 hba hb3' hb1 hb2 hb3 hqz hqz3 A1 A2 A3 A4 BX hb4
 obtain⟨c0,c1,c2,c3,c4,c5,c6,c7,c8,_⟩:=bx4
 generalize w3.heap.size=C at *
 have hS0:w4.cell? ⟨q,1,none⟩=some (.pointer (some ⟨r,0,none⟩))/\w4.cell? ⟨C,0,none⟩=some (.int .i64 enc)/\w4.cell? ⟨C,1,none⟩=some (.bool mark)/\w4.cell? ⟨C,2,none⟩=some (.int .i64 n2)/\w4.cell? ⟨C,3,none⟩=some (.int .i64 n3)/\w4.cell? ⟨C,4,none⟩=some (.int .i64 n4)/\w4.cell? ⟨C,5,none⟩=some (.int .i64 n5)/\w4.cell? ⟨C,6,none⟩=some (.int .i64 n6)/\w4.cell? ⟨C,7,none⟩=some (.bool t7)/\w4.cell? ⟨C,8,none⟩=some (.int .i64 n8)/\RDoc w4 r enc mark body/\Below w4.heap.size w4 w4:=⟨hr4,c0,c1,c2,c3,c4,c5,c6,c7,c8,hw4,Below.refl w4.heap.size w4⟩
 have hS:=Z2 hS0
 clear hS0
 have hw4d:RDoc w4.drew r enc mark body:=hw4.below ((Below.refl _ _).drew)
 have hSd:=Qfo hS.o
 go_wp2_with fail
 go_region_held3 (fun w'=>w'.cell? ⟨q,1,none⟩=some (.pointer (some ⟨r,0,none⟩))/\w'.cell? ⟨C,0,none⟩=some (.int .i64 enc)/\w'.cell? ⟨C,1,none⟩=some (.bool mark)/\w'.cell? ⟨C,2,none⟩=some (.int .i64 n2)/\w'.cell? ⟨C,3,none⟩=some (.int .i64 n3)/\w'.cell? ⟨C,4,none⟩=some (.int .i64 n4)/\w'.cell? ⟨C,5,none⟩=some (.int .i64 n5)/\w'.cell? ⟨C,6,none⟩=some (.int .i64 n6)/\w'.cell? ⟨C,7,none⟩=some (.bool t7)/\w'.cell? ⟨C,8,none⟩=some (.int .i64 n8)/\RDoc w' r enc mark body/\Below w4.heap.size w4 w')
  (first|assumption|exact hS.o|exact Qfo hS.o)
  (first
   |(go_at_call 44;refine (B1.o _ (by assumption)).mono ?_;rintro e w5 ⟨rfl,hb5⟩;have hw5:=RDoc.below (B:=r) (enc:=enc) (mark:=mark) (body:=body) (by assumption) hb5;have hS5:=Qb0 (by assumption) hb5)
   |(go_at_call 45;refine (B2.o _ (by assumption)).mono ?_;rintro e w6 ⟨rfl,hb6⟩;have hw6:=RDoc.below (B:=r) (enc:=enc) (mark:=mark) (body:=body) (by assumption) hb6;have hS6:=Qb0 (by assumption) hb6)
   |(go_at_call 46;refine (B3.o _ (by assumption)).mono ?_;rintro e w7 ⟨rfl,hb7⟩;have hw7:=RDoc.below (B:=r) (enc:=enc) (mark:=mark) (body:=body) (by assumption) hb7;have hS7:=Qb0 (by assumption) hb7)
   |(go_at_call 47;refine (B4.o _ (by assumption)).mono ?_;rintro e w8 ⟨rfl,hb8⟩;have hw8:=RDoc.below (B:=r) (enc:=enc) (mark:=mark) (body:=body) (by assumption) hb8;have hS8:=Qb0 (by assumption) hb8))
 have hb48:Below w4.heap.size w4 w8:=hS8.2.2.2.2.2.2.2.2.2.2.2
 clear hS5 hS6 hS7 hS8
 go_wp2
 go_ret
 exact⟨rfl,hb04.trans (hb48.mono hb04.size)⟩
variable {T:World->Prop} {D:World->Nat->Int->Bool->ByteArray->Prop}
theorem QlV (api:Api T D) (b:ByteArray) (mode:Int) (w:World) (ht:T w) (h:mode<0\/7<mode) :
  Calls prog 19 #[.string b,.int .i64 mode] w fun e w'=>∃q,e=.returned (.tuple #[.pointer (some ⟨q,0,none⟩),.bool true])/\w'.cell? ⟨q,0,none⟩=some (.pointer none)/\Below w.heap.size w w':=by
 have L:=Z2 (fun w k=>api.load_no b mode w k h)
 have R:=Z2 (fun w=>QjE b mode w h)
 go_enter func19,ntmps19
 go_wp2_with fail
 refine (L.o w ht).mono ?_
 rintro e w1 ⟨rfl,hb1⟩
 go_wp2_with fail
 refine (R.o w1).mono ?_
 rintro e w2 ⟨rfl,rfl⟩
 go_wp2_with fail
 have hba:=Z7 w2 (.cells #[.pointer none,.pointer none] 46)
 go_ret2
 exact⟨w2.heap.size,rfl,by simp,hb1.trans (hba.mono hb1.size)⟩
def rplV (A:List Vm.At) (o:Int):Int × Int :=
 if o<0\/(Vm.bytesA A:Int)<o then (0,2) else if (Vm.bytesA (A.take (Vm.plK A o)):Int)<o then (0,3) else (Vm.plK A o,0)
theorem QjP (h:o<0\/(Vm.bytesA A:Int)<o):rplV A o=(0,2):=by unfold rplV;rw[if_pos h]
theorem Qml (hk:k<=A.length) (ho:(Vm.bytesA (A.take k):Int)=o):rplV A o=((k:Int),0):=by
 subst ho;have h1:Vm.plK A (Vm.bytesA (A.take k))=k:=Vm.Qn3 hk (Int.le_refl _) (fun hl=>by have:=Vm.Qeb A k (k+1) (by omega) hl;omega);have h2:Vm.bytesA (A.take k)<=Vm.bytesA A:=by have:=Vm.QbB A k A.length hk;rwa [List.take_length] at this
 unfold rplV;rw[h1,if_neg (by omega),if_neg (by omega)]
theorem QoF (hk:k<A.length) (h1:(Vm.bytesA (A.take k):Int)<o) (h2:o<Vm.bytesA (A.take (k+1))):rplV A o=(0,3):=by
 have h3:Vm.plK A o=k:=Vm.Qn3 (by omega) (by omega) (fun _=>h2);have h4:Vm.bytesA (A.take (k+1))<=Vm.bytesA A:=by have:=Vm.QbB A (k+1) A.length hk;rwa [List.take_length] at this
 unfold rplV;rw[h3,if_neg (by omega),if_pos h1]
theorem Qeh (v:Value) (L:List Vm.RA) (A:List Vm.At) (base:Nat) (o:Int) (w:World) (ho:Holds w base v L) (hr:Vm.Reads L A 0) (hok:∀x∈A,Vm.AtOk x) (hl:L.length<=1099511627776) :
  Calls prog 146 #[v,.int .i64 o] w fun e w'=>e=.returned (.tuple #[.int .i64 (rplV A o).1,.int .i64 (rplV A o).2])/\Below w.heap.size w w':=by
 obtain⟨p,cap,rfl⟩:∃p cap,v=.slice p L.length cap:=by
  rcases ho.2 with ⟨x,y⟩|⟨g,c,cur,x,_⟩
  ·exact⟨none,0,by rw[x,y]⟩
  exact⟨_,_,x⟩
 have hlen:=hr.length
 obtain⟨V,hV⟩:∃V,V=rplV A o:=⟨_,rfl⟩
 rw[<-hV]
 have HV:=Z2 hV
 have HO:=Z2 ho
 have HR:=Z2 hr
 have HL:=Z2 hlen
 have HOK:=Z2 hok
 clear ho hr hlen hV hok
 by_cases hneg:o<0
 ·go_enter func146,ntmps146;go_wp2;go_ret2;exact⟨by rw[HV.o,QjP (.inl hneg)];rfl,Below.refl _ _⟩
 go_enter func146,ntmps146
 go_wp2
 go_loopw [6,7] (fun at_ i wx=>∃k:Nat,k<=L.length/\at_=.int .i64 (Vm.bytesA (A.take k))/\i=.int .i64 k/\(Vm.bytesA (A.take k):Int)<=o/\Below w.heap.size w wx) (fun _ i _=>L.length - (intOf i).toNat)
 case atStart=>exact⟨0,Nat.zero_le _,rfl,rfl,by simpa [Vm.bytesA] using hneg,Below.refl _ _⟩
 case round =>
  obtain⟨k,hk,rfl,rfl,hle,hbx⟩:=hrel;have m1:=Vm.Qcl (A.take k);have mt:(A.take k).length<=k:=by simp;omega
  by_cases hlt:k<L.length
  ·skip;have hltI:(k:Int)<(L.length:Int):=by omega
   obtain⟨a,ha⟩:∃a,L[k]?=some a:=⟨L[k],List.getElem?_eq_getElem hlt⟩;obtain⟨x,pz,hx,hra0⟩:=Qbc HR.o k a ha;have hxo:=HOK.o x (List.mem_of_getElem? hx);have hch:=QbU hra0 hxo;have hcb:Vm.chA x<=1114111/\0<=Vm.chA x:=⟨hxo.2.2.2.2.2.1,hxo.2.2.2.2.1⟩
   obtain⟨g,rfl⟩:∃g,p=some ⟨g,0,none⟩:=by
    rcases HO.o.2 with ⟨y,z⟩|⟨g,c,cur,y,_⟩
    ·omega
    injection y with y1;exact⟨g,y1⟩
   have hgl:=(HO.o.lt g rfl).2
   have hcells:∀wx,Below w.heap.size w wx->wx.cell? ⟨g,k * 5,none⟩=some (.int .i64 a.1)/\wx.cell? ⟨g,k * 5+1,none⟩=some (.bool a.2.1)/\wx.cell? ⟨g,k * 5+2,none⟩=some (.int .i64 a.2.2.1)/\wx.cell? ⟨g,k * 5+3,none⟩=some (.int .i64 a.2.2.2.1)/\wx.cell? ⟨g,k * 5+4,none⟩=some (.int .i64 a.2.2.2.2):=fun wx hbx=>by
    have cell:=fun j (hj:j<5)=>((HO.o.below hbx).cellAt (k * 5+j) (by omega)).trans (QaP L k a j ha hj);exact⟨cell 0 (by decide),cell 1 (by decide),cell 2 (by decide),cell 3 (by decide),cell 4 (by decide)⟩
   have hsh:=QbS a;have hrange:a.2.1=false->0<=a.1/\a.1<=1114111:=fun h=>by rw[h] at hch;simp only[Bool.false_eq_true,if_false] at hch;rw[hch];exact⟨hcb.2,hcb.1⟩
   have HRG:=Z2 hrange;rw[hch] at hsh;have t1:=Z2 (Vm.Qbx hx);have HCE:=Z2 hcells;have HSH:=Z2 hsh;have hlen:=QbZ (Vm.chA x);have hlc:=Vm.Qaa (Vm.chA x);have HLN:=Z2 hlen;have hlen':Vm.lenA x=Vm.utfLen (Vm.chA x):=rfl;clear hcells hsh hrange hch hra0 ha hlen hxo;obtain⟨q0,q1,q2,q3,q4⟩:=HCE.o _ hbx;by_cases heq:(Vm.bytesA (A.take k):Int)=o
   ·have hR:=Z2 (Qml (A:=A) (k:=k) (by rw[<-HL.o];omega) heq);go_wp2;go_ret2;exact⟨by rw[HV.o,hR.o];rfl,hbx⟩
   have hkA:k<A.length:=by rw[<-HL.o];exact hlt
   have HIN:=Z2 (fun h2=>QoF (A:=A) (k:=k) (o:=o) hkA (by omega) h2);rw[t1.o,hlen'] at HIN;generalize e1:Vm.bytesA (A.take k)=b1 at *;have E1:=Z2 e1;clear e1;generalize e2:Vm.utfLen (Vm.chA x)=u1 at *;have E2:=Z2 e2;clear e2;have heqb:((b1:Int)==o)=false:=by simpa using heq
   have hzg:g<wr.heap.size:=Z3 q0;have hzs:=HLN.o;go_wp2_with fail;refine (HSH.o _ HRG.o).mono ?_;rintro e w2 ⟨rfl,hb2⟩;have hb2':=hbx.trans (hb2.mono hbx.size);by_cases hgt:o<(b1:Int)+(u1:Int)
   ·have hR:=Z2 (HIN.o (by omega));clear q0 q1 q2 q3 q4;go_wp2_with fail;go_ret2;exact⟨by rw[HV.o,hR.o];rfl,hb2'⟩
   clear q0 q1 q2 q3 q4;go_wp2_with fail;refine⟨⟨k+1,by omega,?_,by go_num,?_,hb2'⟩,by simp [intOf];omega⟩
   ·rw[t1.o,hlen'];rfl
   rw[t1.o,hlen'];omega
  obtain rfl:k=L.length:=by omega
  have hall:A.take L.length=A:=by rw[HL.o,List.take_length]
  have hR1:=Z2 (fun h=>Qml (A:=A) (k:=L.length) (o:=o) (by rw[HL.o];exact Z6 _) (by rw[hall];exact h));have hR2:=Z2 (fun h=>QjP (A:=A) (o:=o) (.inr h));rw[hall] at hle m1 ⊢;clear hall mt;generalize Vm.bytesA A=b1 at *;by_cases heq:(b1:Int)=o
  ·have heqb:((b1:Int)==o)=true:=by simpa using heq
   go_wp2_with fail;go_ret2;exact⟨by rw[HV.o,hR1.o heq];rfl,hbx⟩
  have heqb:((b1:Int)==o)=false:=by simpa using heq
  go_wp2_with fail;go_ret2;exact⟨by rw[HV.o,hR2.o (by omega)];rfl,hbx⟩
theorem Qoq (h:(rplV A o).2≠0):Vm.posV A o=(0,0,(rplV A o).2):=by
 unfold rplV at h ⊢;unfold Vm.posV;by_cases h1:o<0\/(Vm.bytesA A:Int)<o
 ·rw[if_pos h1,if_pos h1]
 rw[if_neg h1] at h ⊢;rw[if_neg h1];by_cases h2:(Vm.bytesA (A.take (Vm.plK A o)):Int)<o
 ·rw[if_pos h2,if_pos h2]
 rw[if_neg h2] at h;exact absurd rfl h
theorem QoI (h:(rplV A o).2=0):∃k:Nat,k<=A.length/\(rplV A o).1=k/\Vm.posV A o=((Vm.linesA (A.take k):Int),(Vm.colA (A.take k):Int),0):=by
 unfold rplV at h ⊢;unfold Vm.posV;by_cases h1:o<0\/(Vm.bytesA A:Int)<o
 ·rw[if_pos h1] at h;cases h
 rw[if_neg h1] at h ⊢;rw[if_neg h1];by_cases h2:(Vm.bytesA (A.take (Vm.plK A o)):Int)<o
 ·rw[if_pos h2] at h;cases h
 rw[if_neg h2,if_neg h2];exact⟨_,(Vm.Qc7 A o (by omega)).1,rfl,rfl⟩
theorem Qhf (B:Nat) (enc:Int) (mark:Bool) (body:ByteArray) (o:Int) (w:World) (hd:RDoc w B enc mark body) (hs:body.size<=1099511627776) (h0:0<=enc) (h3:enc<=3) :
  Calls prog 117 #[.pointer (some ⟨B,0,none⟩),.int .i64 o] w fun e w'=>e=.returned (.tuple #[.int .i64 (Vm.posV (Vm.atoms enc body.data.toList) o).1,.int .i64 (Vm.posV (Vm.atoms enc body.data.toList) o).2.1,.int .i64 (Vm.posV (Vm.atoms enc body.data.toList) o).2.2])/\Below w.heap.size w w':=by
 have hok:=Vm.Qao enc body.data.toList
 have hca:=Qbk B enc mark body
 generalize Vm.atoms enc body.data.toList=A at *
 have HC:=Z2 hca
 have HD:=Z2 hd
 clear hca hd
 obtain⟨V,hV⟩:∃V,V=Vm.posV A o:=⟨_,rfl⟩
 rw[<-hV]
 have HV:=Z2 hV
 clear hV
 go_enter func117,ntmps117
 go_wp2_with fail
 refine (HC.o _ HD.o hs h0 h3).mono ?_
 rintro e w1 ⟨v,L,rfl,hr,hl,ho,hb1⟩
 have HP:=Z2 (Qeh v L A _ o w1 ho hr hok (by omega))
 obtain⟨p,cap,rfl⟩:∃p cap,v=.slice p L.length cap:=by
  rcases ho.2 with ⟨x,y⟩|⟨g,c,cur,x,_⟩
  ·exact⟨none,0,by rw[x,y]⟩
  exact⟨_,_,x⟩
 have HO:=Z2 ho
 have HR:=Z2 hr
 have HL:=Z2 hr.length
 have HOK:=Z2 hok
 clear ho hr hok HC HD
 by_cases he:(rplV A o).2=0
 ·obtain⟨k0,hk0,hk1,hk2⟩:=QoI he;rw[he,hk1] at HP;have HK2:=Z2 hk2;clear he hk1 hk2;go_wp2_with fail;refine HP.o.mono ?_;rintro e w2 ⟨rfl,hb2⟩;have hb12:=hb1.trans (hb2.mono hb1.size);have HO2:=Z2 (HO.o.below hb2);clear HP HO;go_wp2_with fail;go_loopw [10,11,12] (fun line col i wx=>∃k:Nat,k<=k0/\line=.int .i64 (Vm.linesA (A.take k))/\col=.int .i64 (Vm.colA (A.take k))/\i=.int .i64 k/\Below w2.heap.size w2 wx) (fun _ _ i _=>k0 - (intOf i).toNat)
  case atStart=>exact⟨0,Nat.zero_le _,rfl,rfl,rfl,Below.refl _ _⟩
  case round =>
   obtain⟨k,hk,rfl,rfl,rfl,hbx⟩:=hrel;have m3:=Vm.QdB (A.take k)
   have mc:Vm.colA (A.take k)<=Vm.unitsA (A.take k):=by
    have:=Vm.QbW HOK.o k (by omega);omega
   have m1:=Vm.Qc4 (A.take k);have mt:(A.take k).length<=k:=by simp;omega
   by_cases hlt:k<k0
   ·skip;have hltI:(k:Int)<(k0:Int):=by omega
    have hltL:k<L.length:=by rw[HL.o];omega
    have hltLI:(k:Int)<(L.length:Int):=by omega
    obtain⟨a,ha⟩:∃a,L[k]?=some a:=⟨L[k],List.getElem?_eq_getElem hltL⟩;obtain⟨x,pz,hx,hra0⟩:=Qbc HR.o k a ha;have hxo:=HOK.o x (List.mem_of_getElem? hx);have hch:=QbU hra0 hxo;have hend:=hra0.2.2.2.1;have hx0:=hra0.2.2.2.2.2.1
    obtain⟨g,rfl⟩:∃g,p=some ⟨g,0,none⟩:=by
     rcases HO2.o.2 with ⟨y,z⟩|⟨g,c,cur,y,_⟩
     ·omega
     injection y with y1;exact⟨g,y1⟩
    have hcells:∀wx,Below w2.heap.size w2 wx->wx.cell? ⟨g,k * 5,none⟩=some (.int .i64 a.1)/\wx.cell? ⟨g,k * 5+1,none⟩=some (.bool a.2.1)/\wx.cell? ⟨g,k * 5+2,none⟩=some (.int .i64 a.2.2.1)/\wx.cell? ⟨g,k * 5+3,none⟩=some (.int .i64 a.2.2.2.1)/\wx.cell? ⟨g,k * 5+4,none⟩=some (.int .i64 a.2.2.2.2):=fun wx hbx=>by
     have cell:=fun j (hj:j<5)=>((HO2.o.below hbx).cellAt (k * 5+j) (by omega)).trans (QaP L k a j ha hj);exact⟨cell 0 (by decide),cell 1 (by decide),cell 2 (by decide),cell 3 (by decide),cell 4 (by decide)⟩
    have hun:=Qcu a
    have hune:(if a.2.1=false/\65535<a.1 then (2:Int) else 1)=(Vm.unA x:Int):=by
     unfold Vm.unA;rw[<-hch];cases a.2.1<;>simp
     split<;>rfl
    rw[hune] at hun;have t1:=Z2 (Vm.Qcf hx);have t3:=Z2 (Vm.QaL hx);have HCE:=Z2 hcells;have HUN:=Z2 hun;have hul:Vm.unA x<=2:=by unfold Vm.unA;split<;>omega
    clear hcells hune hch hra0 hx ha hxo hun;obtain⟨q0,q1,q2,q3,q4⟩:=HCE.o _ hbx;have hzg:=Z3 q0;have mk:k<=1099511627776:=by have:=HL.o;omega
    generalize Vm.linesA (A.take k)=l1 at *;generalize Vm.colA (A.take k)=c1 at *;generalize a.2.2.1=ae at *;by_cases hx2:x.1<=2
    ·have hpos:0<ae:=by rw[hend,if_pos hx2];omega
     clear hend;have T1:=t1.o;have T3:=t3.o;rw[if_pos hx2] at T1 T3;have TT1:=Z2 T1;have TT3:=Z2 T3;clear T1 T3 t1 t3;go_wp2_with fail;refine (HUN.o _).mono ?_;rintro e w3 ⟨rfl,hb3⟩;have hb23:=hbx.trans (hb3.mono hbx.size);clear q0 q1 q2 q3 q4;obtain⟨q0,q1,q2,q3,q4⟩:=HCE.o _ hb23;have hzg3:=Z3 q0;clear hb3 HUN HCE;go_wp2_with fail;refine⟨⟨k+1,by omega,?_,?_,by go_num,hb23⟩,by simp [intOf];omega⟩
     ·rw[TT3.o];rfl
     rw[TT1.o];rfl
    have hzr:ae=0:=by rw[hend,if_neg hx2]
    clear hend;subst hzr;have T1:=t1.o;have T3:=t3.o;rw[if_neg hx2] at T1 T3;have TT1:=Z2 T1;have TT3:=Z2 T3;clear T1 T3 t1 t3;go_wp2_with fail;refine (HUN.o _).mono ?_;rintro e w3 ⟨rfl,hb3⟩;have hb23:=hbx.trans (hb3.mono hbx.size);clear q0 q1 q2 q3 q4;obtain⟨q0,q1,q2,q3,q4⟩:=HCE.o _ hb23;have hzg3:=Z3 q0;clear hb3 HUN HCE;go_wp2_with fail;refine⟨⟨k+1,by omega,?_,?_,by go_num,hb23⟩,by simp [intOf];omega⟩
    ·rw[TT3.o];rfl
    rw[TT1.o];rfl
   obtain rfl:k=k0:=by omega
   go_wp2_with fail;refine bodyPost_ret (v:=.tuple #[.int .i64 (Vm.linesA (A.take k)),.int .i64 (Vm.colA (A.take k)),.int .i64 0]) (by simp [results,Tryz.results117,go_sem]) rfl ⟨by rw[HV.o,HK2.o],hb12.trans (hbx.mono hb12.size)⟩
 have hpv:=Qoq he
 have HPV:=Z2 hpv
 clear hpv
 generalize (rplV A o).1=r1 at *
 generalize (rplV A o).2=r2 at *
 have heb:(r2==0)=false:=by simpa using he
 go_wp2_with fail
 refine HP.o.mono ?_
 rintro e w2 ⟨rfl,hb2⟩
 go_wp2_with fail
 refine bodyPost_ret (v:=.tuple #[.int .i64 0,.int .i64 0,.int .i64 r2]) (by simp [results,Tryz.results117,go_sem]) rfl ⟨by rw[HV.o,HPV.o],hb1.trans (hb2.mono hb1.size)⟩
end Go.Proofs.YtoejbngihecafaaGreatDoor
namespace Vm
open Go.Proofs.YtoejbngihecafaaGreatDoor
def bestK (A:List At) (line col:Int):Nat->Nat
 |0=>0
 |k+1=>if (linesA (A.take k):Int)=line/\(colA (A.take k):Int)<=col then bytesA (A.take k) else bestK A line col k
theorem Qj7 (A:List At) (line col:Int) (k:Nat) (hk:(linesA (A.take k):Int)=line/\(colA (A.take k):Int)<=col):∀m,k<m->(∀i,k<i->i<m->¬((linesA (A.take i):Int)=line/\(colA (A.take i):Int)<=col))->bestK A line col m=bytesA (A.take k)
 |0,h,_=>by omega
 |m+1,h,hn=>by
  unfold bestK
  by_cases e:k=m
  ·subst e;rw[if_pos hk]
  rw[if_neg (hn m (by omega) (by omega))]
  exact Qj7 A line col k hk m (by omega) (fun i h1 h2=>hn i h1 (by omega))
theorem Qlc {A:List At} (hA:∀x∈A,AtOk x) {line col:Int} (h0:0<=line) (hl:line<=linesA A) (hc:0<=col):offV A line col=((bestK A line col (A.length+1):Int),0):=by
 obtain⟨n,rfl⟩:∃n:Nat,line=n:=⟨line.toNat,by omega⟩;obtain⟨h1,h2,h3,h4⟩:=QlU hA (line:=n) (col:=col) (by omega) hc;unfold offV;rw[if_neg (by omega),if_neg (by omega),Qj7 A n col _ ⟨by rw[h2],h3⟩ (A.length+1) (by omega) (fun i g1 g2 g3=>h4 i g1 (by omega) ⟨by omega,g3.2⟩)]
theorem QjQ (A:List At) (line col:Int):∀k,bestK A line col k<=bytesA A
 |0=>Nat.zero_le _
 |k+1=>by
  unfold bestK
  split
  ·by_cases hk:k<=A.length
   ·have:=QbB A k A.length hk;rwa [List.take_length] at this
   rw[List.take_of_length_le (by omega)];exact Z6 _
  exact QjQ A line col k
end Vm
namespace Go.Proofs.YtoejbngihecafaaGreatDoor
open Go.RowKit
theorem Qiw (B:Nat) (enc:Int) (mark:Bool) (body:ByteArray) (line col:Int) (w:World) (hd:RDoc w B enc mark body) (hs:body.size<=1099511627776) (h0:0<=enc) (h3:enc<=3) :
  Calls prog 119 #[.pointer (some ⟨B,0,none⟩),.int .i64 line,.int .i64 col] w fun e w'=>e=.returned (.tuple #[.int .i64 (Vm.offV (Vm.atoms enc body.data.toList) line col).1,.int .i64 (Vm.offV (Vm.atoms enc body.data.toList) line col).2])/\Below w.heap.size w w':=by
 have hok:=Vm.Qao enc body.data.toList
 have hca:=Qbk B enc mark body
 have hsh:=QhM B enc mark body w hd hs h0 h3
 have hlA:(Vm.atoms enc body.data.toList).length<=1099511627776:=by
  have h1:=Vm.Qau hok;have h2:Vm.sizeA (Vm.atoms enc body.data.toList)<=body.size:=Vm.QaE (List.prefix_refl _);omega
 generalize Vm.atoms enc body.data.toList=A at *
 have HC:=Z2 hca
 have HD:=Z2 hd
 have HS:=Z2 hsh
 clear hca hd hsh
 obtain⟨V,hV⟩:∃V,V=Vm.offV A line col:=⟨_,rfl⟩
 rw[<-hV]
 have HV:=Z2 hV
 clear hV
 have hll:=Vm.QdB A
 by_cases h1:line<0
 ·have HR:=Z2 (show Vm.offV A line col=(0,10) by unfold Vm.offV;rw[if_pos (.inl h1)]);go_enter func119,ntmps119;go_wp2_with fail;refine HS.o.mono ?_;rintro e w1 ⟨he,hb1⟩;obtain rfl:=he A rfl;clear he HS;have HBA:=Z2 (hb1.alloc hb1.size (.cells #[.int .i64 enc,.bool mark,.int .i64 (Vm.bytesA A),.int .i64 A.length,.int .i64 (Vm.unitsA A),.int .i64 ((Vm.linesA A:Int)+1),.int .i64 (Vm.cntK A 4),.bool (decide (Vm.sizeA A<body.size)),.int .i64 (Vm.endingOf (Vm.cntK A 0) (Vm.cntK A 1) (Vm.cntK A 2))] 66));generalize Vm.linesA A=N at *;generalize Vm.endingOf (Vm.cntK A 0) (Vm.cntK A 1) (Vm.cntK A 2)=en at *;generalize (decide (Vm.sizeA A<body.size))=tl at *;generalize Vm.cntK A 4=c4 at *;generalize Vm.unitsA A=c3 at *;generalize Vm.bytesA A=c1 at *;go_wp2_with fail;go_ret2;exact⟨by rw[HV.o,HR.o];rfl,HBA.o⟩
 by_cases h2:(Vm.linesA A:Int)<line
 ·have HR:=Z2 (show Vm.offV A line col=(0,10) by unfold Vm.offV;rw[if_pos (.inr h2)]);have h2':(Vm.linesA A:Int)+1<=line:=by omega
  go_enter func119,ntmps119;go_wp2_with fail;refine HS.o.mono ?_;rintro e w1 ⟨he,hb1⟩;obtain rfl:=he A rfl;clear he HS;have HBA:=Z2 (hb1.alloc hb1.size (.cells #[.int .i64 enc,.bool mark,.int .i64 (Vm.bytesA A),.int .i64 A.length,.int .i64 (Vm.unitsA A),.int .i64 ((Vm.linesA A:Int)+1),.int .i64 (Vm.cntK A 4),.bool (decide (Vm.sizeA A<body.size)),.int .i64 (Vm.endingOf (Vm.cntK A 0) (Vm.cntK A 1) (Vm.cntK A 2))] 66));generalize Vm.linesA A=N at *;generalize Vm.endingOf (Vm.cntK A 0) (Vm.cntK A 1) (Vm.cntK A 2)=en at *;generalize (decide (Vm.sizeA A<body.size))=tl at *;generalize Vm.cntK A 4=c4 at *;generalize Vm.unitsA A=c3 at *;generalize Vm.bytesA A=c1 at *;go_wp2_with fail;go_ret2;exact⟨by rw[HV.o,HR.o];rfl,HBA.o⟩
 have h2':¬(
        Vm.linesA A:Int)+1<=line:=by omega
 by_cases h4:col<0
 ·have HR:=Z2 (show Vm.offV A line col=(0,2) by unfold Vm.offV;rw[if_neg (by omega),if_pos h4]);go_enter func119,ntmps119;go_wp2_with fail;refine HS.o.mono ?_;rintro e w1 ⟨he,hb1⟩;obtain rfl:=he A rfl;clear he HS;have HBA:=Z2 (hb1.alloc hb1.size (.cells #[.int .i64 enc,.bool mark,.int .i64 (Vm.bytesA A),.int .i64 A.length,.int .i64 (Vm.unitsA A),.int .i64 ((Vm.linesA A:Int)+1),.int .i64 (Vm.cntK A 4),.bool (decide (Vm.sizeA A<body.size)),.int .i64 (Vm.endingOf (Vm.cntK A 0) (Vm.cntK A 1) (Vm.cntK A 2))] 66));generalize Vm.linesA A=N at *;generalize Vm.endingOf (Vm.cntK A 0) (Vm.cntK A 1) (Vm.cntK A 2)=en at *;generalize (decide (Vm.sizeA A<body.size))=tl at *;generalize Vm.cntK A 4=c4 at *;generalize Vm.unitsA A=c3 at *;generalize Vm.bytesA A=c1 at *;go_wp2_with fail;go_ret2;exact⟨by rw[HV.o,HR.o];rfl,HBA.o⟩
 have HR:=Z2 (Vm.Qlc hok (line:=line) (col:=col) (by omega) (by omega) (by omega))
 have HBL:=Z2 (Vm.QjQ A line col)
 have hby:=Vm.Qcl A
 have HOK:=Z2 hok
 clear hok
 go_enter func119,ntmps119
 go_wp2_with fail
 refine HS.o.mono ?_
 rintro e w1 ⟨he,hb1⟩
 obtain rfl:=he A rfl
 clear he HS
 have HBA:=Z2 (hb1.alloc hb1.size (.cells #[.int .i64 enc,.bool mark,.int .i64 (Vm.bytesA A),.int .i64 A.length,.int .i64 (Vm.unitsA A),.int .i64 ((Vm.linesA A:Int)+1),.int .i64 (Vm.cntK A 4),.bool (decide (Vm.sizeA A<body.size)),.int .i64 (Vm.endingOf (Vm.cntK A 0) (Vm.cntK A 1) (Vm.cntK A 2))] 66))
 generalize Vm.linesA A=N at *
 generalize Vm.endingOf (Vm.cntK A 0) (Vm.cntK A 1) (Vm.cntK A 2)=en at *
 generalize (decide (Vm.sizeA A<body.size))=tl at *
 generalize Vm.cntK A 4=c4 at *
 generalize Vm.unitsA A=c3 at *
 generalize hc1:Vm.bytesA A=c1 at *
 have HC1:=Z2 hc1
 clear hc1
 go_wp2_with fail
 refine (HC.o _ (HD.o.below HBA.o) hs h0 h3).mono ?_
 rintro e w2 ⟨v,L,rfl,hr,hl,ho,hb2⟩
 have hbw2:=HBA.o.trans (hb2.mono HBA.o.size)
 obtain⟨p,cap,rfl⟩:∃p cap,v=.slice p L.length cap:=by
  rcases ho.2 with ⟨x,y⟩|⟨g,c,cur,x,_⟩
  ·exact⟨none,0,by rw[x,y]⟩
  exact⟨_,_,x⟩
 have HO2:=Z2 ho
 have HR2:=Z2 hr
 have HL:=Z2 hr.length
 clear ho hr hb2 HC HD HBA
 go_wp2_with fail
 go_loopw [10,11,12,13,14] (fun best at_ n c i wx=>∃k:Nat,k<=L.length/\best=.int .i64 (Vm.bestK A line col k)/\at_=.int .i64 (Vm.bytesA (A.take k))/\n=.int .i64 (Vm.linesA (A.take k))/\c=.int .i64 (Vm.colA (A.take k))/\i=.int .i64 k/\Below w2.heap.size w2 wx) (fun _ _ _ _ i _=>L.length+1 - (intOf i).toNat)
 case atStart=>exact⟨0,Nat.zero_le _,rfl,rfl,rfl,rfl,rfl,Below.refl _ _⟩
 case round =>
  obtain⟨k,hk,rfl,rfl,rfl,rfl,rfl,hbx⟩:=hrel;have mL1:L.length<=A.length:=by rw[HL.o];exact Z6 _
  have mL2:A.length<=L.length:=by rw[HL.o];exact Z6 _
  have m3:=Vm.QdB (A.take k)
  have mc:Vm.colA (A.take k)<=Vm.unitsA (A.take k):=by
   have:=Vm.QbW HOK.o k (by omega);omega
  have m1:=Vm.Qc4 (A.take k);have m4:=Vm.Qcl (A.take k);have mt:(A.take k).length<=k:=by simp;omega
  have hbk:Vm.bestK A line col (k+1)=if (Vm.linesA (A.take k):Int)=line/\(Vm.colA (A.take k):Int)<=col then Vm.bytesA (A.take k) else Vm.bestK A line col k:=rfl
  have hleL:(k:Int)<=(L.length:Int):=by omega
  generalize hEL:Vm.linesA (A.take k)=l1 at *;generalize hEC:Vm.colA (A.take k)=cc1 at *;generalize hEB:Vm.bytesA (A.take k)=b1 at *;have EL:=Z2 hEL;have EC:=Z2 hEC;have EB:=Z2 hEB;clear hEL hEC hEB;by_cases g1:(l1:Int)=line
  ·have g1b:((l1:Int)==line)=true:=by simpa using g1
   by_cases g2:(cc1:Int)<=col
   ·rw[if_pos ⟨g1,g2⟩] at hbk;have HB:=Z2 hbk;clear hbk g1;by_cases hlt:k<L.length
    ·skip;obtain⟨a,ha⟩:∃a,L[k]?=some a:=⟨L[k],List.getElem?_eq_getElem hlt⟩;obtain⟨x,pz,hx,hra0⟩:=Qbc HR2.o k a ha;have hxo:=HOK.o x (List.mem_of_getElem? hx);have hch:=QbU hra0 hxo;have hend:=hra0.2.2.2.1;have hx0:=hra0.2.2.2.2.2.1;have hcb:Vm.chA x<=1114111/\0<=Vm.chA x:=⟨hxo.2.2.2.2.2.1,hxo.2.2.2.2.1⟩
     obtain⟨g,rfl⟩:∃g,p=some ⟨g,0,none⟩:=by
      rcases HO2.o.2 with ⟨y,z⟩|⟨g,c,cur,y,_⟩
      ·omega
      injection y with y1;exact⟨g,y1⟩
     have hcells:∀wx,Below w2.heap.size w2 wx->wx.cell? ⟨g,k * 5,none⟩=some (.int .i64 a.1)/\wx.cell? ⟨g,k * 5+1,none⟩=some (.bool a.2.1)/\wx.cell? ⟨g,k * 5+2,none⟩=some (.int .i64 a.2.2.1)/\wx.cell? ⟨g,k * 5+3,none⟩=some (.int .i64 a.2.2.2.1)/\wx.cell? ⟨g,k * 5+4,none⟩=some (.int .i64 a.2.2.2.2):=fun wx hbx=>by
      have cell:=fun j (hj:j<5)=>((HO2.o.below hbx).cellAt (k * 5+j) (by omega)).trans (QaP L k a j ha hj);exact⟨cell 0 (by decide),cell 1 (by decide),cell 2 (by decide),cell 3 (by decide),cell 4 (by decide)⟩
     have hsh:=QbS a;have hun:=Qcu a;have hrange:a.2.1=false->0<=a.1/\a.1<=1114111:=fun h=>by rw[h] at hch;simp only[Bool.false_eq_true,if_false] at hch;rw[hch];exact⟨hcb.2,hcb.1⟩
     have HRG:=Z2 hrange
     have hune:(if a.2.1=false/\65535<a.1 then (2:Int) else 1)=(Vm.unA x:Int):=by
      unfold Vm.unA;rw[<-hch];cases a.2.1<;>simp
      split<;>rfl
     rw[hune] at hun;rw[hch] at hsh;have t0:=Z2 (Vm.Qbx hx);have t1:=Z2 (Vm.Qcf hx);have t3:=Z2 (Vm.QaL hx);have HCE:=Z2 hcells;have HUN:=Z2 hun;have HSH:=Z2 hsh;have hlen:=QbZ (Vm.chA x);have hlc:=Vm.Qaa (Vm.chA x);have hlen':Vm.lenA x=Vm.utfLen (Vm.chA x):=rfl;have hul:Vm.unA x<=2:=by unfold Vm.unA;split<;>omega
     rw[hlen'] at t0;have hneb:((k:Int)==(L.length:Int))=false:=by simp;omega
     have hleI:(k:Int)<=(L.length:Int):=by omega
     clear hcells hune hch hra0 hx ha hxo hun hsh hrange hlen';obtain⟨q0,q1,q2,q3,q4⟩:=HCE.o _ hbx;have hzg:=Z3 q0;generalize Vm.utfLen (Vm.chA x)=u1 at *;generalize a.2.2.1=ae at *;by_cases hx2:x.1<=2
     ·have hpos:0<ae:=by rw[hend,if_pos hx2];omega
      clear hend;have T1:=t1.o;have T3:=t3.o;rw[if_pos hx2] at T1 T3;have TT1:=Z2 T1;have TT3:=Z2 T3;clear T1 T3 t1 t3;go_wp2_with fail;refine (HSH.o _ HRG.o).mono ?_;rintro e w3 ⟨rfl,hb3⟩;have hb23:=hbx.trans (hb3.mono hbx.size);clear q0 q1 q2 q3 q4;obtain⟨q0,q1,q2,q3,q4⟩:=HCE.o _ hb23;have hzg3:=Z3 q0;clear hb3 HSH;go_wp2_with fail;refine (HUN.o _).mono ?_;rintro e w4 ⟨rfl,hb4⟩;have hb24:=hb23.trans (hb4.mono hb23.size);clear q0 q1 q2 q3 q4;obtain⟨q0,q1,q2,q3,q4⟩:=HCE.o _ hb24;have hzg4:=Z3 q0;clear hb4 HUN HCE;go_wp2_with fail;go_roundw
      case measure=>simp [intOf];omega
      case rel =>
       refine⟨k+1,by omega,?_,?_,?_,?_,by go_num,hb24⟩
       ·rw[HB.o]
       ·rw[t0.o,EB.o];rfl
       ·rw[TT3.o,EL.o];rfl
       rw[TT1.o];rfl
     have hzr:ae=0:=by rw[hend,if_neg hx2]
     clear hend;subst hzr;have T1:=t1.o;have T3:=t3.o;rw[if_neg hx2] at T1 T3;have TT1:=Z2 T1;have TT3:=Z2 T3;clear T1 T3 t1 t3;go_wp2_with fail;refine (HSH.o _ HRG.o).mono ?_;rintro e w3 ⟨rfl,hb3⟩;have hb23:=hbx.trans (hb3.mono hbx.size);clear q0 q1 q2 q3 q4;obtain⟨q0,q1,q2,q3,q4⟩:=HCE.o _ hb23;have hzg3:=Z3 q0;clear hb3 HSH;go_wp2_with fail;refine (HUN.o _).mono ?_;rintro e w4 ⟨rfl,hb4⟩;have hb24:=hb23.trans (hb4.mono hb23.size);clear q0 q1 q2 q3 q4;obtain⟨q0,q1,q2,q3,q4⟩:=HCE.o _ hb24;have hzg4:=Z3 q0;clear hb4 HUN HCE;go_wp2_with fail;go_roundw
     case measure=>simp [intOf];omega
     case rel =>
      refine⟨k+1,by omega,?_,?_,?_,?_,by go_num,hb24⟩
      ·rw[HB.o]
      ·rw[t0.o,EB.o];rfl
      ·rw[TT3.o,EL.o];rfl
      rw[TT1.o,EC.o];rfl
    obtain rfl:k=L.length:=by omega
    have hneb:((L.length:Int)==(L.length:Int))=true:=by simp
    go_wp2_with fail;go_ret2;exact⟨by rw[HV.o,HR.o,<-HL.o,HB.o];rfl,hbw2.trans (hbx.mono hbw2.size)⟩
   rw[if_neg (fun h=>g2 h.2)] at hbk;have HB:=Z2 hbk;clear hbk g1;by_cases hlt:k<L.length
   ·skip;obtain⟨a,ha⟩:∃a,L[k]?=some a:=⟨L[k],List.getElem?_eq_getElem hlt⟩;obtain⟨x,pz,hx,hra0⟩:=Qbc HR2.o k a ha;have hxo:=HOK.o x (List.mem_of_getElem? hx);have hch:=QbU hra0 hxo;have hend:=hra0.2.2.2.1;have hx0:=hra0.2.2.2.2.2.1;have hcb:Vm.chA x<=1114111/\0<=Vm.chA x:=⟨hxo.2.2.2.2.2.1,hxo.2.2.2.2.1⟩
    obtain⟨g,rfl⟩:∃g,p=some ⟨g,0,none⟩:=by
     rcases HO2.o.2 with ⟨y,z⟩|⟨g,c,cur,y,_⟩
     ·omega
     injection y with y1;exact⟨g,y1⟩
    have hcells:∀wx,Below w2.heap.size w2 wx->wx.cell? ⟨g,k * 5,none⟩=some (.int .i64 a.1)/\wx.cell? ⟨g,k * 5+1,none⟩=some (.bool a.2.1)/\wx.cell? ⟨g,k * 5+2,none⟩=some (.int .i64 a.2.2.1)/\wx.cell? ⟨g,k * 5+3,none⟩=some (.int .i64 a.2.2.2.1)/\wx.cell? ⟨g,k * 5+4,none⟩=some (.int .i64 a.2.2.2.2):=fun wx hbx=>by
     have cell:=fun j (hj:j<5)=>((HO2.o.below hbx).cellAt (k * 5+j) (by omega)).trans (QaP L k a j ha hj);exact⟨cell 0 (by decide),cell 1 (by decide),cell 2 (by decide),cell 3 (by decide),cell 4 (by decide)⟩
    have hsh:=QbS a;have hun:=Qcu a;have hrange:a.2.1=false->0<=a.1/\a.1<=1114111:=fun h=>by rw[h] at hch;simp only[Bool.false_eq_true,if_false] at hch;rw[hch];exact⟨hcb.2,hcb.1⟩
    have HRG:=Z2 hrange
    have hune:(if a.2.1=false/\65535<a.1 then (2:Int) else 1)=(Vm.unA x:Int):=by
     unfold Vm.unA;rw[<-hch];cases a.2.1<;>simp
     split<;>rfl
    rw[hune] at hun;rw[hch] at hsh;have t0:=Z2 (Vm.Qbx hx);have t1:=Z2 (Vm.Qcf hx);have t3:=Z2 (Vm.QaL hx);have HCE:=Z2 hcells;have HUN:=Z2 hun;have HSH:=Z2 hsh;have hlen:=QbZ (Vm.chA x);have hlc:=Vm.Qaa (Vm.chA x);have hlen':Vm.lenA x=Vm.utfLen (Vm.chA x):=rfl;have hul:Vm.unA x<=2:=by unfold Vm.unA;split<;>omega
    rw[hlen'] at t0;have hneb:((k:Int)==(L.length:Int))=false:=by simp;omega
    have hleI:(k:Int)<=(L.length:Int):=by omega
    clear hcells hune hch hra0 hx ha hxo hun hsh hrange hlen';obtain⟨q0,q1,q2,q3,q4⟩:=HCE.o _ hbx;have hzg:=Z3 q0;generalize Vm.utfLen (Vm.chA x)=u1 at *;generalize a.2.2.1=ae at *;by_cases hx2:x.1<=2
    ·have hpos:0<ae:=by rw[hend,if_pos hx2];omega
     clear hend;have T1:=t1.o;have T3:=t3.o;rw[if_pos hx2] at T1 T3;have TT1:=Z2 T1;have TT3:=Z2 T3;clear T1 T3 t1 t3;go_wp2_with fail;refine (HSH.o _ HRG.o).mono ?_;rintro e w3 ⟨rfl,hb3⟩;have hb23:=hbx.trans (hb3.mono hbx.size);clear q0 q1 q2 q3 q4;obtain⟨q0,q1,q2,q3,q4⟩:=HCE.o _ hb23;have hzg3:=Z3 q0;clear hb3 HSH;go_wp2_with fail;refine (HUN.o _).mono ?_;rintro e w4 ⟨rfl,hb4⟩;have hb24:=hb23.trans (hb4.mono hb23.size);clear q0 q1 q2 q3 q4;obtain⟨q0,q1,q2,q3,q4⟩:=HCE.o _ hb24;have hzg4:=Z3 q0;clear hb4 HUN HCE;go_wp2_with fail;go_roundw
     case measure=>simp [intOf];omega
     case rel =>
      refine⟨k+1,by omega,?_,?_,?_,?_,by go_num,hb24⟩
      ·rw[HB.o]
      ·rw[t0.o,EB.o];rfl
      ·rw[TT3.o,EL.o];rfl
      rw[TT1.o];rfl
    have hzr:ae=0:=by rw[hend,if_neg hx2]
    clear hend;subst hzr;have T1:=t1.o;have T3:=t3.o;rw[if_neg hx2] at T1 T3;have TT1:=Z2 T1;have TT3:=Z2 T3;clear T1 T3 t1 t3;go_wp2_with fail;refine (HSH.o _ HRG.o).mono ?_;rintro e w3 ⟨rfl,hb3⟩;have hb23:=hbx.trans (hb3.mono hbx.size);clear q0 q1 q2 q3 q4;obtain⟨q0,q1,q2,q3,q4⟩:=HCE.o _ hb23;have hzg3:=Z3 q0;clear hb3 HSH;go_wp2_with fail;refine (HUN.o _).mono ?_;rintro e w4 ⟨rfl,hb4⟩;have hb24:=hb23.trans (hb4.mono hb23.size);clear q0 q1 q2 q3 q4;obtain⟨q0,q1,q2,q3,q4⟩:=HCE.o _ hb24;have hzg4:=Z3 q0;clear hb4 HUN HCE;go_wp2_with fail;go_roundw
    case measure=>simp [intOf];omega
    case rel =>
     refine⟨k+1,by omega,?_,?_,?_,?_,by go_num,hb24⟩
     ·rw[HB.o]
     ·rw[t0.o,EB.o];rfl
     ·rw[TT3.o,EL.o];rfl
     rw[TT1.o,EC.o];rfl
   obtain rfl:k=L.length:=by omega
   have hneb:((L.length:Int)==(L.length:Int))=true:=by simp
   go_wp2_with fail;go_ret2;exact⟨by rw[HV.o,HR.o,<-HL.o,HB.o];rfl,hbw2.trans (hbx.mono hbw2.size)⟩
  have g1b:((l1:Int)==line)=false:=by simpa using g1
  rw[if_neg (fun h=>g1 h.1)] at hbk;have HB:=Z2 hbk;clear hbk;by_cases hlt:k<L.length
  ·skip;obtain⟨a,ha⟩:∃a,L[k]?=some a:=⟨L[k],List.getElem?_eq_getElem hlt⟩;obtain⟨x,pz,hx,hra0⟩:=Qbc HR2.o k a ha;have hxo:=HOK.o x (List.mem_of_getElem? hx);have hch:=QbU hra0 hxo;have hend:=hra0.2.2.2.1;have hx0:=hra0.2.2.2.2.2.1;have hcb:Vm.chA x<=1114111/\0<=Vm.chA x:=⟨hxo.2.2.2.2.2.1,hxo.2.2.2.2.1⟩
   obtain⟨g,rfl⟩:∃g,p=some ⟨g,0,none⟩:=by
    rcases HO2.o.2 with ⟨y,z⟩|⟨g,c,cur,y,_⟩
    ·omega
    injection y with y1;exact⟨g,y1⟩
   have hcells:∀wx,Below w2.heap.size w2 wx->wx.cell? ⟨g,k * 5,none⟩=some (.int .i64 a.1)/\wx.cell? ⟨g,k * 5+1,none⟩=some (.bool a.2.1)/\wx.cell? ⟨g,k * 5+2,none⟩=some (.int .i64 a.2.2.1)/\wx.cell? ⟨g,k * 5+3,none⟩=some (.int .i64 a.2.2.2.1)/\wx.cell? ⟨g,k * 5+4,none⟩=some (.int .i64 a.2.2.2.2):=fun wx hbx=>by
    have cell:=fun j (hj:j<5)=>((HO2.o.below hbx).cellAt (k * 5+j) (by omega)).trans (QaP L k a j ha hj);exact⟨cell 0 (by decide),cell 1 (by decide),cell 2 (by decide),cell 3 (by decide),cell 4 (by decide)⟩
   have hsh:=QbS a;have hun:=Qcu a;have hrange:a.2.1=false->0<=a.1/\a.1<=1114111:=fun h=>by rw[h] at hch;simp only[Bool.false_eq_true,if_false] at hch;rw[hch];exact⟨hcb.2,hcb.1⟩
   have HRG:=Z2 hrange
   have hune:(if a.2.1=false/\65535<a.1 then (2:Int) else 1)=(Vm.unA x:Int):=by
    unfold Vm.unA;rw[<-hch];cases a.2.1<;>simp
    split<;>rfl
   rw[hune] at hun;rw[hch] at hsh;have t0:=Z2 (Vm.Qbx hx);have t1:=Z2 (Vm.Qcf hx);have t3:=Z2 (Vm.QaL hx);have HCE:=Z2 hcells;have HUN:=Z2 hun;have HSH:=Z2 hsh;have hlen:=QbZ (Vm.chA x);have hlc:=Vm.Qaa (Vm.chA x);have hlen':Vm.lenA x=Vm.utfLen (Vm.chA x):=rfl;have hul:Vm.unA x<=2:=by unfold Vm.unA;split<;>omega
   rw[hlen'] at t0;have hneb:((k:Int)==(L.length:Int))=false:=by simp;omega
   have hleI:(k:Int)<=(L.length:Int):=by omega
   clear hcells hune hch hra0 hx ha hxo hun hsh hrange hlen';obtain⟨q0,q1,q2,q3,q4⟩:=HCE.o _ hbx;have hzg:=Z3 q0;generalize Vm.utfLen (Vm.chA x)=u1 at *;generalize a.2.2.1=ae at *;by_cases hx2:x.1<=2
   ·have hpos:0<ae:=by rw[hend,if_pos hx2];omega
    clear hend;have T1:=t1.o;have T3:=t3.o;rw[if_pos hx2] at T1 T3;have TT1:=Z2 T1;have TT3:=Z2 T3;clear T1 T3 t1 t3;go_wp2_with fail;refine (HSH.o _ HRG.o).mono ?_;rintro e w3 ⟨rfl,hb3⟩;have hb23:=hbx.trans (hb3.mono hbx.size);clear q0 q1 q2 q3 q4;obtain⟨q0,q1,q2,q3,q4⟩:=HCE.o _ hb23;have hzg3:=Z3 q0;clear hb3 HSH;go_wp2_with fail;refine (HUN.o _).mono ?_;rintro e w4 ⟨rfl,hb4⟩;have hb24:=hb23.trans (hb4.mono hb23.size);clear q0 q1 q2 q3 q4;obtain⟨q0,q1,q2,q3,q4⟩:=HCE.o _ hb24;have hzg4:=Z3 q0;clear hb4 HUN HCE;go_wp2_with fail;go_roundw
    case measure=>simp [intOf];omega
    case rel =>
     refine⟨k+1,by omega,?_,?_,?_,?_,by go_num,hb24⟩
     ·rw[HB.o]
     ·rw[t0.o,EB.o];rfl
     ·rw[TT3.o,EL.o];rfl
     rw[TT1.o];rfl
   have hzr:ae=0:=by rw[hend,if_neg hx2]
   clear hend;subst hzr;have T1:=t1.o;have T3:=t3.o;rw[if_neg hx2] at T1 T3;have TT1:=Z2 T1;have TT3:=Z2 T3;clear T1 T3 t1 t3;go_wp2_with fail;refine (HSH.o _ HRG.o).mono ?_;rintro e w3 ⟨rfl,hb3⟩;have hb23:=hbx.trans (hb3.mono hbx.size);clear q0 q1 q2 q3 q4;obtain⟨q0,q1,q2,q3,q4⟩:=HCE.o _ hb23;have hzg3:=Z3 q0;clear hb3 HSH;go_wp2_with fail;refine (HUN.o _).mono ?_;rintro e w4 ⟨rfl,hb4⟩;have hb24:=hb23.trans (hb4.mono hb23.size);clear q0 q1 q2 q3 q4;obtain⟨q0,q1,q2,q3,q4⟩:=HCE.o _ hb24;have hzg4:=Z3 q0;clear hb4 HUN HCE;go_wp2_with fail;go_roundw
   case measure=>simp [intOf];omega
   case rel =>
    refine⟨k+1,by omega,?_,?_,?_,?_,by go_num,hb24⟩
    ·rw[HB.o]
    ·rw[t0.o,EB.o];rfl
    ·rw[TT3.o,EL.o];rfl
    rw[TT1.o,EC.o];rfl
  obtain rfl:k=L.length:=by omega
  have hneb:((L.length:Int)==(L.length:Int))=true:=by simp
  go_wp2_with fail;go_ret2;exact⟨by rw[HV.o,HR.o,<-HL.o,HB.o];rfl,hbw2.trans (hbx.mono hbw2.size)⟩
structure ApiL (T:World->Prop) (D:World->Nat->Int->Bool->ByteArray->Prop):Prop extends Api T D where
 position:∀(p:Nat) (enc:Int) (mark:Bool) (body:ByteArray) (o:Int) (w:World),T w->D w p enc mark body ->
  Calls prog 58 #[.pointer (some ⟨p,0,none⟩),.int .i64 o] w fun e w'=>e=.returned (.tuple #[.int .i64 (Vm.posV (Vm.atoms enc body.data.toList) o).1,.int .i64 (Vm.posV (Vm.atoms enc body.data.toList) o).2.1,.int .i64 (Vm.posV (Vm.atoms enc body.data.toList) o).2.2])/\Below w.heap.size w w'
 offset:∀(p:Nat) (enc:Int) (mark:Bool) (body:ByteArray) (line col:Int) (w:World),T w->D w p enc mark body ->
  Calls prog 118 #[.pointer (some ⟨p,0,none⟩),.int .i64 line,.int .i64 col] w fun e w'=>e=.returned (.tuple #[.int .i64 (Vm.offV (Vm.atoms enc body.data.toList) line col).1,.int .i64 (Vm.offV (Vm.atoms enc body.data.toList) line col).2])/\Below w.heap.size w w'
variable {T:World->Prop} {D:World->Nat->Int->Bool->ByteArray->Prop}
theorem Qkw (api:ApiL T D) (q p r:Nat) (enc:Int) (mark:Bool) (body:ByteArray) (o line col:Int) (w:World) (ht:T w) (hq0:w.cell? ⟨q,0,none⟩=some (.pointer (some ⟨p,0,none⟩))) (hq1:w.cell? ⟨q,1,none⟩=some (.pointer (some ⟨r,0,none⟩))) (hd:D w p enc mark body) (hr:RDoc w r enc mark body) (hs:body.size<=1099511627776) (h0:0<=enc) (h3:enc<=3) :
  Calls prog 83 #[.pointer (some ⟨q,0,none⟩),.int .i64 o,.int .i64 line,.int .i64 col] w fun e w'=>e=.returned (.bool true)/\Below w.heap.size w w':=by
 have P1:=Z2 (fun w1 (hb:Below w.heap.size w w1)=>api.position p enc mark body o w1 (api.tab ht hb) (api.low hd hb))
 have P2:=Z2 (fun w1 (hb:Below w.heap.size w w1)=>Qhf r enc mark body o w1 (hr.below hb) hs h0 h3)
 have P3:=Z2 (fun w1 (hb:Below w.heap.size w w1)=>api.offset p enc mark body line col w1 (api.tab ht hb) (api.low hd hb))
 have P4:=Z2 (fun w1 (hb:Below w.heap.size w w1)=>Qiw r enc mark body line col w1 (hr.below hb) hs h0 h3)
 generalize Vm.posV (Vm.atoms enc body.data.toList) o=V at *
 generalize Vm.offV (Vm.atoms enc body.data.toList) line col=U at *
 obtain⟨v1,v2,v3⟩:=V
 obtain⟨u1,u2⟩:=U
 simp only at P1 P2 P3 P4
 clear hd hr ht
 have hz:=Z3 hq0
 go_enter func83,ntmps83
 go_wp2_with fail
 refine (P1.o _ (Below.refl _ _)).mono ?_
 rintro e w1 ⟨rfl,hb1⟩
 have c1:=(hb1.cell (p:=⟨q,1,none⟩) hz).trans hq1
 have z1:=Z3 c1
 clear P1
 go_wp2_with fail
 refine (P2.o _ hb1).mono ?_
 rintro e w2 ⟨rfl,hb2⟩
 have hb12:=hb1.trans (hb2.mono hb1.size)
 have d0:=(hb12.cell (p:=⟨q,0,none⟩) hz).trans hq0
 have z2:=Z3 d0
 clear P2 c1 hb1 hb2
 go_wp2_with fail
 refine (P3.o _ hb12).mono ?_
 rintro e w3 ⟨rfl,hb3⟩
 have hb13:=hb12.trans (hb3.mono hb12.size)
 have c3:=(hb13.cell (p:=⟨q,1,none⟩) hz).trans hq1
 have z3:=Z3 c3
 clear P3 d0 hb12 hb3
 go_wp2_with fail
 refine (P4.o _ hb13).mono ?_
 rintro e w4 ⟨rfl,hb4⟩
 have HB:=Z2 (hb13.trans (hb4.mono hb13.size))
 clear P4 c3 hb13 hb4 hq0 hq1
 go_wp2_with fail
 go_ret
 exact⟨rfl,HB.o⟩
end Go.Proofs.YtoejbngihecafaaGreatDoor
