import Derived.Test.YtoejbngihecafaaGreatDoorC13
import Derived.Test.YtoejbngihecafaaGreatDoorC3
import Derived.Test.YtoejbngihecafaaGreatDoorC0
set_option maxRecDepth 100000
set_option maxHeartbeats 1000000
open Go.Proofs.Tryz
namespace Vm
theorem Qc1 (A B:List At):sizeA (A++B)=sizeA A+sizeA B:=by simp [sizeA]
theorem QdV (A B:List At):bytesA (A++B)=bytesA A+bytesA B:=by simp [bytesA]
theorem Qd7 (A B:List At):unitsA (A++B)=unitsA A+unitsA B:=by simp [unitsA]
theorem QiE (A B:List At) (j:Int):cntK (A++B) j=cntK A j+cntK B j:=by simp [cntK]
end Vm
namespace Go.Proofs.YtoejbngihecafaaGreatDoor
open Go.RowKit
variable {enc:Int} {w:World} {t:Option Nd} {R:List (Cn × ByteArray)}
def cnOf (A:List Vm.At):Cn:=⟨Vm.sizeA A,Vm.bytesA A,A.length,Vm.unitsA A,Vm.cntK A 4,Vm.cntK A 0,Vm.cntK A 1,Vm.cntK A 2⟩
theorem Qa2 (A B:List Vm.At):cnOf (A++B)=(cnOf A).plus (cnOf B):=by
 simp only[cnOf,Cn.plus,Vm.Qc1,Vm.QdV,Vm.Qd7,Vm.QiE,List.length_append]
theorem Qj1 :cnOf []=⟨0,0,0,0,0,0,0,0⟩:=rfl
theorem Qbr {A:List Vm.At} (h:Vm.sizeA A<=281474976710656) (hl:A.length<=281474976710656):(cnOf A).Small:=by
 have h1:=Vm.Qcl A;have h2:=Vm.Qc4 A;have h3:=Vm.QcV A 4;have h4:=Vm.QcV A 0;have h5:=Vm.QcV A 1;have h6:=Vm.QcV A 2;constructor<;>simp only[cnOf]<;>omega
def LeafOk (enc:Int) (x:Cn × ByteArray):Prop:=x.1=cnOf (Vm.atoms enc x.2.data.toList)/\Vm.sizeA (Vm.atoms enc x.2.data.toList)=x.2.size
def rowA (enc:Int) (R:List (Cn × ByteArray)):List Vm.At:=R.flatMap (fun x=>Vm.atoms enc x.2.data.toList)
def rowB (R:List (Cn × ByteArray)):List UInt8:=R.flatMap (fun x=>x.2.data.toList)
theorem Qaw (enc:Int) (R T:List (Cn × ByteArray)):rowA enc (R++T)=rowA enc R++rowA enc T:=by simp [rowA]
theorem Qaf (R T:List (Cn × ByteArray)):rowB (R++T)=rowB R++rowB T:=by simp [rowB]
theorem Nd.cn_row (enc:Int):∀{n:Nd},n.Ok->(∀x∈n.row,LeafOk enc x)->n.cn=cnOf (rowA enc n.row)
 |.leaf _ c s,_,h=>by
  have:=(h (c,s) (by simp [Nd.row])).1
  simpa [Nd.cn,Nd.row,rowA] using this
 |.inner _ c _ l r,⟨hc,_,hl,hr⟩,h=>by
  show c=_
  rw[hc,Nd.cn_row enc hl (fun x hx=>h x (by simp [Nd.row,hx])),Nd.cn_row enc hr (fun x hx=>h x (by simp [Nd.row,hx]))]
  rw[<-Qa2,<-Qaw];rfl
theorem Qae :∀{R:List (Cn × ByteArray)},(∀x∈R,LeafOk enc x)->Vm.sizeA (rowA enc R)=(rowB R).length
 |[],_=>rfl
 |x :: R,h=>by
  have h1:=(h x (by simp)).2
  have h2:=Qae (R:=R) (fun y hy=>h y (by simp [hy]))
  have e1:rowA enc (x :: R)=Vm.atoms enc x.2.data.toList++rowA enc R:=by simp [rowA]
  have e2:rowB (x :: R)=x.2.data.toList++rowB R:=by simp [rowB]
  rw[e1,e2,Vm.Qc1,List.length_append,h1,h2];rfl
def trv:Option Nd->Value
 |none=>.nilIface
 |some n=>.iface n.ty (.pointer (some ⟨n.blk,0,none⟩))
structure TrAt (w:World) (enc:Int) (t:Option Nd) (R:List (Cn × ByteArray)):Prop where
 inn:∀n,t=some n->n.In w/\n.Ok/\n.row=R
 non:t=none->R=[]
 ok:∀x∈R,LeafOk enc x
theorem TrAt.low {w':World} (h:TrAt w enc t R) (hb:Below w.heap.size w w'):TrAt w' enc t R :=
 ⟨fun n hn=>⟨Nd.low hb (h.inn n hn).1,(h.inn n hn).2⟩,h.non,h.ok⟩
theorem TrAt.counts (h:TrAt w enc t R) :
  Calls prog 55 #[.agg #[trv t]] w fun e w'=>e=.returned (cnOf (rowA enc R)).val/\Below w.heap.size w w':=by
 cases t with
 |none =>
  have:=h.non rfl;subst this;exact QiF w
 |some n =>
  obtain⟨h1,h2,h3⟩:=h.inn n rfl;have hc:=Nd.cn_row enc h2 (by rw[h3];exact h.ok);rw[h3] at hc;have:=QiA n w h1;rw[n.val_eq,hc] at this;exact this
end Go.Proofs.YtoejbngihecafaaGreatDoor
namespace Vm
theorem Qau {A:List At} (h:∀a∈A,AtOk a):A.length<=sizeA A:=by
 induction A with
 |nil=>simp
 |cons a A ih =>
  have h1:=(h a (by simp)).2.2.2.2.2.2.1;have h2:=ih (fun x hx=>h x (by simp [hx]));have e:sizeA (a :: A)=a.2.2+sizeA A:=by simp [sizeA]
  rw[e,List.length_cons];omega
end Vm
namespace Go.Proofs.YtoejbngihecafaaGreatDoor
open Go.RowKit
variable {enc:Int} {R A B:List (Cn × ByteArray)} {w w1:World} {b j:Nat} {v va vb:Value}
theorem Qa4 (enc:Int) (R:List (Cn × ByteArray)):∀a∈rowA enc R,Vm.AtOk a:=by
 intro a ha;simp only[rowA,List.mem_flatMap] at ha;obtain⟨x,_,hx⟩:=ha;exact Vm.Qao enc _ a hx
theorem Qie (h:∀x∈R,LeafOk enc x) (h0:(rowB R).length=0):rowA enc R=[]/\rowB R=[]:=by
 have h1:=Qae h;have h2:=Vm.Qau (Qa4 enc R);exact⟨List.eq_nil_of_length_eq_zero (by omega),List.eq_nil_of_length_eq_zero h0⟩
theorem QgF (h:∀x∈R,LeafOk enc x) (hb:(rowB R).length<=281474976710656):(cnOf (rowA enc R)).Small:=by
 have h1:=Qae h;have h2:=Vm.Qau (Qa4 enc R);exact Qbr (by omega) (by omega)
def Gd (R:List (Cn × ByteArray)):Prop:=(∀x∈R,1<=x.2.size)\/((rowB R).length=0/\R.length<=1)
theorem Gd.nil :Gd []:=.inl (fun x hx=>by cases hx)
theorem Gd.one (x:Cn × ByteArray):Gd [x]:=by
 by_cases h:1<=x.2.size
 ·exact .inl (fun y hy=>by simp at hy;rw[hy];exact h)
 have hz:x.2.data.toList.length=x.2.size:=rfl;exact .inr ⟨by simp only[rowB,List.flatMap_cons,List.flatMap_nil,List.append_nil];omega,Z6 _⟩
theorem QeL (A B:List (Cn × ByteArray)):(rowB (A++B)).length=(rowB A).length+(rowB B).length:=by rw[Qaf,List.length_append]
theorem Gd.app (ha:Gd A) (hb:Gd B) (h0:(rowB A).length≠0) (h1:(rowB B).length≠0):Gd (A++B):=by
 rcases ha with ha|ha
 ·rcases hb with hb|hb
  ·refine .inl (fun x hx=>?_);rcases List.mem_append.1 hx with h|h
   ·exact ha x h
   exact hb x h
  exact absurd hb.1 h1
 exact absurd ha.1 h0
theorem Gd.left (h:Gd (A++B)):Gd A:=by
 rcases h with h|⟨h1,h2⟩
 ·exact .inl (fun x hx=>h x (by simp [hx]))
 rw[QeL] at h1;rw[List.length_append] at h2;exact .inr ⟨by omega,by omega⟩
theorem Gd.right (h:Gd (A++B)):Gd B:=by
 rcases h with h|⟨h1,h2⟩
 ·exact .inl (fun x hx=>h x (by simp [hx]))
 rw[QeL] at h1;rw[List.length_append] at h2;exact .inr ⟨by omega,by omega⟩
theorem QnX :∀(R:List (Cn × ByteArray)),(∀x∈R,1<=x.2.size)->R.length<=(rowB R).length
 |[],_=>Nat.zero_le _
 |x :: R,h=>by
  have ih:=QnX R (fun y hy=>h y (by simp [hy]))
  have h1:=h x (by simp)
  have e:(rowB (x :: R)).length=x.2.size+(rowB R).length:=by simp [rowB]
  rw[e,List.length_cons];omega
theorem Gd.len (h:Gd R):R.length<=(rowB R).length+1:=by
 rcases h with h|h
 ·have:=QnX R h;omega
 omega
structure JoinOk (enc:Int) (b:Option Nd) (Ra Rb:List (Cn × ByteArray)) (w:World) (e:Ending) (w':World) (t:Option Nd) (R:List (Cn × ByteArray)):Prop where
 val:e=.returned (.agg #[trv t])
 at_:TrAt w' enc t R
 atoms:rowA enc R=rowA enc Ra++rowA enc Rb
 bytes:rowB R=rowB Ra++rowB Rb
 len:R.length<=Ra.length+Rb.length
 below:Below w.heap.size w w'
 som:b.isSome=true->t.isSome=true
 gd:Gd Ra->Gd Rb->Gd R
theorem QaA (v0 v1 v2 v3 v4 v5 v6 v7:Value) (w:World):(Instr.field 119 (.agg #[v0,v1,v2,v3,v4,v5,v6,v7]) 0).run prog w=.ok v0 w:=by kernel_rfl
theorem Qd2 (t:Option Nd):trv t=.nilIface\/∃k v,trv t=.iface k v:=by
 cases t with
 |none=>exact .inl rfl
 |some n=>exact .inr ⟨_,_,rfl⟩
theorem Nd.kept_set (hc:w.cell? ⟨b,0,none⟩=some .nilIface):∀{n:Nd},n.In w->n.In (w.setCell ⟨b,j,none⟩ v)
 |.leaf B _ _,h=>by
  have hne:B≠b:=by
   intro e;subst e;rw[Lib.cell_of_heap h] at hc;cases hc
  exact (Below.heap_setCell _ _ _ _ hne).trans h
 |.inner B _ _ _ _,h=>by
  have hne:B≠b:=by
   intro e;subst e;rw[Lib.cell_of_heap h.1] at hc;cases hc
  exact⟨(Below.heap_setCell _ _ _ _ hne).trans h.1,Nd.kept_set hc h.2.1,Nd.kept_set hc h.2.2⟩
theorem TrAt.kept_set {t:Option Nd} (h:TrAt w enc t R) (hc:w.cell? ⟨b,0,none⟩=some .nilIface):TrAt (w.setCell ⟨b,j,none⟩ v) enc t R :=
 ⟨fun n hn=>⟨Nd.kept_set hc (h.inn n hn).1,(h.inn n hn).2⟩,h.non,h.ok⟩
theorem Qg8 {t:TypeId} (hb:Below (((w.alloc (.cells #[va] t)).alloc (.cells #[vb] t)).alloc (.cells #[.nilIface] t)).heap.size (((w.alloc (.cells #[va] t)).alloc (.cells #[vb] t)).alloc (.cells #[.nilIface] t)) w1) :
  w1.cell? ⟨w.heap.size,0,none⟩=some va/\w1.cell? ⟨w.heap.size+1,0,none⟩=some vb/\w1.cell? ⟨w.heap.size+1+1,0,none⟩=some .nilIface/\w1.frozen? ⟨w.heap.size+1+1,0,none⟩=false/\w.heap.size+1+1<w1.heap.size/\Below w.heap.size w w1:=by
 have hz:(((w.alloc (.cells #[va] t)).alloc (.cells #[vb] t)).alloc (.cells #[.nilIface] t)).heap.size=w.heap.size+3:=by simp
 have hs:=hb.size
 have hlow:Below w.heap.size w (((w.alloc (.cells #[va] t)).alloc (.cells #[vb] t)).alloc (.cells #[.nilIface] t)):=((Z7 _ _).alloc (by simp) _).alloc (by simp;omega) _
 have b1:Below (w.alloc (.cells #[va] t)).heap.size (w.alloc (.cells #[va] t)) (((w.alloc (.cells #[va] t)).alloc (.cells #[vb] t)).alloc (.cells #[.nilIface] t)):=(Z7 _ _).alloc (by simp) _
 have b2:Below ((w.alloc (.cells #[va] t)).alloc (.cells #[vb] t)).heap.size ((w.alloc (.cells #[va] t)).alloc (.cells #[vb] t)) (((w.alloc (.cells #[va] t)).alloc (.cells #[vb] t)).alloc (.cells #[.nilIface] t)):=Z7 _ _
 refine⟨?_,?_,?_,?_,by omega,hlow.trans (hb.mono (by omega))⟩
 ·rw[hb.cell (p:=⟨w.heap.size,0,none⟩) (by show w.heap.size<_;omega),b1.cell (p:=⟨w.heap.size,0,none⟩) (by show w.heap.size<_;simp)];simp
 ·rw[hb.cell (p:=⟨w.heap.size+1,0,none⟩) (by show w.heap.size+1<_;omega),b2.cell (p:=⟨w.heap.size+1,0,none⟩) (by show w.heap.size+1<_;simp)];have:=new8 (w.alloc (.cells #[va] t)) (w.heap.size+1) #[vb] t 0 vb (by simp) rfl;exact this
 ·rw[hb.cell (p:=⟨w.heap.size+1+1,0,none⟩) (by show w.heap.size+1+1<_;omega)];have:=new8 ((w.alloc (.cells #[va] t)).alloc (.cells #[vb] t)) (w.heap.size+1+1) #[.nilIface] t 0 .nilIface (by simp) rfl;exact this
 rw[hb.frozen (p:=⟨w.heap.size+1+1,0,none⟩) (by show w.heap.size+1+1<_;omega)];simp [go_sem]
theorem Qey {w2:World} (h:w1.cell? ⟨w.heap.size,0,none⟩=some va/\w1.cell? ⟨w.heap.size+1,0,none⟩=some vb/\w1.cell? ⟨w.heap.size+1+1,0,none⟩=some .nilIface/\w1.frozen? ⟨w.heap.size+1+1,0,none⟩=false/\w.heap.size+1+1<w1.heap.size/\Below w.heap.size w w1) (hb:Below w1.heap.size w1 w2) :
  w2.cell? ⟨w.heap.size,0,none⟩=some va/\w2.cell? ⟨w.heap.size+1,0,none⟩=some vb/\w2.cell? ⟨w.heap.size+1+1,0,none⟩=some .nilIface/\w2.frozen? ⟨w.heap.size+1+1,0,none⟩=false/\w.heap.size+1+1<w2.heap.size/\Below w.heap.size w w2:=by
 obtain⟨h1,h2,h3,h4,h5,h6⟩:=h
 have hs:=hb.size
 exact⟨(hb.cell (p:=⟨w.heap.size,0,none⟩) (by show w.heap.size<_;omega)).trans h1,(hb.cell (p:=⟨w.heap.size+1,0,none⟩) (by show w.heap.size+1<_;omega)).trans h2,(hb.cell (p:=⟨w.heap.size+1+1,0,none⟩) (by show w.heap.size+1+1<_;omega)).trans h3,(hb.frozen (p:=⟨w.heap.size+1+1,0,none⟩) (by show w.heap.size+1+1<_;omega)).trans h4,by omega,h6.trans (hb.mono (by omega))⟩
theorem Qov (enc:Int) (a b:Option Nd) (Ra Rb:List (Cn × ByteArray)) (w:World) (ha:TrAt w enc a Ra) (hb:TrAt w enc b Rb) (h0:(rowB Ra).length=0) :
  Calls prog 82 #[.agg #[trv a],.agg #[trv b]] w fun e w'=>∃t R,JoinOk enc b Ra Rb w e w' t R:=by
 obtain⟨r1,r2⟩:=Qie ha.ok h0
 have HC:=Z1 (fun w1 (h:TrAt w1 enc a Ra)=>h.counts)
 rw[r1,Qj1] at HC
 have HB:=Z1 hb
 have HA:=Z1 ha
 have HR:=Z1 (And.intro r1 r2)
 have HW:=Z1 (Qd2 b)
 generalize trv a=va at *
 generalize hvb:trv b=vb at *
 have HV:=Z1 hvb
 clear hvb r1 r2 ha hb h0
 have fb:=QaA
 go_enter func82,ntmps82
 go_wp2_with fail
 refine (HC.o _ (HA.o.low (((Z7 _ _).alloc (by simp) _).alloc (by simp;omega) _))).mono ?_
 rintro e w1 ⟨rfl,hb1⟩
 obtain⟨q0,q1,q2,q3,q4,q5⟩:=Qg8 hb1
 simp only[Cn.val]
 clear hb1 HC HA
 have HQ5:=Z1 q5
 clear q5
 rcases HW.o with hx|⟨k,u,hx⟩
 ·subst hx;clear HW;go_wp2_with fail;refine bodyPost_ret (v:=.agg #[.nilIface]) (by simp [results,Tryz.results82,go_sem,q2]) rfl ⟨b,Rb,?_⟩;have hb':=HQ5.o.setCell (p:=⟨w.heap.size+1+1,0,none⟩) (by show w.heap.size<=w.heap.size+1+1;omega) .nilIface;exact⟨by rw[HV.o],HB.o.low hb',by rw[HR.o.1];rfl,by rw[HR.o.2];rfl,by omega,hb',fun h=>h,fun _ h=>h⟩
 subst hx
 clear HW
 go_wp2_with fail
 refine bodyPost_ret (v:=.agg #[.iface k u]) (by simp [results,Tryz.results82,go_sem,q2]) rfl ⟨b,Rb,?_⟩
 have hb':=HQ5.o.setCell (p:=⟨w.heap.size+1+1,0,none⟩) (by show w.heap.size<=w.heap.size+1+1;omega) (.iface k u)
 exact⟨by rw[HV.o],HB.o.low hb',by rw[HR.o.1];rfl,by rw[HR.o.2];rfl,by omega,hb',fun h=>h,fun _ h=>h⟩
theorem Qom (enc:Int) (a b:Option Nd) (Ra Rb:List (Cn × ByteArray)) (w:World) (ha:TrAt w enc a Ra) (hb:TrAt w enc b Rb) (h0:(rowB Ra).length≠0) (h1:(rowB Rb).length=0) :
  Calls prog 82 #[.agg #[trv a],.agg #[trv b]] w fun e w'=>∃t R,JoinOk enc b Ra Rb w e w' t R:=by
 obtain⟨r1,r2⟩:=Qie hb.ok h1
 have HSM:=Z1 (show b.isSome=true->a.isSome=true from fun _=>by
  cases a with
  |none=>exact absurd (by rw[ha.non rfl];rfl) h0
  |some _=>rfl)
 have HC:=Z1 (fun w1 (h:TrAt w1 enc a Ra)=>h.counts)
 have HD:=Z1 (fun w1 (h:TrAt w1 enc b Rb)=>h.counts)
 rw[r1,Qj1] at HD
 have hsz:Vm.sizeA (rowA enc Ra)≠0:=by rw[Qae ha.ok];exact h0
 have HB:=Z1 hb
 have HA:=Z1 ha
 have HR:=Z1 (And.intro r1 r2)
 have HW:=Z1 (Qd2 a)
 generalize hva:trv a=va at *
 generalize trv b=vb at *
 have HV:=Z1 hva
 generalize hc:cnOf (rowA enc Ra)=c at *
 have hcb:c.body≠0:=by rw[<-hc];exact hsz
 obtain⟨c0,c1,c2,c3,c4,c5,c6,c7⟩:=c
 simp only at hcb
 have hcb':¬((c0:Int)=0):=by omega
 clear hva r1 r2 ha hb h0 h1 hsz hc
 have fb:=QaA
 go_enter func82,ntmps82
 go_wp2_with fail
 have hbw:=((Z7 w (.cells #[va] 89)).alloc (by simp) (.cells #[vb] 89)).alloc (by simp;omega) (.cells #[.nilIface] 89)
 have HA1:=Z1 (HA.o.low hbw)
 have HB1:=Z1 (HB.o.low hbw)
 refine (HC.o _ HA1.o).mono ?_
 rintro e w1 ⟨rfl,hb1⟩
 have hq:=Qg8 hb1
 have HB2:=Z1 (HB1.o.low hb1)
 have HQ:=Z1 hq
 obtain⟨q0,q1,q2,q3,q4,q5⟩:=hq
 simp only[Cn.val]
 clear hb1 HC HA1 HB1 hbw q5
 go_wp2_with fail
 refine (HD.o _ HB2.o).mono ?_
 rintro e w2 ⟨rfl,hb2⟩
 clear q0 q1 q2 q3 q4
 obtain⟨q0,q1,q2,q3,q4,q5⟩:=Qey HQ.o hb2
 simp only[Cn.val]
 clear hb2 HQ HD HB2
 have HQ5:=Z1 q5
 clear q5
 rcases HW.o with hx|⟨k,u,hx⟩
 ·subst hx;clear HW;go_wp2_with fail;refine bodyPost_ret (v:=.agg #[.nilIface]) (by simp [results,Tryz.results82,go_sem,q2]) rfl ⟨a,Ra,?_⟩;have hb':=HQ5.o.setCell (p:=⟨w.heap.size+1+1,0,none⟩) (by show w.heap.size<=w.heap.size+1+1;omega) .nilIface;exact⟨by rw[HV.o],HA.o.low hb',by rw[HR.o.1,List.append_nil],by rw[HR.o.2,List.append_nil],by omega,hb',HSM.o,fun h _=>h⟩
 subst hx
 clear HW
 go_wp2_with fail
 refine bodyPost_ret (v:=.agg #[.iface k u]) (by simp [results,Tryz.results82,go_sem,q2]) rfl ⟨a,Ra,?_⟩
 have hb':=HQ5.o.setCell (p:=⟨w.heap.size+1+1,0,none⟩) (by show w.heap.size<=w.heap.size+1+1;omega) (.iface k u)
 exact⟨by rw[HV.o],HA.o.low hb',by rw[HR.o.1,List.append_nil],by rw[HR.o.2,List.append_nil],by omega,hb',HSM.o,fun h _=>h⟩
theorem Qoc (enc:Int) (n m:Nd) (w:World) (ha:TrAt w enc (some n) n.row) (hb:TrAt w enc (some m) m.row) (h0:(rowB n.row).length≠0) (h1:(rowB m.row).length≠0)
  (hsz:(rowB n.row).length+(rowB m.row).length<=281474976710656) (hlen:n.row.length+m.row.length<=1152921504606846976) :
  Calls prog 82 #[.agg #[trv (some n)],.agg #[trv (some m)]] w fun e w'=>∃t R,JoinOk enc (some m) n.row m.row w e w' t R:=by
 have HZ0:=Z1 h0
 have HZ1:=Z1 h1
 have HC:=Z1 (fun w1 (h:TrAt w1 enc (some n) n.row)=>h.counts)
 have HD:=Z1 (fun w1 (h:TrAt w1 enc (some m) m.row)=>h.counts)
 have z1:Vm.sizeA (rowA enc n.row)≠0:=by rw[Qae ha.ok];exact h0
 have z2:Vm.sizeA (rowA enc m.row)≠0:=by rw[Qae hb.ok];exact h1
 have e1:=Nd.cn_row enc (ha.inn n rfl).2.1 ha.ok
 have e2:=Nd.cn_row enc (hb.inn m rfl).2.1 hb.ok
 have hsm:(n.cn.plus m.cn).Small:=by
  rw[e1,e2,<-Qa2,<-Qaw];exact QgF (fun x hx=>(List.mem_append.1 hx).elim (ha.ok x) (hb.ok x)) (by rw[Qaf,List.length_append];exact hsz)
 have HJ:=Z1 (fun w1 (hn:n.In w1) (hm:m.In w1)=>Qni _ n m w1 (Z6 _) hn hm (ha.inn n rfl).2.1 (hb.inn m rfl).2.1 hsm hlen)
 have HQ:=Z1 (fun (W w1:World) (e:Ending) (r:Nd) (h:Joined n m W e w1 r)=>(show TrAt w1 enc (some r) (n.row++m.row) from ⟨fun x hx=>by cases hx;exact⟨h.inn,h.ok,h.row⟩,fun h=>(by cases h),fun x hx=>(List.mem_append.1 hx).elim (ha.ok x) (hb.ok x)⟩))
 have HB:=Z1 hb
 have HA:=Z1 ha
 simp only[trv] at *
 generalize hc:cnOf (rowA enc n.row)=c at *
 have hcb:c.body≠0:=by rw[<-hc];exact z1
 obtain⟨c0,c1,c2,c3,c4,c5,c6,c7⟩:=c
 simp only at hcb
 have hcb':¬((c0:Int)=0):=by omega
 generalize hd:cnOf (rowA enc m.row)=d at *
 have hdb:d.body≠0:=by rw[<-hd];exact z2
 obtain⟨d0,d1,d2,d3,d4,d5,d6,d7⟩:=d
 simp only at hdb
 have hdb':¬((d0:Int)=0):=by omega
 clear ha hb h0 h1 hsz hc hd z1 z2 e1 e2 hsm hlen
 have fb:=QaA
 go_enter func82,ntmps82
 go_wp2_with fail
 have hbw:=((Z7 w (.cells #[.iface n.ty (.pointer (some ⟨n.blk,0,none⟩))] 89)).alloc (by simp) (.cells #[.iface m.ty (.pointer (some ⟨m.blk,0,none⟩))] 89)).alloc (by simp;omega) (.cells #[.nilIface] 89)
 have HA1:=Z1 (HA.o.low hbw)
 have HB1:=Z1 (HB.o.low hbw)
 refine (HC.o _ HA1.o).mono ?_
 rintro e w1 ⟨rfl,hb1⟩
 have hq:=Qg8 hb1
 have HA2:=Z1 (HA1.o.low hb1)
 have HB2:=Z1 (HB1.o.low hb1)
 have HQ3:=Z1 hq
 obtain⟨q0,q1,q2,q3,q4,q5⟩:=hq
 simp only[Cn.val]
 clear hb1 HC HA1 HB1 hbw q5
 go_wp2_with fail
 refine (HD.o _ HB2.o).mono ?_
 rintro e w2 ⟨rfl,hb2⟩
 clear q0 q1 q2 q3 q4
 have hq:=Qey HQ3.o hb2
 have HA3:=Z1 (HA2.o.low hb2)
 have HB3:=Z1 (HB2.o.low hb2)
 have HQ4:=Z1 hq
 obtain⟨q0,q1,q2,q3,q4,q5⟩:=hq
 simp only[Cn.val]
 clear hb2 HQ3 HD HB2 HA2 q5
 go_wp2_with fail
 refine (HJ.o _ (HA3.o.inn n rfl).1 (HB3.o.inn m rfl).1).mono ?_
 rintro e w3 ⟨r,hr⟩
 obtain rfl:=hr.val
 clear q0 q1 q2 q3 q4
 obtain⟨q0,q1,q2,q3,q4,q5⟩:=Qey HQ4.o hr.below
 have HR:=Z1 (HQ.o _ _ _ _ hr)
 have HQ5:=Z1 q5
 clear q5 hr HQ4 HJ HA3 HB3
 go_wp2_with fail
 refine bodyPost_ret (v:=.agg #[.iface r.ty (.pointer (some ⟨r.blk,0,none⟩))]) (by simp [results,Tryz.results82,go_sem,q2]) rfl ⟨some r,n.row++m.row,?_⟩
 have hb':=HQ5.o.setCell (p:=⟨w.heap.size+1+1,0,none⟩) (by show w.heap.size<=w.heap.size+1+1;omega) (.iface r.ty (.pointer (some ⟨r.blk,0,none⟩)))
 exact⟨rfl,HR.o.kept_set q2,Qaw _ _ _,Qaf _ _,by rw[List.length_append];omega,hb',fun _=>rfl,fun h k=>h.app k HZ0.o HZ1.o⟩
theorem QbG (enc:Int) (a b:Option Nd) (Ra Rb:List (Cn × ByteArray)) (w:World) (ha:TrAt w enc a Ra) (hb:TrAt w enc b Rb)
  (hsz:(rowB Ra).length+(rowB Rb).length<=281474976710656) (hlen:Ra.length+Rb.length<=1152921504606846976) :
  Calls prog 82 #[.agg #[trv a],.agg #[trv b]] w fun e w'=>∃t R,JoinOk enc b Ra Rb w e w' t R:=by
 by_cases h0:(rowB Ra).length=0
 ·exact Qov enc a b Ra Rb w ha hb h0
 by_cases h1:(rowB Rb).length=0
 ·exact Qom enc a b Ra Rb w ha hb h0 h1
 cases a with
 |none=>exact absurd (by rw[ha.non rfl];rfl) h0
 |some n =>
  cases b with
  |none=>exact absurd (by rw[hb.non rfl];rfl) h1
  |some m =>
   have e1:=(ha.inn n rfl).2.2;have e2:=(hb.inn m rfl).2.2;subst e1 e2;exact Qoc enc n m w ha hb h0 h1 hsz hlen
end Go.Proofs.YtoejbngihecafaaGreatDoor
