import Derived.Test.YtoejbngihecafaaGreatDoorC24
import Derived.Test.YtoejbngihecafaaGreatDoorC3
import Derived.Test.YtoejbngihecafaaGreatDoorC34
import Derived.Test.YtoejbngihecafaaGreatDoorC0
set_option maxRecDepth 100000
set_option maxHeartbeats 2000000
open Go.Proofs.Tryz
namespace Go.Proofs.YtoejbngihecafaaGreatDoor
open Go.RowKit
theorem Qdo (u enc:Int) (w:World) (h0:0<=u) (h1:u<=65535) :
  Calls prog 169 #[.int .i64 u,.int .i64 enc] w fun e w'=>e=.returned (.string (strOfNums (Vm.unitL enc u)))/\Below w.heap.size w w':=by
 have k2:=conv2
 unfold Vm.unitL
 by_cases he:enc=1
 ·rw[if_pos he];subst he;go_enter func169,ntmps169;go_wp2;go_ret;exact⟨rfl,Z7 _ _⟩
 rw[if_neg he]
 have heb:(enc==1)=false:=by simpa using he
 go_enter func169,ntmps169
 go_wp2
 go_ret
 exact⟨rfl,Z7 _ _⟩
theorem QaX (l:List Int):(strOfNums l).size=l.length:=by simp [strOfNums,ByteArray.size]
theorem QfN (enc n:Int):(Vm.wrL enc n).length<=4:=by
 unfold Vm.wrL;split
 ·rw[Vm.QaS];have:=Vm.Qaa n;omega
 split
 ·simp
 split
 ·rw[List.length_append,Vm.Qas,Vm.Qas];omega
 rw[Vm.Qas];omega
theorem Qb6 (n enc:Int) (w:World) (h0:0<=n) (h1:n<=1114111) (e0:0<=enc) (e3:enc<=3) :
  Calls prog 152 #[.int .i64 n,.int .i64 enc] w fun e w'=>e=.returned (.tuple #[.string (strOfNums (Vm.wrL enc n)),.bool (decide (enc≠3\/n<=255))])/\Below w.heap.size w w':=by
 have k1:=conv1
 have hc:enc=0\/enc=3\/(enc=1\/enc=2):=by omega
 rcases hc with rfl|rfl|hc
 ·have HU:=Z2 (fun w=>QcB n w h0 (by omega));have e:Vm.wrL 0 n=Vm.utfL n:=rfl;rw[e];clear e;go_enter func152,ntmps152;go_wp2_with fail;refine (HU.o _).mono ?_;rintro e w1 ⟨rfl,hb1⟩;go_wp2_with fail;go_ret2;exact⟨by simp,hb1⟩
 ·have e:Vm.wrL 3 n=[n%256]:=rfl;rw[e];clear e;go_enter func152,ntmps152;go_wp2;go_ret2;exact⟨by simp,Z7 _ _⟩
 have hne0:¬enc=0:=by omega
 have hne3:¬enc=3:=by omega
 have hb0:(enc==0)=false:=by simpa using hne0
 have hb3:(enc==3)=false:=by simpa using hne3
 have hd:decide (enc≠3\/n<=255)=true:=by simp [hne3]
 rw[hd]
 have e:Vm.wrL enc n=if 65535<n then Vm.unitL enc (55296+(n - 65536) / 1024)++Vm.unitL enc (56320+(n - 65536)%1024) else Vm.unitL enc n:=by unfold Vm.wrL;rw[if_neg hne0,if_neg hne3]
 rw[e];clear e hc hd
 by_cases hn:65535<n
 ·rw[if_pos hn,QaH];have P1:=Z2 (fun w=>Qdo (55296+(n - 65536) / 1024) enc w (by omega) (by omega));have P2:=Z2 (fun w=>Qdo (56320+(n - 65536)%1024) enc w (by omega) (by omega));have z1:(strOfNums (Vm.unitL enc (55296+(n - 65536) / 1024))).size<=4:=by rw[QaX,Vm.Qas];omega
  have z2:(strOfNums (Vm.unitL enc (56320+(n - 65536)%1024))).size<=4:=by rw[QaX,Vm.Qas];omega
  generalize strOfNums (Vm.unitL enc (55296+(n - 65536) / 1024))=s1 at *;generalize strOfNums (Vm.unitL enc (56320+(n - 65536)%1024))=s2 at *;go_enter func152,ntmps152;go_wp2_with fail;refine (P1.o _).mono ?_;rintro e w1 ⟨rfl,hb1⟩;go_wp2_with fail;refine (P2.o _).mono ?_;rintro e w2 ⟨rfl,hb2⟩;go_wp2_with fail;go_ret2;exact⟨rfl,hb1.trans (hb2.mono hb1.size)⟩
 rw[if_neg hn]
 have P1:=Z2 (fun w=>Qdo n enc w h0 (by omega))
 go_enter func152,ntmps152
 go_wp2_with fail
 refine (P1.o _).mono ?_
 rintro e w1 ⟨rfl,hb1⟩
 go_wp2_with fail
 go_ret2
 exact⟨rfl,hb1⟩
theorem Qel (kind enc:Int) (w:World) (k0:0<=kind) (k2:kind<=2) (e0:0<=enc) (e3:enc<=3) :
  Calls prog 151 #[.int .i64 kind,.int .i64 enc] w fun e w'=>e=.returned (.string (strOfNums (Vm.endL enc kind)))/\Below w.heap.size w w':=by
 have W1:=Z2 (fun w=>Qb6 13 enc w (by decide) (by decide) e0 e3)
 have W2:=Z2 (fun w=>Qb6 10 enc w (by decide) (by decide) e0 e3)
 have hc:kind=0\/kind=1\/kind=2:=by omega
 have d1:decide (enc≠3\/(13:Int)<=255)=true:=by simp
 have d2:decide (enc≠3\/(10:Int)<=255)=true:=by simp
 rw[d1] at W1
 rw[d2] at W2
 unfold Vm.endL
 rcases hc with rfl|rfl|rfl
 ·rw[if_pos rfl];go_enter func151,ntmps151;go_wp2_with fail;refine (W1.o _).mono ?_;rintro e w1 ⟨rfl,hb1⟩;go_wp2_with fail;refine (W2.o _).mono ?_;rintro e w2 ⟨rfl,hb2⟩;go_wp2_with fail;go_ret;exact⟨rfl,hb1.trans (hb2.mono hb1.size)⟩
 ·rw[if_neg (by decide),if_neg (by decide),QaH];have z1:(strOfNums (Vm.wrL enc 13)).size<=4:=by rw[QaX];exact QfN _ _
  have z2:(strOfNums (Vm.wrL enc 10)).size<=4:=by rw[QaX];exact QfN _ _
  generalize strOfNums (Vm.wrL enc 13)=s1 at *;generalize strOfNums (Vm.wrL enc 10)=s2 at *;go_enter func151,ntmps151;go_wp2_with fail;refine (W1.o _).mono ?_;rintro e w1 ⟨rfl,hb1⟩;go_wp2_with fail;refine (W2.o _).mono ?_;rintro e w2 ⟨rfl,hb2⟩;go_wp2_with fail;go_ret;exact⟨rfl,hb1.trans (hb2.mono hb1.size)⟩
 rw[if_neg (by decide),if_pos rfl]
 go_enter func151,ntmps151
 go_wp2_with fail
 refine (W1.o _).mono ?_
 rintro e w1 ⟨rfl,hb1⟩
 go_wp2_with fail
 refine (W2.o _).mono ?_
 rintro e w2 ⟨rfl,hb2⟩
 go_wp2_with fail
 go_ret
 exact⟨rfl,hb1.trans (hb2.mono hb1.size)⟩
end Go.Proofs.YtoejbngihecafaaGreatDoor
namespace Vm
variable {A:List At} {j:Nat} {x:At}
def typV (enc k:Int) (A:List At):List Int × Int:=if A.any (fun x=>x.1==4) then ([],4) else if enc=3/\A.any (fun x=>decide (255<x.2.1))=true then ([],5) else (typL enc k A,0)
theorem Qlv {enc k:Int} (h:A[j]?=some x):typL enc k (A.take (j+1))=typL enc k (A.take j)++typA enc k x:=by
 rw[List.take_add_one,h];simp [typL]
theorem QjV {p:At->Bool} (h:A[j]?=some x):(A.take (j+1)).any p=((A.take j).any p || p x):=by
 rw[List.take_add_one,h];simp
end Vm
namespace Go.Proofs.YtoejbngihecafaaGreatDoor
open Go.RowKit
theorem Qdb (enc k:Int) (x:Vm.At):(Vm.typA enc k x).length<=8:=by
 unfold Vm.typA Vm.endL;have h1:=QfN enc 13;have h2:=QfN enc 10;have h3:=QfN enc x.2.1
 repeat' split
 all_goals first|omega|(rw[List.length_append];omega)
theorem QeY (enc k:Int):∀(A:List Vm.At),(Vm.typL enc k A).length<=8 * A.length
 |[]=>by simp [Vm.typL]
 |x :: A=>by
  have ih:=QeY enc k A
  have e:Vm.typL enc k (x :: A)=Vm.typA enc k x++Vm.typL enc k A:=rfl
  have:=Qdb enc k x
  rw[e,List.length_append,List.length_cons];omega
theorem Qkv (text:ByteArray) (enc k:Int) (w:World) (hs:text.size<=1099511627776) (h0:0<=enc) (h3:enc<=3) (k0:0<=k) (k2:k<=2) :
  Calls prog 148 #[.string text,.int .i64 enc,.int .i64 k] w fun e w'=>e=.returned (.tuple #[.string (strOfNums (Vm.typV enc k (Vm.atoms 0 text.data.toList)).1),.int .i64 (Vm.typV enc k (Vm.atoms 0 text.data.toList)).2])/\Below w.heap.size w w':=by
 have hok:=Vm.Qao 0 text.data.toList
 have hca:=Qgm text 0 w hs (by decide) (by decide)
 generalize Vm.atoms 0 text.data.toList=A at *
 obtain⟨V,hV⟩:∃V,V=Vm.typV enc k A:=⟨_,rfl⟩
 rw[<-hV]
 have HV:=Z2 hV
 have HC:=Z2 hca
 clear hV hca
 go_enter func148,ntmps148
 go_wp2_with fail
 refine HC.o.mono ?_
 rintro e w1 ⟨v,L,rfl,hr,hl,ho,hb1⟩
 obtain⟨p,cap,rfl⟩:∃p cap,v=.slice p L.length cap:=by
  rcases ho.2 with ⟨x,y⟩|⟨g,c,cur,x,_⟩
  ·exact⟨none,0,by rw[x,y]⟩
  exact⟨_,_,x⟩
 have HO:=Z2 ho
 have HR:=Z2 hr
 have HL:=Z2 hr.length
 have HOK:=Z2 hok
 clear ho hr hok HC
 go_wp2_with fail
 go_loopw [9,10,11] (fun la s i wx=>∃j:Nat,j<=L.length/\la=.bool (!(decide (enc=3)&&(A.take j).any (fun x=>decide (255<x.2.1))))/\s=.string (strOfNums (Vm.typL enc k (A.take j)))/\i=.int .i64 j/\(A.take j).any (fun x=>x.1==4)=false/\Below w1.heap.size w1 wx) (fun _ _ i _=>L.length - (intOf i).toNat)
 case atStart=>exact⟨0,Nat.zero_le _,by simp,rfl,rfl,rfl,Below.refl _ _⟩
 case round =>
  obtain⟨j,hj,rfl,rfl,rfl,hne,hbx⟩:=hrel;have hlA1:L.length<=A.length:=by rw[HL.o];exact Z6 _
  have hlA2:A.length<=L.length:=by rw[HL.o];exact Z6 _
  have m1:=QeY enc k (A.take j);have mt:(A.take j).length<=j:=by simp;omega
  have hzs:(strOfNums (Vm.typL enc k (A.take j))).size<=8 * j:=by rw[QaX];omega
  by_cases hlt:j<L.length
  ·have hltI:(j:Int)<(L.length:Int):=by omega
   obtain⟨a,ha⟩:∃a,L[j]?=some a:=⟨L[j],List.getElem?_eq_getElem hlt⟩;obtain⟨x,pz,hx,hra0⟩:=Qbc HR.o j a ha;have hxo:=HOK.o x (List.mem_of_getElem? hx)
   obtain⟨g,rfl⟩:∃g,p=some ⟨g,0,none⟩:=by
    rcases HO.o.2 with ⟨y,z⟩|⟨g,c,cur,y,_⟩
    ·omega
    injection y with y1;exact⟨g,y1⟩
   have hcells:∀wx,Below w1.heap.size w1 wx->wx.cell? ⟨g,j * 5,none⟩=some (.int .i64 a.1)/\wx.cell? ⟨g,j * 5+1,none⟩=some (.bool a.2.1)/\wx.cell? ⟨g,j * 5+2,none⟩=some (.int .i64 a.2.2.1):=fun wx hbx=>by
    have cell:=fun i (hi:i<5)=>((HO.o.below hbx).cellAt (j * 5+i) (by omega)).trans (QaP L j a i ha hi);exact⟨cell 0 (by decide),cell 1 (by decide),cell 2 (by decide)⟩
   have T1:=Z2 (Vm.Qlv (enc:=enc) (k:=k) hx);have T2:=Z2 (Vm.QjV (p:=fun y=>decide (255<y.2.1)) hx);have T3:=Z2 (Vm.QjV (p:=fun y=>y.1==4) hx);have hesc:=hra0.2.2.1;have hend:=hra0.2.2.2.1;have hchr:=hra0.2.2.2.2.1;have hx0:=hra0.2.2.2.2.2.1;have HCE:=Z2 hcells;obtain⟨q0,q1,q2⟩:=HCE.o _ hbx;have hzg:=Z3 q0;have hmem:=List.mem_of_getElem? hx;clear hcells hra0 ha;by_cases h4:x.1=4
   ·have hae:a.2.1=true:=by rw[hesc];simp [h4]
    rw[hae] at q1
    have HF:=Z2 (show Vm.typV enc k A=([],4) by
     unfold Vm.typV
     rw[if_pos (List.any_eq_true.2 ⟨x,hmem,by simp [h4]⟩)])
    clear hesc hend hchr hae;go_wp2_with fail;go_ret2;exact⟨by rw[HV.o,HF.o];rfl,hb1.trans (hbx.mono hb1.size)⟩
   have hae:a.2.1=false:=by rw[hesc];simp [h4]
   rw[hae] at q1;have hac:=hchr h4;have hne':(A.take (j+1)).any (fun x=>x.1==4)=false:=by rw[T3.o,hne];simp [h4]
   have HNE:=Z2 hne';by_cases h2:x.1<=2
   ·have hpos:0<a.2.2.1:=by rw[hend,if_pos h2];omega
    have hten:=hxo.2.2.2.1 h2;have HE:=Z2 (fun w=>Qel k enc w k0 k2 h0 h3)
    have hz1:(strOfNums (Vm.endL enc k)).size<=8:=by
     rw[QaX];have:=Qdb enc k (0,10,1);unfold Vm.typA at this;simpa using this
    have HT:=Z2 (show Vm.typL enc k (A.take (j+1))=Vm.typL enc k (A.take j)++Vm.endL enc k by rw[T1.o];unfold Vm.typA;rw[if_pos h2]);have HLA:=Z2 (show (A.take (j+1)).any (fun x=>decide (255<x.2.1))=(A.take j).any (fun x=>decide (255<x.2.1)) by rw[T2.o,hten];simp);clear hesc hend hchr hae hac hten hne' T1 T2 T3 hxo;generalize a.2.2.1=ae at *;generalize hsj:strOfNums (Vm.typL enc k (A.take j))=sj at *;have HSJ:=Z2 hsj;clear hsj;generalize (A.take j).any (fun x=>decide (255<x.2.1))=lt at *;go_wp2_with fail;refine (HE.o _).mono ?_;rintro e w2 ⟨rfl,hb2⟩;have hb2':=hbx.trans (hb2.mono hbx.size);clear q0 q1 q2;go_wp2_with fail;refine⟨⟨j+1,by omega,?_,?_,by go_num,HNE.o,hb2'⟩,by simp [intOf];omega⟩
    ·rw[HLA.o];cases decide (enc=3)<;>cases lt<;>rfl
    rw[HT.o,QaH,HSJ.o]
   have hze:a.2.2.1=0:=by rw[hend,if_neg h2]
   rw[hze] at q2;rw[hac] at q0;have HW:=Z2 (fun w=>Qb6 x.2.1 enc w hxo.2.2.2.2.1 hxo.2.2.2.2.2.1 h0 h3);have hz1:(strOfNums (Vm.wrL enc x.2.1)).size<=4:=by rw[QaX];exact QfN _ _
   have HT:=Z2 (show Vm.typL enc k (A.take (j+1))=Vm.typL enc k (A.take j)++Vm.wrL enc x.2.1 by rw[T1.o];unfold Vm.typA;rw[if_neg h2]);obtain⟨ok,hok'⟩:∃ok,ok=decide (enc≠3\/x.2.1<=255):=⟨_,rfl⟩;rw[<-hok'] at HW
   have HLA:=Z2 (show (!(decide (enc=3)&&(A.take (j+1)).any (fun x=>decide (255<x.2.1))))=((!(decide (enc=3)&&(A.take j).any (fun x=>decide (255<x.2.1))))&&ok) by
    rw[T2.o,hok'];by_cases q1:enc=3
    ·by_cases q2:x.2.1<=255
     ·have q3:¬255<x.2.1:=by omega
      simp [q1,q2,q3]
     have q3:255<x.2.1:=by omega
     simp [q1,q2,q3]
    simp [q1])
   clear hesc hend hchr hae hac hne' T1 T2 T3 hxo hze hok';generalize hsj:strOfNums (Vm.typL enc k (A.take j))=sj at *;have HSJ:=Z2 hsj;clear hsj;generalize hl1:(!(decide (enc=3)&&(A.take j).any (fun x=>decide (255<x.2.1))))=lt at *;have HL1:=Z2 hl1;clear hl1;cases lt
   ·go_wp2_with fail;refine (HW.o _).mono ?_;rintro e w2 ⟨rfl,hb2⟩;have hb2':=hbx.trans (hb2.mono hbx.size);clear q0 q1 q2;go_wp2_with fail;refine⟨⟨j+1,by omega,?_,?_,by go_num,HNE.o,hb2'⟩,by simp [intOf];omega⟩
    ·rw[HLA.o];rfl
    rw[HT.o,QaH,HSJ.o]
   go_wp2_with fail;refine (HW.o _).mono ?_;rintro e w2 ⟨rfl,hb2⟩;have hb2':=hbx.trans (hb2.mono hbx.size);clear q0 q1 q2;go_wp2_with fail;refine⟨⟨j+1,by omega,?_,?_,by go_num,HNE.o,hb2'⟩,by simp [intOf];omega⟩
   ·rw[HLA.o];rfl
   rw[HT.o,QaH,HSJ.o]
  obtain rfl:j=L.length:=by omega
  have hall:A.take L.length=A:=by rw[HL.o,List.take_length]
  rw[hall] at hne hzs ⊢;have HNE:=Z2 hne;have hfb:=hb1.trans (hbx.mono hb1.size)
  have HF1:=Z2 (show (!(decide (enc=3)&&A.any (fun x=>decide (255<x.2.1))))=false->Vm.typV enc k A=([],5) from fun h=>by
   unfold Vm.typV
   rw[if_neg (by rw[HNE.o];decide),if_pos (by simpa using h)])
  have HF2:=Z2 (show (!(decide (enc=3)&&A.any (fun x=>decide (255<x.2.1))))=true->Vm.typV enc k A=(Vm.typL enc k A,0) from fun h=>by
   unfold Vm.typV
   rw[if_neg (by rw[HNE.o];decide),if_neg (by
    intro q;rw[q.2,decide_eq_true q.1] at h
    cases h)])
  clear hne hall;generalize hsj:strOfNums (Vm.typL enc k A)=sj at *;have HSJ:=Z2 hsj;clear hsj;cases hq:(!(decide (enc=3)&&A.any (fun x=>decide (255<x.2.1)))) with
  |false =>
   have HF:=Z2 (HF1.o hq);clear hq HF1 HF2;go_wp2_with fail;go_ret2;exact⟨by rw[HV.o,HF.o];rfl,hfb⟩
  |true =>
   have HF:=Z2 (HF2.o hq);clear hq HF1 HF2;go_wp2_with fail;go_ret2;exact⟨by rw[HV.o,HF.o,HSJ.o];rfl,hfb⟩
end Go.Proofs.YtoejbngihecafaaGreatDoor
