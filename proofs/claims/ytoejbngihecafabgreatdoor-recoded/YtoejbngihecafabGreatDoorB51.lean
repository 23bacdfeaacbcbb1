import Derived.Test.YtoejbngihecafabGreatDoorB4
import Derived.Test.YtoejbngihecafabGreatDoorB1
import Derived.Test.YtoejbngihecafabGreatDoorB3
import Derived.Test.YtoejbngihecafabGreatDoorB50
set_option maxRecDepth 100000
set_option maxHeartbeats 1000000
namespace Vm
theorem textL_len (A:List At):(textL A).length=bytesA A:=by
 induction A with
 |nil=>rfl
 |cons a A ih =>
  have e:textL (a :: A)=utfL (chA a)++textL A:=rfl
  have e2:bytesA (a :: A)=lenA a+bytesA A:=by simp [bytesA]
  rw[e,e2,List.length_append,utfL_length,ih];rfl
def dn (c:Int):Nat:=if 240<=c then 4 else if 224<=c then 3 else if 192<=c then 2 else 1
def dc (c:Int):Int:=if 240<=c then c%8 else if 224<=c then c%16 else if 192<=c then c%32 else c
def dpart (l:List Int):Nat->Int
 |0=>0
 |1=>dc (l.getD 0 0)
 |k+2=>64 * dpart l (k+1)+l.getD (k+1) 0%64
end Vm
namespace Go.Proofs.YtoejbngihecafabGreatDoor
open Go.RowKit
def isLat (zs:List Int):Bool:=(zs.take 6).any (fun z=>decide (Vm.pick z 4=3))
theorem isLat_at {zs:List Int} {j:Nat} (hj:j<zs.length) (h6:j<6) (h:Vm.pick (zs.getD j 0) 4=3):isLat zs=true:=by
 unfold isLat
 rw[List.any_eq_true]
 refine⟨zs.getD j 0,?_,decide_eq_true h⟩
 have:(zs.take 6)[j]?=some (zs.getD j 0):=by
  rw[List.getElem?_take,if_pos h6,List.getD_eq_getElem?_getD,List.getElem?_eq_getElem hj];rfl
 exact List.mem_of_getElem? this
theorem klatin_any (v:Value) (zs:List Int) (w:World) (hv:IntsAt w v zs) (hz:∀i,-9223372036854775808<=zs.getD i 0/\zs.getD i 0<=9223372036854775807) :
  Calls Tryz.prog 14 #[v] w fun e w'=>e=.returned (.bool (isLat zs))/\w'=w:=by
 obtain⟨p,cap,rfl⟩:=hv.val
 have HV:=Z2 hv
 clear hv
 go_enter Tryz.func14,Tryz.ntmps14
 go_wp2_with fail
 go_loopw [3] (fun i wx=>∃j:Nat,j<=zs.length/\j<=6/\i=.int .i64 j/\wx=w/\(zs.take j).any (fun z=>decide (Vm.pick z 4=3))=false) (fun i _=>zs.length - (intOf i).toNat)
 case atStart=>exact⟨0,Nat.zero_le _,by omega,rfl,rfl,rfl⟩
 case round =>
  obtain⟨j,hj,hj6,rfl,rfl,hno⟩:=hrel
  by_cases hlt:j<zs.length/\j<6
  ·obtain⟨hlt,hlt6⟩:=hlt
   have hltI:(j:Int)<(zs.length:Int):=by omega
   have hltJ:(j:Int)<6:=by omega
   obtain⟨a,rfl,hca⟩:=HV.out.at_ j hlt
   have hzr:=hz j
   have hget:zs[j]?=some (zs.getD j 0):=by simp [List.getD,List.getElem?_eq_getElem hlt]
   have hla:Vm.pick (zs.getD j 0) 4=3->isLat zs=true:=isLat_at hlt hlt6
   have hst:(zs.take (j+1)).any (fun z=>decide (Vm.pick z 4=3))=decide (Vm.pick (zs.getD j 0) 4=3):=by
    rw[List.take_add_one,hget,List.any_append,hno,Bool.false_or]
    simp
   generalize zs.getD j 0=z at *
   have hpk:=Vm.pick_bd z 4 (by decide)
   have K:=Z2 (kpick_any z 4 wr hzr.1 hzr.2 (by decide) (by decide))
   generalize Vm.pick z 4=n at *
   have hz1:=cell_lt hca
   have HST:=Z2 hst
   have HLA:=Z2 hla
   clear hst hget hzr hno hla
   go_wp2_with fail
   refine K.out.mono ?_
   rintro e w5 ⟨rfl,rfl⟩
   by_cases h3:n=3
   ·go_wp2_with fail
    go_ret
    exact⟨by rw[HLA.out h3];rfl,rfl⟩
   ·go_wp2_with fail
    refine⟨⟨j+1,by omega,by omega,by go_num,trivial,?_⟩,by simp [intOf];omega⟩
    rw[HST.out,decide_eq_false h3]
  ·have hd:zs.take j=zs.take 6:=by
    by_cases h6:j=6
    ·rw[h6]
    ·have:j=zs.length:=by omega
     rw[this,List.take_length,List.take_of_length_le (by omega)]
   rw[hd] at hno
   have hn:¬((j:Int)<(zs.length:Int)/\(j:Int)<6):=by omega
   have HN:=Z2 (show isLat zs=false from hno)
   clear hd hno
   by_cases hl:(j:Int)<(zs.length:Int)
   ·have h6:¬(j:Int)<6:=by omega
    go_wp2_with fail
    go_ret
    exact⟨by rw[HN.out];rfl,rfl⟩
   ·go_wp2_with fail
    go_ret
    exact⟨by rw[HN.out];rfl,rfl⟩
end Go.Proofs.YtoejbngihecafabGreatDoor
namespace Go.Proofs.YtoejbngihecafabGreatDoor
open Go.RowKit
def sgK (A:List Vm.At):List (Int × Int):=A.map (fun x=>(x.1,x.2.1))
def smallA (A:List Vm.At):Bool:=A.all (fun x=>decide (x.2.1<=255))
def plainA (A:List Vm.At):Prop:=∀x∈A,x.1≠4
theorem sgK_toE (e:Int) (A:List Vm.At):sgK (A.map (Vm.toE e))=sgK A:=by
 unfold sgK;rw[List.map_map];rfl
theorem sg_small {A B:List Vm.At} (h:sgK A=sgK B):smallA A=smallA B:=by
 have e:∀A:List Vm.At,smallA A=(sgK A).all (fun x=>decide (x.2<=255)):=fun A=>by unfold smallA sgK;rw[List.all_map];rfl
 rw[e,e,h]
theorem sg_plain {A B:List Vm.At} (h:sgK A=sgK B) (hp:plainA A):plainA B:=by
 intro x hx
 have:(x.1,x.2.1)∈sgK A:=by rw[h];exact List.mem_map.2 ⟨x,hx,rfl⟩
 obtain⟨y,hy,he⟩:=List.mem_map.1 this
 have e1:y.1=x.1:=by
  injection he
 rw[<-e1];exact hp y hy
theorem sg_rec {A B:List Vm.At} (e:Int) (h:sgK A=sgK B):Vm.recL e A=Vm.recL e B:=by
 have q:∀A:List Vm.At,Vm.recL e A=(sgK A).flatMap (fun x=>if x.1<=2 then Vm.endL e x.1 else Vm.wrL e x.2):=fun A=>by unfold Vm.recL sgK;rw[List.flatMap_map];rfl
 rw[q,q,h]
theorem sg_text {A B:List Vm.At} (h:sgK A=sgK B):Vm.textL A=Vm.textL B:=by
 have q:∀A:List Vm.At,Vm.textL A=(sgK A).flatMap (fun x=>Vm.utfL x.2):=fun A=>by unfold Vm.textL sgK;rw[List.flatMap_map];rfl
 rw[q,q,h]
theorem sg_len {A B:List Vm.At} (h:sgK A=sgK B):A.length=B.length:=by
 have:=congrArg List.length h
 unfold sgK at this
 rwa [List.length_map,List.length_map] at this
theorem sg_head {A B:List Vm.At} {c:Int} {n:Nat} {R:List Vm.At} (h:sgK A=sgK B) (ha:A=(3,c,n) :: R):∃m S,B=(3,c,m) :: S:=by
 subst ha
 cases B with
 |nil=>simp [sgK] at h
 |cons y S =>
  simp only[sgK,List.map_cons] at h
  injection h with h1 _
  injection h1 with h1 h2
  obtain⟨a,b,m⟩:=y
  simp only at h1 h2
  subst h1 h2
  exact⟨m,S,rfl⟩
theorem size_toE (e:Int):∀(A:List Vm.At),Vm.sizeA (A.map (Vm.toE e))=(Vm.recL e A).length
 |[]=>rfl
 |x :: A=>by
  have ih:=size_toE e A
  rw[List.map_cons,Vm.sizeA_cons,ih]
  show _=((x :: A).flatMap (Vm.recA e)).length
  rw[List.flatMap_cons,List.length_append]
  rfl
structure Sm (K k:Kp):Prop where
 ok:k.Ok
 tail:Vm.sizeA k.A=k.L.length
 sg:sgK k.A=sgK K.A
 lat:k.enc=3->smallA K.A=true
 mrk:k.mark=true->K.mark=true
theorem Sm.refl {K:Kp} (h:K.Ok) (ht:Vm.sizeA K.A=K.L.length) (he:K.enc=0):Sm K K:=⟨h,ht,rfl,fun q=>absurd (he.symm.trans q) (by decide),id⟩
theorem Sm.fits {K k:Kp} (h:Sm K k) (hp:plainA K.A) (n:Int):fitsK k n=(decide (n≠3) || smallA K.A):=by
 have hk:plainA k.A:=sg_plain h.sg.symm hp
 have e1:(k.A.all (fun x=>x.1 != 4))=true:=by
  rw[List.all_eq_true];intro x hx;simpa using hk x hx
 unfold fitsK
 rw[e1,decide_eq_true h.tail,Bool.true_and,Bool.true_and,<-sg_small h.sg]
 rfl
theorem Sm.enc {K k:Kp} (h:Sm K k) (hp:plainA K.A) {n:Int} (n0:0<=n) (n3:n<=3) (hf:fitsK k n=true) :
  Sm K (encK k n)/\(encK k n).enc=n/\(encK k n).mark=(k.mark&&decide (n≠3))/\(encK k n).body=strOfNums (Vm.recL n K.A):=by
 have hb:=encK_body h.ok n0 n3 hf
 have hq:=h.fits hp n
 have hno:(k.mark&&decide (n≠3))=false->ofMark (strOfNums (Vm.recL n k.A)) n=false:=by
  intro hm
  cases hx:ofMark (strOfNums (Vm.recL n k.A)) n with
  |false=>rfl
  |true =>
   exfalso
   by_cases h2:n<=2
   ·obtain⟨c,A,hA⟩:=(ofMark_atom n0 h2).1 hx
    rw[hb] at hA
    obtain⟨c2,A2,hA2⟩:=sg_head (sgK_toE n k.A) hA
    have hkm:k.mark=false:=by
     have:decide (n≠3)=true:=decide_eq_true (by omega)
     rw[this,Bool.and_true] at hm;exact hm
    by_cases k2:k.enc<=2
    ·have:=(ofMark_atom (b:=k.body) h.ok.h0 k2).2 ⟨c2,A2,hA2⟩
     rw[h.ok.st hkm] at this;cases this
    ·have hs:=h.lat (by have:=h.ok.h3;omega)
     rw[<-sg_small h.sg,hA2] at hs
     simp [smallA] at hs
   ·have:n=3:=by omega
    rw[this] at hx;cases hx
 have hstl:encK k n=⟨n,k.mark&&decide (n≠3),strOfNums (Vm.recL n k.A)⟩:=by
  rw[encK_eq n0 n3]
  unfold stl
  cases hm:(k.mark&&decide (n≠3)) with
  |true=>rfl
  |false =>
   rw[if_neg (show ¬false=true by decide)]
   unfold ofK
   simp only
   rw[hno hm,ofBody_no (hno hm)]
 have hA:(encK k n).A=k.A.map (Vm.toE n):=by rw[hstl];exact hb
 have hl:(encK k n).L.length=(Vm.recL n k.A).length:=by
  rw[hstl];exact Vm.nb_len _
 refine⟨⟨encK_ok n0 n3,?_,?_,?_,?_⟩,by rw[hstl],by rw[hstl],by rw[hstl,sg_rec n h.sg]⟩
 ·rw[hA,size_toE,hl]
 ·rw[hA,sgK_toE,h.sg]
 ·intro e
  have e:n=3:=by rw[hstl] at e;exact e
  rw[hq,e] at hf
  simpa using hf
 ·intro hm
  have:(k.mark&&decide (n≠3))=true:=by rw[hstl] at hm;exact hm
  rw[Bool.and_eq_true] at this
  exact h.mrk this.1
theorem Sm.back {K k:Kp} (h:Sm K k) (hK:K.Ok) (ht:Vm.sizeA K.A=K.L.length) (he:K.enc=0) (hp:plainA K.A):encK k 0=⟨0,k.mark,K.body⟩:=by
 have hf:fitsK k 0=true:=by rw[h.fits hp];rfl
 obtain⟨_,h1,h2,h3⟩:=h.enc hp (by decide) (by decide) hf
 have hb:Vm.nb (Vm.recL 0 K.A)=K.L:=by
  have:=Vm.rec_back hK.h0 hK.h3 K.L.length K.L (Nat.le_refl _) hp
  have e:Vm.sizeA (Vm.atoms K.enc K.L)=K.L.length:=ht
  rw[e,List.take_length,he] at this
  have e2:K.A=Vm.atoms 0 K.L:=by unfold Kp.A;rw[he]
  rw[e2];exact this
 have hb2:strOfNums (Vm.recL 0 K.A)=K.body:=ba_ext (by
  show Vm.nb (Vm.recL 0 K.A)=_
  rw[hb];rfl)
 rw[hb2] at h3
 rw[show (k.mark&&decide ((0:Int)≠3))=k.mark by simp] at h2
 generalize encK k 0=E at *
 obtain⟨a,b,c⟩:=E
 simp only at h1 h2 h3
 rw[h1,h2,h3]
theorem utf_great {c:Int} (h0:0<=c) (h1:c<=1114111):(Vm.utfL c).any (fun z=>decide (196<=z))=decide (255<c):=by
 unfold Vm.utfL
 by_cases a:c<128
 ·rw[if_pos a];simp;omega
 ·rw[if_neg a]
  by_cases b:c<2048
  ·rw[if_pos b]
   simp only[List.any_cons,List.any_nil,Bool.or_false]
   rw[<-Bool.decide_or,decide_eq_decide];omega
  ·rw[if_neg b]
   split
   all_goals
    simp only[List.any_cons,List.any_nil,Bool.or_false]
    simp only[<-Bool.decide_or]
    rw[decide_eq_decide];omega
theorem text_great {A:List Vm.At} (h:∀x∈A,0<=x.2.1/\x.2.1<=1114111):(Vm.textL A).any (fun z=>decide (196<=z))=!smallA A:=by
 induction A with
 |nil=>rfl
 |cons x A ih =>
  have e:Vm.textL (x :: A)=Vm.utfL x.2.1++Vm.textL A:=by simp [Vm.textL,Vm.chA]
  rw[e,List.any_append,ih (fun y hy=>h y (by simp [hy])),utf_great (h x (by simp)).1 (h x (by simp)).2]
  unfold smallA
  rw[List.all_cons,Bool.not_and]
  congr 1
  rw[<-decide_not,decide_eq_decide];omega
structure Pl0 (k:Kp):Prop where
 ok:k.Ok
 e0:k.enc=0
 pl:plainA k.A
theorem Pl0.tail {k:Kp} (h:Pl0 k):Vm.sizeA k.A=k.L.length:=Vm.wh_size (.inl h.e0)
theorem pl0_of {b:ByteArray} (h:plainA (Vm.atoms 0 b.data.toList)):Pl0 (ofK b 0):=by
 refine⟨ofK_ok (by decide) (by decide),rfl,?_⟩
 cases hm:ofMark b 0 with
 |false =>
  show plainA (Vm.atoms 0 (ofBody b 0).data.toList)
  rw[ofBody_no hm];exact h
 |true =>
  obtain⟨_,r,hr⟩:=ofMark_iff.1 hm
  show plainA (Vm.atoms 0 (ofBody b 0).data.toList)
  rw[ofBody_of hm hr,ofL_list]
  rw[hr,mark_nb (by decide) (by decide),Vm.atoms_mark (by decide) (by decide)] at h
  exact fun x hx=>h x (by simp [hx])
theorem pl0_end {k:Kp} {kind:Int} (h:Pl0 k) (k0:0<=kind) (k2:kind<=2):Pl0 (endK k kind):=by
 refine⟨endK_ok h.ok k0 k2,h.e0,?_⟩
 rw[endK_A h.ok k0 k2]
 intro x hx
 obtain⟨y,hy,rfl⟩:=List.mem_map.1 hx
 unfold Vm.reA
 split
 ·simp only;omega
 ·exact h.pl y hy
theorem pl0_mark {k:Kp} {on:Bool} (h:Pl0 k):Pl0 (markK k on):=by
 have e:markK k on=if on then ⟨0,true,k.body⟩ else ofK k.body 0:=by
  unfold markK stl
  rw[h.e0]
  cases on<;>rfl
 have hA:plainA (Vm.atoms 0 k.body.data.toList):=by
  have:=h.pl
  unfold Kp.A at this
  rw[h.e0] at this
  exact this
 rw[e]
 cases on
 ·exact pl0_of hA
 ·rw[if_pos rfl]
  exact⟨⟨Int.le_refl 0,(show (0:Int)<=3 by decide),fun q=>absurd q (show ¬(0:Int)=3 by decide),fun q=>by cases q⟩,rfl,hA⟩
end Go.Proofs.YtoejbngihecafabGreatDoor
namespace Go.Proofs.YtoejbngihecafabGreatDoor
open Go.RowKit
theorem sg_lines {A B:List Vm.At} (h:sgK A=sgK B):Vm.linesA A=Vm.linesA B:=by
 have q:∀A:List Vm.At,Vm.linesA A=((sgK A).filter (fun x=>decide (x.1<=2))).length:=fun A=>by
  unfold Vm.linesA sgK;rw[List.filter_map,List.length_map];rfl
 rw[q,q,h]
theorem typ_rec {k:Int} (k2:k<=2) (A:List Vm.At):Vm.typL 0 k A=Vm.recL 0 (A.map (Vm.reA 0 k)):=by
 unfold Vm.typL Vm.recL
 rw[List.flatMap_map]
 congr 1
 funext x
 unfold Vm.typA Vm.recA Vm.reA
 by_cases h:x.1<=2
 ·rw[if_pos h,if_pos h,if_pos k2]
 ·rw[if_neg h,if_neg h,if_neg h]
theorem nj_re {k:Int}:∀(A:List Vm.At),(∀x∈A,0<=x.1)->Vm.NJ (A.map (Vm.reA 0 k))
 |[],_=>trivial
 |x :: A,h=>by
  refine⟨fun h2 y s hy=>?_,nj_re A (fun z hz=>h z (by simp [hz]))⟩
  have hk:k=2:=by
   unfold Vm.reA at h2
   split at h2
   ·exact h2
   ·omega
  cases A with
  |nil=>cases hy
  |cons z A =>
   rw[List.map_cons] at hy
   injection hy with h1 _
   rw[<-h1]
   unfold Vm.reA
   split
   ·simp only;omega
   ·omega
theorem typ_plain {k:Int} (k0:0<=k) (k2:k<=2) {A:List Vm.At} (h:∀x∈A,Vm.Says 0 x):plainA (Vm.atoms 0 (Vm.nb (Vm.typL 0 k A))):=by
 have h1:∀x∈A,0<=x.1:=fun x hx=>by rcases (h x hx).1 with q|q|q|q<;>omega
 have h2:∀x∈A.map (Vm.reA 0 k),Vm.Says 0 x:=by
  intro y hy
  obtain⟨x,hx,rfl⟩:=List.mem_map.1 hy
  have hs:=h x hx
  unfold Vm.reA
  split
  ·refine⟨?_,fun _=>rfl,(show Vm.validB 10=true by decide),fun q=>absurd q (by decide)⟩
   simp only
   omega
  ·exact hs
 rw[typ_rec k2,Vm.rec_atoms (by decide) (by decide) (nj_re A h1) h2]
 intro y hy
 obtain⟨x,hx,rfl⟩:=List.mem_map.1 hy
 show x.1≠4
 rcases (h2 x hx).1 with q|q|q|q<;>omega
def k00:Kp:=⟨0,false,⟨#[]⟩⟩
theorem x_ofK:ofK ⟨#[120]⟩ 0=⟨0,false,⟨#[120]⟩⟩:=rfl
theorem x_atoms:Vm.atoms 0 (⟨#[120]⟩:ByteArray).data.toList=[(3,120,1)]:=by decide
theorem x_gone:rplE ⟨0,false,⟨#[120]⟩⟩ 0 1 ⟨#[]⟩=0/\rplK ⟨0,false,⟨#[120]⟩⟩ 0 1 ⟨#[]⟩=k00:=by
 have hA:(Kp.mk 0 false ⟨#[120]⟩).A=[(3,120,1)]:=x_atoms
 have h:=strV_at (A:=[((3:Int),(120:Int),(1:Nat))]) (ja:=0) (jb:=1) (by decide) (by decide)
 have e0:((Vm.bytesA (([((3:Int),(120:Int),(1:Nat))]:List Vm.At).take 0):Nat):Int)=0:=rfl
 have e1:((Vm.bytesA (([((3:Int),(120:Int),(1:Nat))]:List Vm.At).take 1):Nat):Int)=1:=by decide
 rw[e0,e1] at h
 refine⟨rplE_empty (by rw[hA];exact h.1),?_⟩
 rw[rplK_empty,hA,h.2.1,h.2.2]
 rfl
theorem k00_A:k00.A=[]:=by decide
theorem put_first (zs:List Int):rplE k00 0 0 (strOfNums (Vm.recL 0 (Vm.ktA false false zs)))=0/\Pl0 (rplK k00 0 0 (strOfNums (Vm.recL 0 (Vm.ktA false false zs)))):=by
 have hs:(strV k00.A 0 0).2.2=0:=by rw[k00_A];decide
 have e:=rplE_text (k:=k00) (f:=0) (t:=0) zs hs
 have q:=rplK_text (k:=k00) (f:=0) (t:=0) zs
 have hd:decide (k00.enc=3)=false:=by decide
 rw[hd] at e q
 refine⟨e,?_⟩
 rw[q]
 have hend:0<=Vm.endingOf (Vm.cntK k00.A 0) (Vm.cntK k00.A 1) (Vm.cntK k00.A 2)/\Vm.endingOf (Vm.cntK k00.A 0) (Vm.cntK k00.A 1) (Vm.cntK k00.A 2)<=2:=by rw[k00_A];decide
 generalize Vm.endingOf (Vm.cntK k00.A 0) (Vm.cntK k00.A 1) (Vm.cntK k00.A 2)=en at *
 have hp:=typ_plain hend.1 hend.2 (Vm.kt_says (enc:=0) (latin:=false) (fun e=>by cases e) zs false)
 have er:replK k00 (Vm.plK k00.A 0) (Vm.plK k00.A 0) (Vm.nb (Vm.typL k00.enc en (Vm.ktA false false zs)))=ofK (ofL (Vm.nb (Vm.typL 0 en (Vm.ktA false false zs)))) 0:=by
  unfold replK stl
  rw[if_neg (by simp [k00])]
  have hL:k00.L=[]:=rfl
  rw[hL,List.take_nil,List.drop_nil,List.append_nil,List.nil_append]
  rfl
 rw[er]
 exact pl0_of (by rw[ofL_list];exact hp)
end Go.Proofs.YtoejbngihecafabGreatDoor
namespace Go.Proofs.YtoejbngihecafabGreatDoor
open Go.RowKit
structure ApiM (T:World->Prop) (D:World->Nat->Int->Bool->ByteArray->Prop):Prop where
 tab:∀{w w':World},T w->Below w.heap.size w w'->T w'
 low:∀{w w':World} {p:Nat} {enc:Int} {mark:Bool} {body:ByteArray},D w p enc mark body->Below w.heap.size w w'->D w' p enc mark body
 load:∀(b:ByteArray) (mode:Int) (w:World),T w->b.size<=1099511627776->0<=mode->mode<=7 ->
  Calls Tryz.prog 20 #[.string b,.int .i64 mode] w fun e w'=>∃p,e=.returned (.tuple #[.pointer (some ⟨p,0,none⟩),.int .i64 0])/\D w' p (encOf b mode) (ofMark b (encOf b mode)) (ofBody b (encOf b mode))/\Below w.heap.size w w'
 text:∀(p:Nat) (enc:Int) (mark:Bool) (body:ByteArray) (w:World),T w->D w p enc mark body ->
  Calls Tryz.prog 10 #[.pointer (some ⟨p,0,none⟩)] w fun e w'=>e=.returned (.string (strOfNums (Vm.textL (Vm.atoms enc body.data.toList))))/\Below w.heap.size w w'
 state:∀(p:Nat) (enc:Int) (mark:Bool) (body:ByteArray) (w:World),T w->D w p enc mark body ->
  Calls Tryz.prog 11 #[.pointer (some ⟨p,0,none⟩)] w fun e w'=>e=.returned (shown enc mark body)/\Below w.heap.size w w'
 save:∀(p:Nat) (enc:Int) (mark:Bool) (body:ByteArray) (w:World),T w->D w p enc mark body ->
  Calls Tryz.prog 12 #[.pointer (some ⟨p,0,none⟩)] w fun e w'=>e=.returned (.string (bytesOf enc mark body))/\Below w.heap.size w w'
section
variable {T:World->Prop} {D:World->Nat->Int->Bool->ByteArray->Prop}
theorem known_m (am:ApiM T D) (w:World) (ht:T w) :
  Calls Tryz.prog 19 #[] w fun e w'=>e=.returned (.bool true)/\Below w.heap.size w w':=by
 have h1:=am.load ex1 0
 rw[ex1_enc,ex1_mark,ex1_body] at h1
 have H1:=Z2 h1
 clear h1
 go_enter Tryz.func19,Tryz.ntmps19
 go_wp2_with fail
 refine (H1.out w ht (by decide) (by decide) (by decide)).mono ?_
 rintro e w1 ⟨p,rfl,hd1,hb1⟩
 have ht1:=am.tab ht hb1
 have h2:=am.text p 0 false ex1 w1 ht1 hd1
 rw[ex1_text] at h2
 have H2:=Z2 h2
 clear h2
 go_wp2_with fail
 refine H2.out.mono ?_
 rintro e w2 ⟨rfl,hb2⟩
 have ht2:=am.tab ht1 hb2
 have hd2:=am.low hd1 hb2
 have h3:=am.state p 0 false ex1 w2 ht2 hd2
 rw[ex1_shown] at h3
 have H3:=Z2 h3
 clear h3
 go_wp2_with fail
 refine H3.out.mono ?_
 rintro e w3 ⟨rfl,hb3⟩
 have ht3:=am.tab ht2 hb3
 have hd3:=am.low hd2 hb3
 have h4:∀w,T w->D w p 0 false ex1->_:=fun w h k=>am.save p 0 false ex1 w h k
 rw[ex1_save] at h4
 have H4:=Z2 h4
 clear h4
 go_wp2_with fail
 have hba:=(Below.refl w3.heap.size w3).alloc (Nat.le_refl _) (.cells #[.int .i64 0,.bool false,.int .i64 8,.int .i64 6,.int .i64 6,.int .i64 3,.int .i64 1,.bool false,.int .i64 1] 35)
 refine (H4.out _ (am.tab ht3 hba) (am.low hd3 hba)).mono ?_
 rintro e w4 ⟨rfl,hb4⟩
 have hb:Below w.heap.size w w4:=(((hb1.trans (hb2.mono hb1.size)).trans (hb3.mono (Nat.le_trans hb1.size hb2.size))).trans (hba.mono (Nat.le_trans hb1.size (Nat.le_trans hb2.size hb3.size)))).trans (hb4.mono (Nat.le_trans hb1.size (Nat.le_trans hb2.size (Nat.le_trans hb3.size hba.size))))
 have bx:=(Bx9.new w3 35 (.int .i64 0) (.bool false) (.int .i64 8) (.int .i64 6) (.int .i64 6) (.int .i64 3) (.int .i64 1) (.bool false) (.int .i64 1)).below hb4
 obtain⟨c0,c1,c2,c3,c4,c5,c6,c7,c8,_⟩:=bx
 have hx:ex1.toList=[97,13,10,98,255,99,13]:=by kernel_rfl
 clear H1 H2 H3 H4
 go_wp2
 go_ret
 exact⟨rfl,hb⟩
end
theorem apiM:ApiM Tabs DD where
 tab:=fun h hb=>h.below hb
 low:=fun ⟨n,R,tail,h⟩ hb=>⟨n,R,tail,h.low hb⟩
 load:=load_ok
 text:=docText
 state:=docShow
 save:=docSave
theorem openedM (B:Nat) (b:ByteArray) (c:Int) (w:World) (ht:Tabs w) (hb:b.size<=1099511627776) (h1:-9223372036854775808<=c) (h2:c<=9223372036854775807) (hB:B<=w.heap.size) :
  Calls Tryz.prog 6 #[.string b,.int .i64 c] w fun e w'=>∃p,e=.returned (.tuple #[.pointer (some ⟨p,0,none⟩),.bool true])/\w.heap.size<=p/\EH B w' p ⟨ofK b (encOf b (Vm.pick c 8)),[],[]⟩ (fun i=>i=p)/\Below w.heap.size w w':=by
 have hp:=Vm.pick_bd c 8 (by decide)
 have K:=Z2 (kpick_any c 8)
 have L:=Z2 (fun w h=>load_new b (Vm.pick c 8) w h)
 have N:=Z2 (known_m apiM w ht)
 generalize Vm.pick c 8=m at *
 go_enter Tryz.func6,Tryz.ntmps6
 go_wp2_with fail
 refine N.out.mono ?_
 rintro e w1 ⟨rfl,hb1⟩
 have ht1:=ht.below hb1
 go_wp2_with fail
 refine (K.out w1 h1 h2 (by decide) (by decide)).mono ?_
 rintro e w2 ⟨rfl,rfl⟩
 go_wp2_with fail
 refine (L.out w2 ht1 hb hp.1 (by omega)).mono ?_
 rintro e w3 ⟨p,rfl,hpz,hd,hb3⟩
 have hz1:=hb1.size
 have HE:=Z2 (show EH B w3 p ⟨ofK b (encOf b m),[],[]⟩ (fun i=>i=p) from EH.new hd (by omega))
 clear hd
 go_wp2
 go_ret2
 exact⟨p,rfl,Nat.le_trans hz1 hpz,HE.out,hb1.trans (hb3.mono hb1.size)⟩
end Go.Proofs.YtoejbngihecafabGreatDoor
namespace Go.Proofs.YtoejbngihecafabGreatDoor
open Go.RowKit
def StepTo (B p:Nat) (F:Nat->Prop) (M:Nat) (w:World) (c:Int) (k:Kp) (e:Ending) (w':World):Prop :=
 e=.returned (.int .i64 c)/\∃s' F',s'.k=k/\EH B w' p s' F'/\s'.Good M/\Turn F F' w w'
theorem chg_zero (s:St) (k:Kp):s.chg 0 k=(0,⟨k,pushK s.O s.k,[]⟩):=by unfold St.chg;simp
theorem chg_no (s:St) {e:Int} (k:Kp) (h:e≠0):s.chg e k=(e,s):=by unfold St.chg;rw[if_neg h]
section
variable (B p:Nat) (s:St) (F:Nat->Prop) (M:Nat) (w:World)
theorem rplZ (f t:Int) (text:ByteArray) (ht:TabA w) (h:EH B w p s F) (hg:s.Good M) (hM:M+text.size<=1000000000) (he:rplE s.k f t text=0) :
  Calls Tryz.prog 7 #[.pointer (some ⟨p,0,none⟩),.int .i64 f,.int .i64 t,.string text] w (StepTo B p F (M+8 * text.size) w 0 (rplK s.k f t text)):=by
 have hq:=eRpl B p s F M w f t text ht h hg hM
 have hg':=hg.rpl (f:=f) (t:=t) (text:=text)
 have e:s.rpl f t text=(0,⟨rplK s.k f t text,pushK s.O s.k,[]⟩):=by unfold St.rpl;rw[he,chg_zero]
 rw[e] at hq hg'
 exact hq.mono fun _ _ ⟨h1,F',h2,h3⟩=>⟨h1,_,F',rfl,h2,hg',h3⟩
theorem edsZ (kd:Int) (ht:TabA w) (h:EH B w p s F) (hg:s.Good M) (hM:M<=1000000000) (k0:0<=kd) (k2:kd<=2) :
  Calls Tryz.prog 8 #[.pointer (some ⟨p,0,none⟩),.int .i64 kd] w (StepTo B p F M w 0 (endK s.k kd)):=by
 have hq:=eEds B p s F M w kd ht h hg hM
 have hg':=hg.eds (kd:=kd)
 have e:s.eds kd=(0,⟨endK s.k kd,pushK s.O s.k,[]⟩):=by
  have h0:edE kd=0:=by unfold edE;rw[if_pos ⟨k0,k2⟩]
  unfold St.eds;rw[h0,chg_zero]
 rw[e] at hq hg'
 exact hq.mono fun _ _ ⟨h1,F',h2,h3⟩=>⟨h1,_,F',rfl,h2,hg',h3⟩
theorem mrkZ (on:Bool) (ht:TabA w) (h:EH B w p s F) (hg:s.Good M) (hM:M<=1000000000) (he:s.k.enc≠3) :
  Calls Tryz.prog 9 #[.pointer (some ⟨p,0,none⟩),.bool on] w (StepTo B p F M w 0 (markK s.k on)):=by
 have hq:=eMrk B p s F M w on ht h hg hM
 have hg':=hg.mrk (on:=on)
 have e:s.mrk on=(0,⟨markK s.k on,pushK s.O s.k,[]⟩):=by
  have h0:mkE s.k on=0:=by unfold mkE;rw[if_neg (fun q=>he q.2)]
  unfold St.mrk;rw[h0,chg_zero]
 rw[e] at hq hg'
 exact hq.mono fun _ _ ⟨h1,F',h2,h3⟩=>⟨h1,_,F',rfl,h2,hg',h3⟩
theorem codZ (n:Int) (ht:TabA w) (h:EH B w p s F) (hg:s.Good M) (hM:M<=1000000000) (n0:0<=n) (n3:n<=3) :
  Calls Tryz.prog 13 #[.pointer (some ⟨p,0,none⟩),.int .i64 n] w (StepTo B p F M w (if fitsK s.k n=true then 0 else 7) (if fitsK s.k n=true then encK s.k n else s.k)):=by
 have hq:=eCod B p s F M w n ht h hg hM
 have hg':=hg.cod (en:=n)
 have he:ecE s.k n=if fitsK s.k n=true then 0 else 7:=by unfold ecE;rw[if_pos ⟨n0,n3⟩]
 by_cases hf:fitsK s.k n=true
 ·rw[if_pos hf] at he
  have e:s.cod n=(0,⟨encK s.k n,pushK s.O s.k,[]⟩):=by unfold St.cod;rw[he,chg_zero]
  rw[e] at hq hg'
  rw[if_pos hf,if_pos hf]
  exact hq.mono fun _ _ ⟨h1,F',h2,h3⟩=>⟨h1,_,F',rfl,h2,hg',h3⟩
 ·rw[if_neg hf] at he
  have e:s.cod n=(7,s):=by unfold St.cod;rw[he,chg_no _ _ (by decide)]
  rw[e] at hq hg'
  rw[if_neg hf,if_neg hf]
  exact hq.mono fun _ _ ⟨h1,F',h2,h3⟩=>⟨h1,_,F',rfl,h2,hg',h3⟩
end
end Go.Proofs.YtoejbngihecafabGreatDoor
namespace Go.Proofs.YtoejbngihecafabGreatDoor
open Go.RowKit
theorem utf_small {c:Int} (h0:0<=c) (h1:c<=1114111):∀z∈Vm.utfL c,0<=z/\z<=255:=by
 intro z hz
 unfold Vm.utfL at hz
 split at hz
 ·simp at hz;omega
 ·split at hz
  ·simp at hz;omega
  ·split at hz
   ·simp at hz;omega
   ·simp at hz;omega
theorem text_small {A:List Vm.At} (h:∀x∈A,0<=x.2.1/\x.2.1<=1114111):∀z∈Vm.textL A,0<=z/\z<=255:=by
 intro z hz
 unfold Vm.textL at hz
 obtain⟨x,hx,hz⟩:=List.mem_flatMap.1 hz
 exact utf_small (h x hx).1 (h x hx).2 z hz
theorem nb_great:∀(L:List Int),(∀z∈L,0<=z/\z<=255)->(Vm.nb L).any (fun b=>decide (196<=b.toNat))=L.any (fun z=>decide (196<=z))
 |[],_=>rfl
 |z :: L,h=>by
  have ih:=nb_great L (fun y hy=>h y (by simp [hy]))
  have hz:=h z (by simp)
  show (decide (196<=(UInt8.ofNat z.toNat).toNat) || (Vm.nb L).any _)=_
  rw[ih,List.any_cons]
  congr 1
  rw[decide_eq_decide,UInt8.toNat_ofNat']
  omega
end Go.Proofs.YtoejbngihecafabGreatDoor
namespace Go.Proofs.YtoejbngihecafabGreatDoor
open Go.RowKit
def Dk (w0:World) (p M:Nat) (k:Kp) (w:World):Prop:=∃s F,s.k=k/\EH w0.heap.size w p s F/\s.Good M/\Below w0.heap.size w0 w
def Kst (w w':World):Prop:=∀X,tyAt w X=some 35->w'.heap[X]?=w.heap[X]?
section
variable {w0 w w':World} {p M:Nat} {k:Kp}
theorem Dk.bel (h:Dk w0 p M k w):Below w0.heap.size w0 w:=by obtain⟨_,_,_,_,_,hB⟩:=h;exact hB
theorem Dk.lt (h:Dk w0 p M k w):p<w.heap.size:=by obtain⟨_,_,_,hx,_,_⟩:=h;exact hx.lt
theorem Dk.siz (h:Dk w0 p M k w):k.body.size<=8 * M+1:=by obtain⟨_,_,rfl,_,hg,_⟩:=h;exact good_body hg
theorem Dk.low (h:Dk w0 p M k w) (hb:Below w.heap.size w w'):Dk w0 p M k w':=by
 obtain⟨s,F,hk,hx,hg,hB⟩:=h
 exact⟨s,F,hk,hx.low hb,hg,hB.trans (hb.mono hB.size)⟩
theorem Dk.mono {M':Nat} (h:Dk w0 p M k w) (hm:M<=M'):Dk w0 p M' k w:=by
 obtain⟨s,F,hk,hx,hg,hB⟩:=h
 exact⟨s,F,hk,hx,hg.mono hm,hB⟩
theorem ty_some {X:Nat} {t:TypeId} (h:tyAt w X=some t):X<w.heap.size:=by
 by_cases hX:X<w.heap.size
 ·exact hX
 ·unfold tyAt at h
  rw[Array.getElem?_eq_none (by omega)] at h
  cases h
theorem dk_of {s:St} {F:Nat->Prop} {c:Int} {k':Kp} {e:Ending} (hx:EH w0.heap.size w p s F) (hB:Below w0.heap.size w0 w) (h:StepTo w0.heap.size p F M w c k' e w'):e=.returned (.int .i64 c)/\Dk w0 p M k' w'/\Kst w w':=by
 obtain⟨he,s',F',h1,h2,h3,h4⟩:=h
 refine⟨he,⟨s',F',h1,h2,h3,h4.below hB (fun i q=>(hx.ty q).1)⟩,fun X hX=>h4.keep X (ty_some hX) (fun q=>?_)⟩
 rcases (hx.ty q).2.2 with t|t
 ·rw[t] at hX;exact absurd (Option.some.inj hX) (by decide)
 ·rw[t] at hX;exact absurd (Option.some.inj hX) (by decide)
theorem Dk.rpl (h:Dk w0 p M k w) (ht:TabA w0) (f t:Int) (text:ByteArray) (hM:M+text.size<=1000000000) (he:rplE k f t text=0) :
  Calls Tryz.prog 7 #[.pointer (some ⟨p,0,none⟩),.int .i64 f,.int .i64 t,.string text] w fun e w'=>e=.returned (.int .i64 0)/\Dk w0 p (M+8 * text.size) (rplK k f t text) w'/\Kst w w':=by
 obtain⟨s,F,rfl,hx,hg,hB⟩:=h
 exact (rplZ _ p s F M w f t text (ht.below hB) hx hg hM he).mono fun e w' q=>dk_of hx hB q
theorem Dk.eds (h:Dk w0 p M k w) (ht:TabA w0) (hM:M<=1000000000) (kd:Int) (k0:0<=kd) (k2:kd<=2) :
  Calls Tryz.prog 8 #[.pointer (some ⟨p,0,none⟩),.int .i64 kd] w fun e w'=>e=.returned (.int .i64 0)/\Dk w0 p M (endK k kd) w'/\Kst w w':=by
 obtain⟨s,F,rfl,hx,hg,hB⟩:=h
 exact (edsZ _ p s F M w kd (ht.below hB) hx hg hM k0 k2).mono fun e w' q=>dk_of hx hB q
theorem Dk.mrk (h:Dk w0 p M k w) (ht:TabA w0) (hM:M<=1000000000) (on:Bool) (he:k.enc≠3) :
  Calls Tryz.prog 9 #[.pointer (some ⟨p,0,none⟩),.bool on] w fun e w'=>e=.returned (.int .i64 0)/\Dk w0 p M (markK k on) w'/\Kst w w':=by
 obtain⟨s,F,rfl,hx,hg,hB⟩:=h
 exact (mrkZ _ p s F M w on (ht.below hB) hx hg hM he).mono fun e w' q=>dk_of hx hB q
theorem Dk.cod (h:Dk w0 p M k w) (ht:TabA w0) (hM:M<=1000000000) (n:Int) (n0:0<=n) (n3:n<=3) (hf:fitsK k n=true) :
  Calls Tryz.prog 13 #[.pointer (some ⟨p,0,none⟩),.int .i64 n] w fun e w'=>e=.returned (.int .i64 0)/\Dk w0 p M (encK k n) w'/\Kst w w':=by
 obtain⟨s,F,rfl,hx,hg,hB⟩:=h
 have hq:=codZ _ p s F M w n (ht.below hB) hx hg hM n0 n3
 rw[if_pos hf,if_pos hf] at hq
 exact hq.mono fun e w' q=>dk_of hx hB q
theorem Dk.cod_no (h:Dk w0 p M k w) (ht:TabA w0) (hM:M<=1000000000) (n:Int) (n0:0<=n) (n3:n<=3) (hf:fitsK k n=false) :
  Calls Tryz.prog 13 #[.pointer (some ⟨p,0,none⟩),.int .i64 n] w fun e w'=>e=.returned (.int .i64 7)/\Dk w0 p M k w'/\Kst w w':=by
 obtain⟨s,F,rfl,hx,hg,hB⟩:=h
 have hq:=codZ _ p s F M w n (ht.below hB) hx hg hM n0 n3
 rw[hf,if_neg Bool.false_ne_true,if_neg Bool.false_ne_true] at hq
 exact hq.mono fun e w' q=>dk_of hx hB q
theorem Dk.dd (h:Dk w0 p M k w) (hM:M<=1000000000):DD w p k.enc k.mark k.body:=by
 have hz:=h.siz
 obtain⟨s,F,rfl,hx,hg,hB⟩:=h
 exact hx.dd (by omega)
theorem Dk.text (h:Dk w0 p M k w) (ht:TabA w0) (hM:M<=1000000000) :
  Calls Tryz.prog 10 #[.pointer (some ⟨p,0,none⟩)] w fun e w'=>e=.returned (.string (strOfNums (Vm.textL k.A)))/\Below w.heap.size w w' :=
 docText p k.enc k.mark k.body w (ht.below h.bel).tw.tabs (h.dd hM)
theorem Dk.save (h:Dk w0 p M k w) (ht:TabA w0) (hM:M<=1000000000) :
  Calls Tryz.prog 12 #[.pointer (some ⟨p,0,none⟩)] w fun e w'=>e=.returned (.string (bytesOf k.enc k.mark k.body))/\Below w.heap.size w w' :=
 docSave p k.enc k.mark k.body w (ht.below h.bel).tw.tabs (h.dd hM)
theorem Dk.show (h:Dk w0 p M k w) (ht:TabA w0) (hM:M<=1000000000):∃(n2 n4 n6 n8:Int) (t7:Bool),
  Calls Tryz.prog 11 #[.pointer (some ⟨p,0,none⟩)] w fun e w'=>e=.returned (.agg #[.int .i64 k.enc,.bool k.mark,.int .i64 n2,.int .i64 k.A.length,.int .i64 n4,.int .i64 ((Vm.linesA k.A:Int)+1),.int .i64 n6,.bool t7,.int .i64 n8])/\Below w.heap.size w w' :=
 ⟨_,_,_,_,_,docShow p k.enc k.mark k.body w (ht.below h.bel).tw.tabs (h.dd hM)⟩
end
theorem great_of (k:Kp):(strOfNums (Vm.textL k.A)).data.toList.any (fun b=>decide (196<=b.toNat))=!smallA k.A:=by
 have h:∀x∈k.A,0<=x.2.1/\x.2.1<=1114111:=fun x hx=>by
  have:=Vm.atoms_ok k.enc k.L x hx
  exact⟨this.2.2.2.2.1,this.2.2.2.2.2.1⟩
 have h1:=nb_great (Vm.textL k.A) (text_small h)
 rw[text_great h] at h1
 exact h1
theorem Sm.text {K k:Kp} (h:Sm K k):Vm.textL k.A=Vm.textL K.A:=sg_text h.sg
theorem back_bytes (m:Bool) (b:ByteArray) (h:m=false):markB 0++bytesOf 0 m b=bytesOf 0 true b:=by
 subst h;rfl
def Mk (K k:Kp) (ts:List Int):Prop:=k.mark=K.mark\/isLat ts=true
end Go.Proofs.YtoejbngihecafabGreatDoor
