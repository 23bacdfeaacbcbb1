import Derived.Test.YtoejbngihecafaaGreatDoorC24
import Derived.Test.YtoejbngihecafaaGreatDoorC20
import Derived.Test.YtoejbngihecafaaGreatDoorC0
namespace Go.Proofs.YtoejbngihecafaaGreatDoor
variable {l:List UInt8} {b:ByteArray} {kind e:Int}
structure Kp where
 enc:Int
 mark:Bool
 body:ByteArray
variable {k:Kp}
def Kp.L (k:Kp):List UInt8:=k.body.data.toList
def Kp.A (k:Kp):List Vm.At:=Vm.atoms k.enc k.L
def ofL (l:List UInt8):ByteArray:=⟨l.toArray⟩
theorem Qbs (l:List UInt8):(ofL l).data.toList=l:=rfl
theorem ofL_L (b:ByteArray):ofL b.data.toList=b:=QcO rfl
theorem QjT (l:List UInt8):(ofL l).size=l.length:=rfl
theorem Kp.L_len (k:Kp):k.L.length=k.body.size:=rfl
def ofK (b:ByteArray) (enc:Int):Kp:=⟨enc,ofMark b enc,ofBody b enc⟩
structure Kp.Ok (k:Kp):Prop where
 h0:0<=k.enc
 h3:k.enc<=3
 lat:k.enc=3->k.mark=false
 st:k.mark=false->ofMark k.body k.enc=false
theorem Qfj {enc:Int} (h0:0<=enc) (h2:enc<=2):(markB enc).data.toList=Vm.nb (Vm.wrL enc 65279):=by
 have:enc=0\/enc=1\/enc=2:=by omega
 rcases this with rfl|rfl|rfl<;>decide
theorem Qe9 {enc:Int} (h0:0<=enc) (h2:enc<=2):2<=(markB enc).size:=by
 have:enc=0\/enc=1\/enc=2:=by omega
 rcases this with rfl|rfl|rfl<;>decide
theorem Qj6 (enc:Int):(markB enc).data.toList.length=(markB enc).size:=rfl
theorem isPre {m:List UInt8}:m.isPrefixOf l=true↔∃r,l=m++r:=by
 rw[List.isPrefixOf_iff_prefix];exact⟨fun ⟨r,h⟩=>⟨r,h.symm⟩,fun ⟨r,h⟩=>⟨r,h.symm⟩⟩
theorem ofMark_iff {enc:Int}:ofMark b enc=true↔(markB enc).size≠0/\∃r,b.data.toList=(markB enc).data.toList++r:=by
 unfold ofMark;rw[Bool.and_eq_true,decide_eq_true_eq,isPre]
theorem Qhn (b:ByteArray):ofMark b 3=false:=rfl
theorem QfF {enc:Int} {r:List UInt8} (h:ofMark b enc=true) (hb:b.data.toList=(markB enc).data.toList++r):ofBody b enc=ofL r:=by
 unfold ofBody;rw[if_pos h];apply QcO;rw[Qbs,ByteArray.data_extract,Array.toList_extract,List.extract_eq_take_drop,hb,<-Qj6,List.drop_left]
 have hs:b.size=(markB enc).data.toList.length+r.length:=by
  have:b.data.toList.length=b.size:=rfl;rw[<-this,hb,List.length_append]
 rw[hs];exact List.take_of_length_le (by omega)
theorem Qdz {enc:Int} (h:ofMark b enc=false):ofBody b enc=b:=by
 unfold ofBody;rw[if_neg (by rw[h];decide)]
theorem Qmu {enc:Int} (h0:0<=enc) (h3:enc<=3):(ofK b enc).Ok :=
 ⟨h0,h3,fun h=>by have e:enc=3:=h;subst e;exact Qhn b,fun h=>by
  have e:ofMark b enc=false:=h
  show ofMark (ofBody b enc) enc=false
  rw[Qdz e];exact e⟩
theorem Qj5 {enc:Int} (h0:0<=enc) (h2:enc<=2) (body:ByteArray):ofK (bytesOf enc true body) enc=⟨enc,true,body⟩:=by
 have hl:(bytesOf enc true body).data.toList=(markB enc).data.toList++body.data.toList:=by
  show (markB enc++body).data.toList=_;rw[ByteArray.data_append,Array.toList_append]
 have hm:ofMark (bytesOf enc true body) enc=true:=ofMark_iff.2 ⟨by have:=Qe9 h0 h2;omega,_,hl⟩;unfold ofK;rw[hm,QfF hm hl,ofL_L]
theorem Kp.Ok.back (h:k.Ok):ofK (bytesOf k.enc k.mark k.body) k.enc=k:=by
 obtain⟨e,m,b⟩:=k;cases m with
 |true =>
  have h3:=h.h3;have hl:=h.lat;have h0:=h.h0;simp only at h0 h3 hl
  exact Qj5 h0 (by
   rcases Int.lt_or_le 2 e with q|q
   ·have:=hl (by omega);cases this
   exact q) b
 |false =>
  have hs:=h.st rfl;simp only at hs;show ofK b e=_;unfold ofK;rw[hs,Qdz hs]
def stl (k:Kp):Kp:=if k.mark then k else ofK k.body k.enc
theorem Qn4 (h0:0<=k.enc) (h3:k.enc<=3) (hl:k.enc=3->k.mark=false):(stl k).Ok:=by
 unfold stl;cases hm:k.mark with
 |true=>exact⟨h0,h3,fun e=>by simpa using hl e,fun e=>by simp [hm] at e⟩
 |false=>exact Qmu h0 h3
theorem Ql7 (h0:0<=k.enc) (h3:k.enc<=3) (hl:k.enc=3->k.mark=false):ofK (bytesOf k.enc k.mark k.body) k.enc=stl k:=by
 obtain⟨e,m,b⟩:=k;cases m with
 |true =>
  simp only at h0 h3 hl
  exact Qj5 h0 (by
   rcases Int.lt_or_le 2 e with q|q
   ·have:=hl (by omega);cases this
   exact q) b
 |false=>rfl
theorem Qlm {enc:Int} (h0:0<=enc) (h3:enc<=3):(ofK b enc).A.length<=(Vm.atoms enc b.data.toList).length:=by
 cases hm:ofMark b enc with
 |false =>
  show (Vm.atoms enc (ofBody b enc).data.toList).length<=_;rw[Qdz hm];exact Z6 _
 |true =>
  obtain⟨h1,r,hr⟩:=ofMark_iff.1 hm
  have h2:enc<=2:=by
   rcases Int.lt_or_le 2 enc with q|q
   ·have e3:enc=3:=by omega
    subst e3;exact absurd rfl h1
   exact q
  show (Vm.atoms enc (ofBody b enc).data.toList).length<=_;rw[QfF hm hr,Qbs,hr,Qfj h0 h2,Vm.Qes h0 h2,List.length_cons];omega
theorem QiG (h0:0<=k.enc) (h3:k.enc<=3):(stl k).A.length<=k.A.length:=by
 unfold stl;split
 ·exact Z6 _
 exact Qlm h0 h3
theorem Qfs {enc:Int} (h0:0<=enc) (h2:enc<=2):ofMark b enc=true↔∃n A,Vm.atoms enc b.data.toList=(3,65279,n) :: A:=by
 rw[ofMark_iff];constructor
 ·rintro ⟨_,r,hr⟩;rw[hr,Qfj h0 h2,Vm.Qes h0 h2];exact⟨_,_,rfl⟩
 rintro ⟨n,A,h⟩;refine⟨by have:=Qe9 h0 h2;omega,b.data.toList.drop n,?_⟩;have hs:=Vm.QbC h0 (by omega) b.data.toList;rw[h,List.flatMap_cons,Vm.Qjx rfl] at hs;obtain⟨g,_⟩:=Vm.Qah hs;have hb:=(Vm.QaO h0 (by omega) g (by simp)).1;rw[Qfj h0 h2,<-hb,List.take_append_drop]
def endK (k:Kp) (kind:Int):Kp:=⟨k.enc,k.mark,ofL (Vm.reB k.enc kind k.A k.L++k.L.drop (Vm.sizeA k.A))⟩
theorem Kp.cut (k:Kp):Vm.Wh k.enc (k.L.take (Vm.sizeA k.A))/\Vm.atoms k.enc (k.L.take (Vm.sizeA k.A))=k.A/\(k.L.drop (Vm.sizeA k.A)=[]\/((k.L.drop (Vm.sizeA k.A)).length=1/\¬k.enc=0/\¬k.enc=3)):=by
 have h1:=(Vm.QaC (List.prefix_refl (Vm.atoms k.enc k.L))).1;refine⟨Vm.QcR (List.prefix_refl _),h1,?_⟩;have hs:=Vm.QbV k.enc k.L.length k.L (Z6 _);have e:Vm.sizeA k.A=Vm.szS (Vm.signs k.enc k.L):=Vm.Qbz k.enc k.L;by_cases hw:Vm.Wh k.enc k.L
 ·left;rw[e,hs.1 hw];exact List.drop_eq_nil_of_le (Z6 _)
 right;have:=hs.2 hw;refine⟨by rw[List.length_drop,e];omega,fun q=>hw (.inl q),fun q=>hw (.inr (.inl q))⟩
theorem Qg0 {enc:Int}:∀(A:List Vm.At) (l t:List UInt8),Vm.sizeA A<=l.length->Vm.reB enc kind A (l++t)=Vm.reB enc kind A l
 |[],_,_,_=>rfl
 |x :: A,l,t,h=>by
  rw[Vm.Qar] at h
  rw[Vm.reB,Vm.reB,List.take_append_of_le_length (by omega),List.drop_append_of_le_length (by omega),Qg0 A (l.drop x.2.2) t (by rw[List.length_drop];omega)]
theorem Qmy {enc:Int} (h0:0<=enc) (h3:enc<=3) (k0:0<=kind) (k2:kind<=2) (hw:Vm.Wh enc l):Vm.Wh enc (Vm.reB enc kind (Vm.atoms enc l) l):=by
 have hc:enc=0\/enc=3\/(enc=1\/enc=2):=by omega
 rcases hc with h|h|hc
 ·exact .inl h
 ·exact .inr (.inl h)
 right;right;have ha:=Vm.Qe6 h0 h3 k0 k2 hw
 have hlen:(Vm.reB enc kind (Vm.atoms enc l) l).length=Vm.sizeA ((Vm.atoms enc l).map (Vm.reA enc kind)):=by
  have:∀(A:List Vm.At) (l:List UInt8),Vm.sizeA A<=l.length->(Vm.reB enc kind A l).length=Vm.sizeA (A.map (Vm.reA enc kind)):=by
   intro A
   induction A with
   |nil=>intro l _;rfl
   |cons x A ih =>
    intro l h;rw[Vm.Qar] at h;rw[Vm.reB,List.length_append,ih (l.drop x.2.2) (by rw[List.length_drop];omega),List.map_cons,Vm.Qar];congr 1;unfold Vm.reA;split
    ·rw[Vm.Qca]
    rw[List.length_take];omega
  exact this _ _ (by rw[Vm.QcQ hw];exact Z6 _)
 by_cases hq:Vm.Wh enc (Vm.reB enc kind (Vm.atoms enc l) l)
 ·rcases hq with q|q|q
  ·omega
  ·omega
  exact q
 have:=(Vm.QbV enc _ (Vm.reB enc kind (Vm.atoms enc l) l) (Z6 _)).2 hq;rw[<-Vm.Qbz,ha,<-hlen] at this;omega
theorem QnT (h:k.Ok) (k0:0<=kind) (k2:kind<=2):(endK k kind).A=k.A.map (Vm.reA k.enc kind):=by
 obtain⟨hw,ha,ht⟩:=k.cut
 have hle:Vm.sizeA k.A<=(k.L.take (Vm.sizeA k.A)).length:=by
  have:=Vm.QcQ hw;rw[ha] at this;omega
 have e1:Vm.reB k.enc kind k.A k.L=Vm.reB k.enc kind k.A (k.L.take (Vm.sizeA k.A)):=by
  have:=Qg0 (enc:=k.enc) (kind:=kind) k.A (k.L.take (Vm.sizeA k.A)) (k.L.drop (Vm.sizeA k.A)) hle;rwa [List.take_append_drop] at this
 have hre:=Vm.Qe6 h.h0 h.h3 k0 k2 hw;have hwh:=Qmy h.h0 h.h3 k0 k2 hw;rw[ha] at hre hwh;show Vm.atoms k.enc (Vm.reB k.enc kind k.A k.L++k.L.drop (Vm.sizeA k.A))=_;rw[e1,Vm.Qgt (Vm.Qh7 hwh ht),hre]
theorem QoB (h:k.Ok) (k0:0<=kind) (k2:kind<=2):(endK k kind).Ok:=by
 refine⟨h.h0,h.h3,h.lat,fun hm=>?_⟩;have hs:=h.st hm;have hA:=QnT h k0 k2;cases hq:ofMark (endK k kind).body (endK k kind).enc with
 |false=>rfl
 |true =>
  exfalso;have h0:=h.h0;have h3:=h.h3;have e:(endK k kind).enc=k.enc:=rfl;rw[e] at hq;by_cases h2:k.enc<=2
  ·obtain⟨n,A,hn⟩:=(Qfs h0 h2).1 hq;have hn':(endK k kind).A=(3,65279,n) :: A:=hn;rw[hA] at hn';cases hkA:k.A with
   |nil=>rw[hkA] at hn';cases hn'
   |cons x B =>
    rw[hkA,List.map_cons] at hn';injection hn' with h1 _
    have hx:x=(3,65279,n):=by
     unfold Vm.reA at h1;split at h1
     ·injection h1 with h1;omega
     exact h1
    have:=(Qfs (b:=k.body) h0 h2).2 ⟨n,B,by rw[<-hx];exact hkA⟩;rw[this] at hs;cases hs
  have e3:k.enc=3:=by omega
  rw[e3] at hq;cases hq
theorem QnA (h:k.Ok) (k0:0<=kind) (k2:kind<=2):(endK k kind).A.length=k.A.length:=by rw[QnT h k0 k2,List.length_map]
def markK (k:Kp) (on:Bool):Kp:=stl ⟨k.enc,on,k.body⟩
theorem QnM {on:Bool} (h:k.Ok) (hl:on=true->k.enc≠3):(markK k on).Ok :=
 Qn4 h.h0 h.h3 (fun e=>by cases on;rfl;exact absurd e (hl rfl))
theorem QmE (on:Bool) (h:k.Ok):(markK k on).A.length<=k.A.length:=QiG (k:=⟨k.enc,on,k.body⟩) h.h0 h.h3
def replK (k:Kp) (a b:Nat) (put:List UInt8):Kp:=stl ⟨k.enc,k.mark,ofL (k.L.take (Vm.sizeA (k.A.take a))++(put++k.L.drop (Vm.sizeA (k.A.take b))))⟩
theorem Qns (a b:Nat) (put:List UInt8) (h:k.Ok):(replK k a b put).Ok:=Qn4 h.h0 h.h3 h.lat
theorem Qlg {a b:Nat} {put:List UInt8} (h:k.Ok) (hab:a<=b) (hw:Vm.Wh k.enc put):(replK k a b put).A.length<=k.A.length+put.length :=
 Nat.le_trans (QiG (k:=⟨k.enc,k.mark,_⟩) h.h0 h.h3) (Vm.QkR h.h0 h.h3 hab hw)
def encK (k:Kp) (e:Int):Kp:=ofK (bytesOf e (k.mark&&decide (e≠3)) (strOfNums (Vm.recL e k.A))) e
def fitsK (k:Kp) (e:Int):Bool:=(k.A.all (fun x=>x.1 != 4))&&decide (Vm.sizeA k.A=k.L.length)&&(decide (e≠3) || k.A.all (fun x=>decide (x.2.1<=255)))
theorem QoN {enc:Int} (h0:0<=enc) (h3:enc<=3) {x:Vm.At} (hx:x∈Vm.atoms enc l) (h4:x.1≠4) (hl:e=3->x.2.1<=255):Vm.Says e x:=by
 have hv:=(Vm.QbM enc l x hx).1;have hok:=Vm.Qao enc l x hx;refine⟨?_,hok.2.2.2.1,hv,hl⟩;rcases Vm.QcN h0 h3 l x hx with rfl|rfl|rfl|⟨q1,q2,q3,_⟩|⟨q1,_⟩
 ·exact .inl rfl
 ·exact .inr (.inl rfl)
 ·exact .inr (.inr (.inl rfl))
 ·exact .inr (.inr (.inr ⟨q1,q2,q3⟩))
 exact absurd q1 h4
theorem QlT (h:k.Ok) (hf:fitsK k e=true):∀x∈k.A,Vm.Says e x:=by
 unfold fitsK at hf;rw[Bool.and_eq_true,Bool.and_eq_true,List.all_eq_true,Bool.or_eq_true,List.all_eq_true] at hf;intro x hx;refine QoN h.h0 h.h3 hx (by simpa using hf.1.1 x hx) (fun e3=>?_);rcases hf.2 with q|q
 ·simp [e3] at q
 simpa using q x hx
theorem Qmw (h:k.Ok) (e0:0<=e) (e3:e<=3) (hf:fitsK k e=true):Vm.atoms e (strOfNums (Vm.recL e k.A)).data.toList=k.A.map (Vm.toE e) :=
 Vm.Qk3 e0 e3 (Vm.Qnc _ _) (QlT h hf)
theorem QoQ (e0:0<=e) (e3:e<=3):(encK k e).Ok:=Qmu e0 e3
theorem Qoj (e0:0<=e) (e3:e<=3):encK k e=stl ⟨e,k.mark&&decide (e≠3),strOfNums (Vm.recL e k.A)⟩ :=
 Ql7 (k:=⟨e,k.mark&&decide (e≠3),strOfNums (Vm.recL e k.A)⟩) e0 e3 (fun q=>by have q:e=3:=q;simp [q])
theorem Qnq (h:k.Ok) (e0:0<=e) (e3:e<=3) (hf:fitsK k e=true):(encK k e).A.length<=k.A.length:=by
 rw[Qoj e0 e3];refine Nat.le_trans (QiG (k:=⟨e,k.mark&&decide (e≠3),strOfNums (Vm.recL e k.A)⟩) e0 e3) ?_;show (Vm.atoms e (strOfNums (Vm.recL e k.A)).data.toList).length<=_;rw[Qmw h e0 e3 hf,List.length_map];exact Z6 _
theorem Ql3 (h:k.Ok) (hf:fitsK k k.enc=true):encK k k.enc=k:=by
 have h':=hf;unfold fitsK at h';rw[Bool.and_eq_true,Bool.and_eq_true,List.all_eq_true,decide_eq_true_eq] at h'
 have hb:Vm.nb (Vm.recL k.enc k.A)=k.L:=by
  have:=Vm.QnI h.h0 h.h3 k.L.length k.L (Z6 _) (fun x hx=>by simpa using h'.1.1 x hx);have e:Vm.sizeA (Vm.atoms k.enc k.L)=k.L.length:=h'.1.2;rw[e,List.take_length] at this;exact this
 have hbody:strOfNums (Vm.recL k.enc k.A)=k.body:=QcO (by
  show Vm.nb (Vm.recL k.enc k.A)=_
  rw[hb];rfl)
 have hm:(k.mark&&decide (k.enc≠3))=k.mark:=by
  by_cases e3:k.enc=3
  ·rw[h.lat e3];rfl
  simp [e3]
 unfold encK;rw[hbody,hm];exact h.back
theorem Kp.body_le (k:Kp):k.body.size<=8 * k.A.length+1:=Vm.Qk2 k.enc k.L
end Go.Proofs.YtoejbngihecafaaGreatDoor
