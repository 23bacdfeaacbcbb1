import Derived.Test.YtoejbngihecafabGreatDoorB24
import Derived.Test.YtoejbngihecafabGreatDoorB20
namespace Go.Proofs.YtoejbngihecafabGreatDoor
structure Kp where
 enc:Int
 mark:Bool
 body:ByteArray
def Kp.L (k:Kp):List UInt8:=k.body.data.toList
def Kp.A (k:Kp):List Vm.At:=Vm.atoms k.enc k.L
def ofL (l:List UInt8):ByteArray:=⟨l.toArray⟩
theorem ofL_list (l:List UInt8):(ofL l).data.toList=l:=rfl
theorem ofL_L (b:ByteArray):ofL b.data.toList=b:=ba_ext rfl
theorem ofL_size (l:List UInt8):(ofL l).size=l.length:=rfl
def ofK (b:ByteArray) (enc:Int):Kp:=⟨enc,ofMark b enc,ofBody b enc⟩
structure Kp.Ok (k:Kp):Prop where
 h0:0<=k.enc
 h3:k.enc<=3
 lat:k.enc=3->k.mark=false
 st:k.mark=false->ofMark k.body k.enc=false
theorem mark_nb {enc:Int} (h0:0<=enc) (h2:enc<=2):(markB enc).data.toList=Vm.nb (Vm.wrL enc 65279):=by
 have:enc=0\/enc=1\/enc=2:=by omega
 rcases this with rfl|rfl|rfl<;>decide
theorem mark_pos {enc:Int} (h0:0<=enc) (h2:enc<=2):2<=(markB enc).size:=by
 have:enc=0\/enc=1\/enc=2:=by omega
 rcases this with rfl|rfl|rfl<;>decide
theorem mark_len (enc:Int):(markB enc).data.toList.length=(markB enc).size:=rfl
theorem isPre {m l:List UInt8}:m.isPrefixOf l=true↔∃r,l=m++r:=by
 rw[List.isPrefixOf_iff_prefix]
 exact⟨fun ⟨r,h⟩=>⟨r,h.symm⟩,fun ⟨r,h⟩=>⟨r,h.symm⟩⟩
theorem ofMark_iff {b:ByteArray} {enc:Int}:ofMark b enc=true↔(markB enc).size≠0/\∃r,b.data.toList=(markB enc).data.toList++r:=by
 unfold ofMark;rw[Bool.and_eq_true,decide_eq_true_eq,isPre]
theorem ofMark_latin (b:ByteArray):ofMark b 3=false:=rfl
theorem ofBody_of {b:ByteArray} {enc:Int} {r:List UInt8} (h:ofMark b enc=true) (hb:b.data.toList=(markB enc).data.toList++r):ofBody b enc=ofL r:=by
 unfold ofBody;rw[if_pos h]
 apply ba_ext
 rw[ofL_list,ByteArray.data_extract,Array.toList_extract,List.extract_eq_take_drop,hb,<-mark_len,List.drop_left]
 have hs:b.size=(markB enc).data.toList.length+r.length:=by
  have:b.data.toList.length=b.size:=rfl
  rw[<-this,hb,List.length_append]
 rw[hs]
 exact List.take_of_length_le (by omega)
theorem ofBody_no {b:ByteArray} {enc:Int} (h:ofMark b enc=false):ofBody b enc=b:=by
 unfold ofBody;rw[if_neg (by rw[h];decide)]
theorem ofK_ok {b:ByteArray} {enc:Int} (h0:0<=enc) (h3:enc<=3):(ofK b enc).Ok :=
 ⟨h0,h3,fun h=>by have e:enc=3:=h;subst e;exact ofMark_latin b,fun h=>by
  have e:ofMark b enc=false:=h
  show ofMark (ofBody b enc) enc=false
  rw[ofBody_no e];exact e⟩
theorem ofK_mark {enc:Int} (h0:0<=enc) (h2:enc<=2) (body:ByteArray):ofK (bytesOf enc true body) enc=⟨enc,true,body⟩:=by
 have hl:(bytesOf enc true body).data.toList=(markB enc).data.toList++body.data.toList:=by
  show (markB enc++body).data.toList=_
  rw[ByteArray.data_append,Array.toList_append]
 have hm:ofMark (bytesOf enc true body) enc=true:=ofMark_iff.2 ⟨by have:=mark_pos h0 h2;omega,_,hl⟩
 unfold ofK
 rw[hm,ofBody_of hm hl,ofL_L]
theorem Kp.Ok.back {k:Kp} (h:k.Ok):ofK (bytesOf k.enc k.mark k.body) k.enc=k:=by
 obtain⟨e,m,b⟩:=k
 cases m with
 |true =>
  have h3:=h.h3
  have hl:=h.lat
  have h0:=h.h0
  simp only at h0 h3 hl
  exact ofK_mark h0 (by
   rcases Int.lt_or_le 2 e with q|q
   ·have:=hl (by omega);cases this
   ·exact q) b
 |false =>
  have hs:=h.st rfl
  simp only at hs
  show ofK b e=_
  unfold ofK
  rw[hs,ofBody_no hs]
def stl (k:Kp):Kp:=if k.mark then k else ofK k.body k.enc
theorem stl_ok {k:Kp} (h0:0<=k.enc) (h3:k.enc<=3) (hl:k.enc=3->k.mark=false):(stl k).Ok:=by
 unfold stl
 cases hm:k.mark with
 |true=>exact⟨h0,h3,fun e=>by simpa using hl e,fun e=>by simp [hm] at e⟩
 |false=>exact ofK_ok h0 h3
theorem stl_eq {k:Kp} (h0:0<=k.enc) (h3:k.enc<=3) (hl:k.enc=3->k.mark=false):ofK (bytesOf k.enc k.mark k.body) k.enc=stl k:=by
 obtain⟨e,m,b⟩:=k
 cases m with
 |true =>
  simp only at h0 h3 hl
  exact ofK_mark h0 (by
   rcases Int.lt_or_le 2 e with q|q
   ·have:=hl (by omega);cases this
   ·exact q) b
 |false=>rfl
theorem ofK_len {b:ByteArray} {enc:Int} (h0:0<=enc) (h3:enc<=3):(ofK b enc).A.length<=(Vm.atoms enc b.data.toList).length:=by
 cases hm:ofMark b enc with
 |false =>
  show (Vm.atoms enc (ofBody b enc).data.toList).length<=_
  rw[ofBody_no hm];exact Nat.le_refl _
 |true =>
  obtain⟨h1,r,hr⟩:=ofMark_iff.1 hm
  have h2:enc<=2:=by
   rcases Int.lt_or_le 2 enc with q|q
   ·have e3:enc=3:=by omega
    subst e3;exact absurd rfl h1
   ·exact q
  show (Vm.atoms enc (ofBody b enc).data.toList).length<=_
  rw[ofBody_of hm hr,ofL_list,hr,mark_nb h0 h2,Vm.atoms_mark h0 h2,List.length_cons];omega
theorem stl_len {k:Kp} (h0:0<=k.enc) (h3:k.enc<=3):(stl k).A.length<=k.A.length:=by
 unfold stl
 split
 ·exact Nat.le_refl _
 ·exact ofK_len h0 h3
theorem ofMark_atom {b:ByteArray} {enc:Int} (h0:0<=enc) (h2:enc<=2):ofMark b enc=true↔∃n A,Vm.atoms enc b.data.toList=(3,65279,n) :: A:=by
 rw[ofMark_iff]
 constructor
 ·rintro ⟨_,r,hr⟩
  rw[hr,mark_nb h0 h2,Vm.atoms_mark h0 h2]
  exact⟨_,_,rfl⟩
 ·rintro ⟨n,A,h⟩
  refine⟨by have:=mark_pos h0 h2;omega,b.data.toList.drop n,?_⟩
  have hs:=Vm.signs_atoms h0 (by omega) b.data.toList
  rw[h,List.flatMap_cons,Vm.sgA_ch rfl] at hs
  obtain⟨g,_⟩:=Vm.head_of_signs hs
  have hb:=(Vm.head_back h0 (by omega) g (by simp)).1
  rw[mark_nb h0 h2,<-hb,List.take_append_drop]
def endK (k:Kp) (kind:Int):Kp:=⟨k.enc,k.mark,ofL (Vm.reB k.enc kind k.A k.L++k.L.drop (Vm.sizeA k.A))⟩
theorem Kp.cut (k:Kp):Vm.Wh k.enc (k.L.take (Vm.sizeA k.A))/\Vm.atoms k.enc (k.L.take (Vm.sizeA k.A))=k.A/\(k.L.drop (Vm.sizeA k.A)=[]\/((k.L.drop (Vm.sizeA k.A)).length=1/\¬k.enc=0/\¬k.enc=3)):=by
 have h1:=(Vm.atoms_cut (List.prefix_refl (Vm.atoms k.enc k.L))).1
 refine⟨Vm.wh_take (List.prefix_refl _),h1,?_⟩
 have hs:=Vm.szS_signs k.enc k.L.length k.L (Nat.le_refl _)
 have e:Vm.sizeA k.A=Vm.szS (Vm.signs k.enc k.L):=Vm.sizeA_atoms k.enc k.L
 by_cases hw:Vm.Wh k.enc k.L
 ·left
  rw[e,hs.1 hw];exact List.drop_eq_nil_of_le (Nat.le_refl _)
 ·right
  have:=hs.2 hw
  refine⟨by rw[List.length_drop,e];omega,fun q=>hw (.inl q),fun q=>hw (.inr (.inl q))⟩
theorem reB_take {enc kind:Int}:∀(A:List Vm.At) (l t:List UInt8),Vm.sizeA A<=l.length->Vm.reB enc kind A (l++t)=Vm.reB enc kind A l
 |[],_,_,_=>rfl
 |x :: A,l,t,h=>by
  rw[Vm.sizeA_cons] at h
  rw[Vm.reB,Vm.reB,List.take_append_of_le_length (by omega),List.drop_append_of_le_length (by omega),reB_take A (l.drop x.2.2) t (by rw[List.length_drop];omega)]
theorem reB_wh {enc kind:Int} (h0:0<=enc) (h3:enc<=3) (k0:0<=kind) (k2:kind<=2) {l:List UInt8} (hw:Vm.Wh enc l):Vm.Wh enc (Vm.reB enc kind (Vm.atoms enc l) l):=by
 have hc:enc=0\/enc=3\/(enc=1\/enc=2):=by omega
 rcases hc with h|h|hc
 ·exact .inl h
 ·exact .inr (.inl h)
 ·right;right
  have ha:=Vm.re_atoms h0 h3 k0 k2 hw
  have hlen:(Vm.reB enc kind (Vm.atoms enc l) l).length=Vm.sizeA ((Vm.atoms enc l).map (Vm.reA enc kind)):=by
   have:∀(A:List Vm.At) (l:List UInt8),Vm.sizeA A<=l.length->(Vm.reB enc kind A l).length=Vm.sizeA (A.map (Vm.reA enc kind)):=by
    intro A
    induction A with
    |nil=>intro l _;rfl
    |cons x A ih =>
     intro l h
     rw[Vm.sizeA_cons] at h
     rw[Vm.reB,List.length_append,ih (l.drop x.2.2) (by rw[List.length_drop];omega),List.map_cons,Vm.sizeA_cons]
     congr 1
     unfold Vm.reA
     split
     ·rw[Vm.nb_len]
     ·rw[List.length_take];omega
   exact this _ _ (by rw[Vm.wh_size hw];exact Nat.le_refl _)
  by_cases hq:Vm.Wh enc (Vm.reB enc kind (Vm.atoms enc l) l)
  ·rcases hq with q|q|q
   ·omega
   ·omega
   ·exact q
  ·have:=(Vm.szS_signs enc _ (Vm.reB enc kind (Vm.atoms enc l) l) (Nat.le_refl _)).2 hq
   rw[<-Vm.sizeA_atoms,ha,<-hlen] at this
   omega
theorem endK_A {k:Kp} {kind:Int} (h:k.Ok) (k0:0<=kind) (k2:kind<=2):(endK k kind).A=k.A.map (Vm.reA k.enc kind):=by
 obtain⟨hw,ha,ht⟩:=k.cut
 have hle:Vm.sizeA k.A<=(k.L.take (Vm.sizeA k.A)).length:=by
  have:=Vm.wh_size hw
  rw[ha] at this;omega
 have e1:Vm.reB k.enc kind k.A k.L=Vm.reB k.enc kind k.A (k.L.take (Vm.sizeA k.A)):=by
  have:=reB_take (enc:=k.enc) (kind:=kind) k.A (k.L.take (Vm.sizeA k.A)) (k.L.drop (Vm.sizeA k.A)) hle
  rwa [List.take_append_drop] at this
 have hre:=Vm.re_atoms h.h0 h.h3 k0 k2 hw
 have hwh:=reB_wh h.h0 h.h3 k0 k2 hw
 rw[ha] at hre hwh
 show Vm.atoms k.enc (Vm.reB k.enc kind k.A k.L++k.L.drop (Vm.sizeA k.A))=_
 rw[e1,Vm.atoms_tail (Vm.tail_size hwh ht),hre]
theorem endK_ok {k:Kp} {kind:Int} (h:k.Ok) (k0:0<=kind) (k2:kind<=2):(endK k kind).Ok:=by
 refine⟨h.h0,h.h3,h.lat,fun hm=>?_⟩
 have hs:=h.st hm
 have hA:=endK_A h k0 k2
 cases hq:ofMark (endK k kind).body (endK k kind).enc with
 |false=>rfl
 |true =>
  exfalso
  have h0:=h.h0
  have h3:=h.h3
  have e:(endK k kind).enc=k.enc:=rfl
  rw[e] at hq
  by_cases h2:k.enc<=2
  ·obtain⟨n,A,hn⟩:=(ofMark_atom h0 h2).1 hq
   have hn':(endK k kind).A=(3,65279,n) :: A:=hn
   rw[hA] at hn'
   cases hkA:k.A with
   |nil=>rw[hkA] at hn';cases hn'
   |cons x B =>
    rw[hkA,List.map_cons] at hn'
    injection hn' with h1 _
    have hx:x=(3,65279,n):=by
     unfold Vm.reA at h1
     split at h1
     ·injection h1 with h1;omega
     ·exact h1
    have:=(ofMark_atom (b:=k.body) h0 h2).2 ⟨n,B,by rw[<-hx];exact hkA⟩
    rw[this] at hs;cases hs
  ·have e3:k.enc=3:=by omega
   rw[e3] at hq;cases hq
theorem endK_len {k:Kp} {kind:Int} (h:k.Ok) (k0:0<=kind) (k2:kind<=2):(endK k kind).A.length=k.A.length:=by rw[endK_A h k0 k2,List.length_map]
def markK (k:Kp) (on:Bool):Kp:=stl ⟨k.enc,on,k.body⟩
theorem markK_ok {k:Kp} {on:Bool} (h:k.Ok) (hl:on=true->k.enc≠3):(markK k on).Ok :=
 stl_ok h.h0 h.h3 (fun e=>by cases on;rfl;exact absurd e (hl rfl))
theorem markK_len {k:Kp} (on:Bool) (h:k.Ok):(markK k on).A.length<=k.A.length:=stl_len (k:=⟨k.enc,on,k.body⟩) h.h0 h.h3
def replK (k:Kp) (a b:Nat) (put:List UInt8):Kp:=stl ⟨k.enc,k.mark,ofL (k.L.take (Vm.sizeA (k.A.take a))++(put++k.L.drop (Vm.sizeA (k.A.take b))))⟩
theorem replK_ok {k:Kp} (a b:Nat) (put:List UInt8) (h:k.Ok):(replK k a b put).Ok:=stl_ok h.h0 h.h3 h.lat
theorem replK_len {k:Kp} {a b:Nat} {put:List UInt8} (h:k.Ok) (hab:a<=b) (hw:Vm.Wh k.enc put):(replK k a b put).A.length<=k.A.length+put.length :=
 Nat.le_trans (stl_len (k:=⟨k.enc,k.mark,_⟩) h.h0 h.h3) (Vm.splice_len h.h0 h.h3 hab hw)
def encK (k:Kp) (e:Int):Kp:=ofK (bytesOf e (k.mark&&decide (e≠3)) (strOfNums (Vm.recL e k.A))) e
def fitsK (k:Kp) (e:Int):Bool:=(k.A.all (fun x=>x.1 != 4))&&decide (Vm.sizeA k.A=k.L.length)&&(decide (e≠3) || k.A.all (fun x=>decide (x.2.1<=255)))
theorem says_of {enc e:Int} {l:List UInt8} (h0:0<=enc) (h3:enc<=3) {x:Vm.At} (hx:x∈Vm.atoms enc l) (h4:x.1≠4) (hl:e=3->x.2.1<=255):Vm.Says e x:=by
 have hv:=(Vm.atoms_ch enc l x hx).1
 have hok:=Vm.atoms_ok enc l x hx
 refine⟨?_,hok.2.2.2.1,hv,hl⟩
 rcases Vm.atoms_sh h0 h3 l x hx with rfl|rfl|rfl|⟨q1,q2,q3,_⟩|⟨q1,_⟩
 ·exact .inl rfl
 ·exact .inr (.inl rfl)
 ·exact .inr (.inr (.inl rfl))
 ·exact .inr (.inr (.inr ⟨q1,q2,q3⟩))
 ·exact absurd q1 h4
theorem fits_says {k:Kp} {e:Int} (h:k.Ok) (hf:fitsK k e=true):∀x∈k.A,Vm.Says e x:=by
 unfold fitsK at hf
 rw[Bool.and_eq_true,Bool.and_eq_true,List.all_eq_true,Bool.or_eq_true,List.all_eq_true] at hf
 intro x hx
 refine says_of h.h0 h.h3 hx (by simpa using hf.1.1 x hx) (fun e3=>?_)
 rcases hf.2 with q|q
 ·simp [e3] at q
 ·simpa using q x hx
theorem encK_body {k:Kp} {e:Int} (h:k.Ok) (e0:0<=e) (e3:e<=3) (hf:fitsK k e=true):Vm.atoms e (strOfNums (Vm.recL e k.A)).data.toList=k.A.map (Vm.toE e) :=
 Vm.rec_atoms e0 e3 (Vm.atoms_nj _ _) (fits_says h hf)
theorem encK_ok {k:Kp} {e:Int} (e0:0<=e) (e3:e<=3):(encK k e).Ok:=ofK_ok e0 e3
theorem encK_eq {k:Kp} {e:Int} (e0:0<=e) (e3:e<=3):encK k e=stl ⟨e,k.mark&&decide (e≠3),strOfNums (Vm.recL e k.A)⟩ :=
 stl_eq (k:=⟨e,k.mark&&decide (e≠3),strOfNums (Vm.recL e k.A)⟩) e0 e3 (fun q=>by have q:e=3:=q;simp [q])
theorem encK_len {k:Kp} {e:Int} (h:k.Ok) (e0:0<=e) (e3:e<=3) (hf:fitsK k e=true):(encK k e).A.length<=k.A.length:=by
 rw[encK_eq e0 e3]
 refine Nat.le_trans (stl_len (k:=⟨e,k.mark&&decide (e≠3),strOfNums (Vm.recL e k.A)⟩) e0 e3) ?_
 show (Vm.atoms e (strOfNums (Vm.recL e k.A)).data.toList).length<=_
 rw[encK_body h e0 e3 hf,List.length_map];exact Nat.le_refl _
theorem encK_same {k:Kp} (h:k.Ok) (hf:fitsK k k.enc=true):encK k k.enc=k:=by
 have h':=hf
 unfold fitsK at h'
 rw[Bool.and_eq_true,Bool.and_eq_true,List.all_eq_true,decide_eq_true_eq] at h'
 have hb:Vm.nb (Vm.recL k.enc k.A)=k.L:=by
  have:=Vm.rec_back h.h0 h.h3 k.L.length k.L (Nat.le_refl _) (fun x hx=>by simpa using h'.1.1 x hx)
  have e:Vm.sizeA (Vm.atoms k.enc k.L)=k.L.length:=h'.1.2
  rw[e,List.take_length] at this
  exact this
 have hbody:strOfNums (Vm.recL k.enc k.A)=k.body:=ba_ext (by
  show Vm.nb (Vm.recL k.enc k.A)=_
  rw[hb];rfl)
 have hm:(k.mark&&decide (k.enc≠3))=k.mark:=by
  by_cases e3:k.enc=3
  ·rw[h.lat e3];rfl
  ·simp [e3]
 unfold encK
 rw[hbody,hm];exact h.back
theorem Kp.body_le (k:Kp):k.body.size<=8 * k.A.length+1:=Vm.len_atoms k.enc k.L
end Go.Proofs.YtoejbngihecafabGreatDoor
