import Derived.Lib.DecodeN
import Derived.Lib.ValidU
import Derived.Test.YtoejbngihecafaaGreatDoorC1
import Derived.Test.YtoejbngihecafaaGreatDoorC0
set_option maxRecDepth 100000
set_option maxHeartbeats 4000000
namespace Vm
variable {enc k n c:Int} {l T X put L t:Bytes} {r i u:Nat} {A0 A:List At} {x:At}
def Wh (enc:Int) (l:Bytes):Prop:=enc=0\/enc=3\/l.length%2=0
theorem Wh.append {a b:Bytes} (ha:Wh enc a) (hb:Wh enc b):Wh enc (a++b):=by
 unfold Wh at *;rw[List.length_append];omega
theorem Qbt (enc:Int) (l:Bytes):(unitHead enc l).2%2=0:=by
 unfold unitHead;dsimp only;(repeat' split)<;>simp
theorem QbV (enc:Int):∀(n:Nat) (l:Bytes),l.length<=n->(Wh enc l->szS (signs enc l)=l.length)/\(¬Wh enc l->szS (signs enc l)+1=l.length)
 |0,l,h=>by
  obtain rfl:l=[]:=List.length_eq_zero_iff.1 (by omega)
  rw[QaB]
  exact⟨fun _=>rfl,fun h=>absurd (by unfold Wh;simp) h⟩
 |n+1,l,h=>by
  cases hx:headSg enc l with
  |none =>
   rw[QeF hx]
   unfold headSg at hx
   split at hx
   ·rename_i h0
    exact⟨fun _=>h0.symm,fun hw=>absurd (by unfold Wh;omega) hw⟩
   split at hx
   ·cases hx
   split at hx
   ·cases hx
   split at hx
   ·refine⟨fun hw=>?_,fun _=>?_⟩
    ·unfold Wh at hw;exfalso;omega
    show 0+1=_;omega
   cases hx
  |some x =>
   rw[Qap hx,Qbi]
   have hle:=QaU hx
   obtain⟨i1,i2⟩:=QbV enc n (l.drop x.2) (by rw[List.length_drop];omega)
   have hev:enc=0\/enc=3\/x.2%2=0:=by
    unfold headSg at hx;split at hx
    ·cases hx
    split at hx
    ·omega
    split at hx
    ·omega
    split at hx
    ·cases hx
    cases hx;exact .inr (.inr (Qbt enc l))
   have hww:Wh enc (l.drop x.2)↔Wh enc l:=by
    unfold Wh;rw[List.length_drop];omega
   rw[hww] at i1 i2;rw[List.length_drop] at i1 i2;exact⟨fun hw=>by rw[i1 hw];omega,fun hw=>by have:=i2 hw;omega⟩
def heldF:Nat->List Sg->Nat
 |h,[]=>h
 |h,x :: r=>if 0<h/\x.1=10 then heldF 0 r else if x.1=13 then heldF x.2 r else heldF 0 r
def outF:Nat->List Sg->List At
 |_,[]=>[]
 |h,x :: r=>if 0<h/\x.1=10 then (1,10,x.2+h) :: outF 0 r
  else (if 0<h then [(2,10,h)] else [])++(if x.1=13 then outF x.2 r else singleA x :: outF 0 r)
theorem Qbp :∀(S:List Sg) (h:Nat) (U:List Sg),atomsF h (S++U)=outF h S++atomsF (heldF h S) U
 |[],h,U=>rfl
 |x :: r,h,U=>by
  rw[List.cons_append,atomsF,outF,heldF]
  by_cases h1:0<h/\x.1=10
  ·rw[if_pos h1,if_pos h1,if_pos h1,Qbp r 0 U];rfl
  rw[if_neg h1,if_neg h1,if_neg h1]
  by_cases h2:x.1=13
  ·rw[if_pos h2,if_pos h2,if_pos h2,Qbp r x.2 U,List.append_assoc]
  rw[if_neg h2,if_neg h2,if_neg h2,Qbp r 0 U,List.append_assoc];rfl
theorem Qdg (S:List Sg) (h:Nat):atomsF h S=outF h S++atomsF (heldF h S) []:=by
 have:=Qbp S h [];rwa [List.append_nil] at this
theorem Qby (S:List Sg) (h:Nat) (U:List Sg) (hn:heldF h S=0\/∀x r,U=x :: r->x.1≠10):atomsF h (S++U)=atomsF h S++atomsF 0 U:=by
 rw[Qbp,Qdg S h,List.append_assoc];congr 1;generalize heldF h S=k at *;by_cases hk:k=0
 ·subst hk;simp [atomsF]
 have hn':=hn.resolve_left hk;cases U with
 |nil=>simp [atomsF]
 |cons x r =>
  have h10:=hn' x r rfl;have hkp:0<k:=by omega
  rw[atomsF,atomsF,if_neg (fun q=>h10 q.2),if_pos hkp];show _=[(2,10,k)]++atomsF 0 (x :: r);congr 1
theorem QfD (S:List Sg) (h:Nat) (x:Sg) (r:List Sg) (hk:0<heldF h S) (hx:x.1=10):atomsF h (S++x :: r)=atomsF h (S++[x])++atomsF 0 r:=by
 rw[Qbp,Qbp,List.append_assoc];congr 1;rw[atomsF,if_pos ⟨hk,hx⟩,atomsF,if_pos ⟨hk,hx⟩];simp [atomsF]
theorem QaQ :∀(S:List Sg) (h:Nat),sizeA (atomsF h S)=h+szS S
 |[],h=>by
  unfold atomsF
  by_cases h0:0<h
  ·rw[if_pos h0];simp [sizeA,szS]
  rw[if_neg h0];simp [sizeA,szS];omega
 |x :: r,h=>by
  rw[atomsF,Qbi]
  by_cases h1:0<h/\x.1=10
  ·rw[if_pos h1,Qar,QaQ r 0];simp only;omega
  rw[if_neg h1]
  have e:∀(B:List At),sizeA ((if 0<h then [((2:Int),(10:Int),h)] else [])++B)=h+sizeA B:=by
   intro B;by_cases h0:0<h
   ·rw[if_pos h0];simp [sizeA]
   rw[if_neg h0];simp;omega
  rw[e];by_cases h2:x.1=13
  ·rw[if_pos h2,QaQ r x.2]
  rw[if_neg h2,Qar,Qc3,QaQ r 0];omega
theorem Qbz (enc:Int) (l:Bytes):sizeA (atoms enc l)=szS (signs enc l):=by
 show sizeA (atomsF 0 (signs enc l))=_;rw[QaQ];omega
theorem QcQ (h:Wh enc l):sizeA (atoms enc l)=l.length:=by
 rw[Qbz];exact (QbV enc l.length l (Z6 _)).1 h
theorem wh_of (h:sizeA (atoms enc l)=l.length):Wh enc l:=by
 rw[Qbz] at h;by_cases hw:Wh enc l
 ·exact hw
 have:=(QbV enc l.length l (Z6 _)).2 hw;omega
theorem Qba {W:Bytes} (j:Nat):b0 (W++T) (W.length+j)=b0 T j:=by
 unfold b0;congr 2;simp [List.getD_eq_getElem?_getD,List.getElem?_append_right]
theorem QeM (h1:128<=b0 l 0) (h2:b0 l 0<=191):utfHead l=(-1,1):=by
 have hr:sqRow (b0 l 0)=1:=by have:=Qbj (b0 l 0);omega
 have hn:sqN 1=2:=rfl
 have h0:allOk l 1 (2 - 1)=false:=by
  have e:allOk l 1 1=(true&&okAt l 1 1):=rfl;show allOk l 1 1=false;rw[e];unfold okAt goesOnB;have l1:sqLeast 1=255:=rfl;have m1:sqMost 1=0:=rfl;rw[l1,m1];by_cases q:(255:Int)<=b0 l 1
  ·simp;omega
  simp;omega
 unfold utfHead;rw[hr,hn,h0];rfl
theorem Qd0 :∀{n:Nat},allOk l r n=true->∀k,1<=k->k<=n->okAt l r k=true
 |0,_,k,h1,h2=>by omega
 |n+1,h,k,h1,h2=>by
  simp only[allOk,Bool.and_eq_true] at h
  by_cases e:k=n+1
  ·subst e;exact h.2
  exact Qd0 h.1 k h1 (by omega)
theorem QfU {k:Nat} (hr:1<=r) (h:okAt l r k=true):k<l.length/\128<=b0 l k/\b0 l k<=191:=by
 unfold okAt at h;simp only[Bool.and_eq_true,decide_eq_true_eq] at h;obtain⟨hl,hg⟩:=h;refine⟨hl,?_⟩;unfold goesOnB at hg;by_cases e:(k:Int)=1
 ·rw[if_pos e] at hg;simp only[Bool.and_eq_true,decide_eq_true_eq] at hg;unfold sqLeast sqMost at hg;split at hg<;>omega
 rw[if_neg e] at hg;simp only[Bool.and_eq_true,decide_eq_true_eq] at hg;omega
theorem Qdk :∀(d:Nat) (T:Bytes),d<=T.length->(∀j,j<d->128<=b0 T j/\b0 T j<=191)->signs 0 T=List.replicate d (-1,1)++signs 0 (T.drop d)
 |0,T,_,_=>by simp
 |d+1,T,hd,h=>by
  have h0:=h 0 (by omega)
  have hx:headSg 0 T=some (-1,1):=by
   unfold headSg;rw[if_neg (by omega),if_pos rfl,QeM h0.1 h0.2]
  rw[Qap hx,List.replicate_succ,List.cons_append];congr 1
  have e:∀j,b0 (T.drop 1) j=b0 T (j+1):=by
   intro j;unfold b0;congr 2;simp [List.getD_eq_getElem?_getD]
  have:=Qdk d (T.drop 1) (by rw[List.length_drop];omega) (fun j hj=>by rw[e];exact h (j+1) (by omega));rw[List.drop_drop] at this;rw[Nat.add_comm d 1];exact this
theorem QgA (enc:Int) (h0:0<=enc) (h3:enc<=3) (T:Bytes):∀(n:Nat) (W:Bytes),W.length<=n->Wh enc W->∃S1 S2 d,d<=3/\d<=T.length/\signs enc (W++T)=S1++signs enc (T.drop d)/\szS S1=W.length+d/\signs enc T=S2++signs enc (T.drop d)/\szS S2=d/\∀x∈S2,x.1 = -1
 |0,W,h,_=>by
  obtain rfl:W=[]:=List.length_eq_zero_iff.1 (by omega)
  exact⟨[],[],0,by omega,by omega,by simp,rfl,by simp,rfl,fun x hx=>by cases hx⟩
 |n+1,W,h,hw=>by
  by_cases hW:W=[]
  ·subst hW
   exact⟨[],[],0,by omega,by omega,by simp,rfl,by simp,rfl,fun x hx=>by cases hx⟩
  have hl1:1<=W.length:=List.length_pos_iff.2 hW
  have hne:headSg enc (W++T)≠none:=by
   unfold headSg;rw[if_neg (by rw[List.length_append];omega)];split
   ·simp
   split
   ·simp
   rw[if_neg (by rw[List.length_append];unfold Wh at hw;omega)];simp
  obtain⟨x,hx⟩:=Option.ne_none_iff_exists'.1 hne;have hle:=QaU hx;rw[List.length_append] at hle;by_cases hin:x.2<=W.length
  ·have hxw:headSg enc W=some x:=by
    have:=QcA hx hin;rwa [List.take_append_of_le_length (Z6 _),List.take_length] at this
   have hev:Wh enc (W.drop x.2):=by
    have:enc=0\/enc=3\/x.2%2=0:=by
     unfold headSg at hxw;split at hxw
     ·cases hxw
     split at hxw
     ·omega
     split at hxw
     ·omega
     split at hxw
     ·cases hxw
     cases hxw;exact .inr (.inr (Qbt enc W))
    unfold Wh at hw ⊢;rw[List.length_drop];omega
   obtain⟨S1,S2,d,g1,g2,g3,g4,g5,g6,g7⟩:=QgA enc h0 h3 T n (W.drop x.2) (by rw[List.length_drop];omega) hev;refine⟨x :: S1,S2,d,g1,g2,?_,?_,g5,g6,g7⟩
   ·rw[Qap hx,List.drop_append_of_le_length hin,g3];rfl
   rw[Qbi,g4,List.length_drop];omega
  refine⟨[x],?_⟩
  have hdl:(W++T).drop x.2=T.drop (x.2 - W.length):=by
   rw[List.drop_append];rw[List.drop_eq_nil_of_le (by omega)];rfl
  have hs1:signs enc (W++T)=[x]++signs enc (T.drop (x.2 - W.length)):=by rw[Qap hx,hdl];rfl
  have hz:szS [x]=W.length+(x.2 - W.length):=by simp [szS];omega
  unfold headSg at hx;rw[if_neg (by rw[List.length_append];omega)] at hx;by_cases e0:enc=0
  ·subst e0;rw[if_pos rfl] at hx;cases hx
   have hcont:∀j,1<=j->j<(utfHead (W++T)).2->j<(W++T).length/\128<=b0 (W++T) j/\b0 (W++T) j<=191:=by
    intro j h1 h2;unfold utfHead at h2;split at h2
    ·rename_i hok
     have hr:1<=sqRow (b0 (W++T) 0):=by
      have hc:=Qbj (b0 (W++T) 0);rcases Nat.eq_zero_or_pos (sqRow (b0 (W++T) 0)) with q|q
      ·rw[q] at h2;have:sqN 0=1:=rfl;simp only[this] at h2;omega
      exact q
     exact QfU hr (Qd0 hok j h1 (by simp only at h2;omega))
    simp only at h2;omega
   refine⟨List.replicate ((utfHead (W++T)).2 - W.length) (-1,1),(utfHead (W++T)).2 - W.length,by omega,by omega,hs1,hz,Qdk _ T (by omega) (fun j hj=>?_),?_,fun y hy=>by rw[List.eq_of_mem_replicate hy]⟩
   ·have:=hcont (W.length+j) (by omega) (by omega);rw[Qba] at this;exact this.2
   simp [szS]
  rw[if_neg e0] at hx;by_cases e3:enc=3
  ·rw[if_pos e3] at hx;cases hx;simp only at hin;omega
  rw[if_neg e3,if_neg (by rw[List.length_append];unfold Wh at hw;omega)] at hx;cases hx
  have hwe:W.length%2=0:=by unfold Wh at hw;omega
  have hev:=Qbt enc (W++T);have h4:(unitHead enc (W++T)).2=4/\W.length=2:=by omega
  have hv:3<(W++T).length/\56320<=unitAt enc (W++T) 2/\unitAt enc (W++T) 2<=57343:=by
   have h44:=h4.1;unfold unitHead at h44;dsimp only at h44;split at h44
   ·rename_i q;exact⟨q.2.2.1,q.2.2.2.1,q.2.2.2.2⟩
   split at h44<;>simp at h44
  have hu:unitAt enc (W++T) 2=unitAt enc T 0:=by
   have a1:=Qba (W:=W) (T:=T) 0;have a2:=Qba (W:=W) (T:=T) 1;rw[h4.2] at a1 a2;unfold unitAt;rw[a1,a2]
  rw[hu] at hv;rw[List.length_append] at hv
  have hh:headSg enc T=some (-1,2):=by
   unfold headSg;rw[if_neg (by omega),if_neg e0,if_neg e3,if_neg (by omega)];unfold unitHead;dsimp only;rw[if_neg (by omega),if_pos (by omega)]
  rw[h4.1,h4.2] at hs1 hz;refine⟨[(-1,2)],2,by omega,by omega,hs1,by rw[h4.2];exact hz,by rw[Qap hh];rfl,rfl,fun y hy=>by simp at hy;rw[hy]⟩
theorem Qcc :∀(S U:List Sg) (h:Nat),heldF h (S++U)=heldF (heldF h S) U
 |[],U,h=>rfl
 |x :: r,U,h=>by
  rw[List.cons_append,heldF,heldF]
  split
  ·exact Qcc r U 0
  split
  ·exact Qcc r U x.2
  exact Qcc r U 0
theorem Qhp :∀(S:List Sg),(∀x∈S,x.1 = -1)->heldF 0 S=0
 |[],_=>rfl
 |x :: r,h=>by
  have hx:=h x (by simp)
  rw[heldF,if_neg (fun q=>absurd q.1 (by decide)),if_neg (by omega)]
  exact Qhp r (fun y hy=>h y (by simp [hy]))
theorem QkF (enc:Int) (h0:0<=enc) (h3:enc<=3) (W T:Bytes) (hw:Wh enc W):∃A1 A2 d,d<=7/\d<=T.length/\atoms enc (W++T)=A1++atoms enc (T.drop d)/\sizeA A1=W.length+d/\atoms enc T=A2++atoms enc (T.drop d)/\sizeA A2=d:=by
 obtain⟨S1,S2,d,g1,g2,g3,g4,g5,g6,g7⟩:=QgA enc h0 h3 T W.length W (Z6 _) hw;have hh2:=Qhp S2 g7;by_cases hj:heldF 0 S1=0\/∀x r,signs enc (T.drop d)=x :: r->x.1≠10
 ·refine⟨atomsF 0 S1,atomsF 0 S2,d,by omega,g2,?_,by rw[QaQ];omega,?_,by rw[QaQ];omega⟩
  ·show atomsF 0 (signs enc (W++T))=_;rw[g3,Qby _ _ _ hj];rfl
  show atomsF 0 (signs enc T)=_;rw[g5,Qby _ _ _ (.inl hh2)];rfl
 have hk:0<heldF 0 S1:=by
  rcases Nat.eq_zero_or_pos (heldF 0 S1) with q|q
  ·exact absurd (.inl q) hj
  exact q
 obtain⟨x,r,hU,hx⟩:∃x r,signs enc (T.drop d)=x :: r/\x.1=10:=by
  apply Classical.byContradiction;intro hn;exact hj (.inr (fun x r e q=>hn ⟨x,r,e,q⟩))
 obtain⟨hx1,hr⟩:=Qah hU;have hle:=QaU hx1;rw[List.length_drop] at hle;rw[List.drop_drop] at hr;refine⟨atomsF 0 (S1++[x]),atomsF 0 (S2++[x]),d+x.2,by omega,by omega,?_,?_,?_,?_⟩
 ·show atomsF 0 (signs enc (W++T))=_;rw[g3,hU,QfD _ _ _ _ hk hx,<-hr];rfl
 ·rw[QaQ];have:szS (S1++[x])=szS S1+x.2:=by simp [szS]
  omega
 ·show atomsF 0 (signs enc T)=_;have e:S2++x :: r=(S2++[x])++r:=by simp
  have hz:heldF 0 (S2++[x])=0:=by
   rw[Qcc,hh2,heldF,if_neg (fun q=>absurd q.1 (by decide)),if_neg (by omega)];rfl
  rw[g5,hU,e,Qby _ _ _ (.inl hz),<-hr];rfl
 rw[QaQ];have:szS (S2++[x])=szS S2+x.2:=by simp [szS]
 omega
theorem Qgh :∀{S1 S2:List Sg} {l r:Bytes},signs enc (l++r)=S1++S2->szS S1+4<=l.length->signs enc l=S1++signs enc (l.drop (szS S1))
 |[],S2,l,r,_,_=>by simp [szS]
 |x :: S1,S2,l,r,h,hk=>by
  rw[Qbi] at hk ⊢
  obtain⟨hx,hr⟩:=Qah (h:signs enc (l++r)=x :: (S1++S2))
  rw[QcM _ _ _ (by omega)] at hx
  rw[List.drop_append_of_le_length (by omega)] at hr
  rw[Qap hx,Qgh hr (by rw[List.length_drop];omega),List.drop_drop];rfl
theorem QkJ {r:Bytes} (h:A0 <+: atoms enc (l++r)) (hk:sizeA A0+4<=l.length):A0 <+: atoms enc l:=by
 obtain⟨A1,hA⟩:=h;obtain⟨S1,S2,e1,e2,e3,e4,e5⟩:=Qa9 (signs enc (l++r)) 0 A0 A1 hA.symm (.inl rfl);obtain⟨c1,c2⟩:=QdP e1;rw[Nat.zero_add] at e4;rw[<-e4] at hk;have hs:=Qgh e1 hk
 have hd:headSg enc ((l++r).drop (szS S1))=headSg enc (l.drop (szS S1)):=by
  rw[List.drop_append_of_le_length (by omega)];exact QcM _ _ _ (by rw[List.length_drop];omega)
 have:=e5 (signs enc (l.drop (szS S1))) (by
  rw[<-c2,QbE,QbE enc ((l++r).drop (szS S1)),hd]
  cases headSg enc (l.drop (szS S1))<;>rfl)
 exact⟨_,by show _=atomsF 0 (signs enc l);rw[hs];exact this.symm⟩
theorem sizeA_append' (A B:List At):sizeA (A++B)=sizeA A+sizeA B:=by simp [sizeA]
theorem Qeu (h:∀a∈A,AtOk a) (hz:sizeA A=0):A=[]:=by
 cases A with
 |nil=>rfl
 |cons a A =>
  rw[Qar] at hz;have:=(h a (by simp)).2.2.2.2.2.2.1;omega
theorem Qh3 (h0:0<=enc) (h3:enc<=3) {lb M1 M2 rb:Bytes} (b1:atoms enc (lb++(M1++(X++(M2++rb))))=atoms enc lb++atoms enc (M1++(X++(M2++rb)))) (b3:atoms enc (M2++rb)=atoms enc M2++atoms enc rb)
  (wl:Wh enc lb) (w1:Wh enc M1) (wp:Wh enc put) (w2:Wh enc M2) (nl:lb=[]\/4<=M1.length) (nr:rb=[]\/7<=M2.length) :
  atoms enc (lb++(M1++(put++(M2++rb))))=atoms enc lb++(atoms enc (M1++(put++M2))++atoms enc rb):=by
 have left:atoms enc (lb++(M1++(put++(M2++rb))))=atoms enc lb++atoms enc (M1++(put++(M2++rb))):=by
  rcases nl with rfl|nl
  ·have:atoms enc []=[]:=by show atomsF 0 (signs enc [])=[];rw[QaB];rfl
   rw[this];rfl
  have hp:atoms enc lb <+: atoms enc ((lb++M1)++(X++(M2++rb))):=by
   rw[List.append_assoc,b1];exact⟨_,rfl⟩
  have hsz:=QcQ wl;have h1:=QkJ hp (by rw[hsz,List.length_append];omega);have h2:=Qen (r:=put++(M2++rb)) h1 (by rw[hsz,List.length_append];omega);rw[hsz,List.append_assoc,List.drop_append_of_le_length (Z6 _),List.drop_length,List.nil_append] at h2;exact h2
 rw[left]
 congr 1
 rcases nr with rfl|nr
 ·have:atoms enc []=[]:=by show atomsF 0 (signs enc [])=[];rw[QaB];rfl
  rw[this];simp
 have e:M1++(put++(M2++rb))=(M1++put)++(M2++rb):=by simp
 obtain⟨A1,A2,d,g1,g2,g3,g4,g5,g6⟩:=QkF enc h0 h3 (M1++put) (M2++rb) (w1.append wp)
 have hm:=QcQ w2
 obtain⟨A3,h3'⟩:A2 <+: atoms enc M2:=by
  have p1:A2 <+: atoms enc (M2++rb):=by rw[g5];exact⟨_,rfl⟩
  have p2:atoms enc M2 <+: atoms enc (M2++rb):=by rw[b3];exact⟨_,rfl⟩
  rcases List.prefix_or_prefix_of_prefix p1 p2 with q|q
  ·exact q
  obtain⟨B,hB⟩:=q;have hs:=congrArg sizeA hB;rw[sizeA_append'] at hs;have hz:B=[]:=Qeu (fun a ha=>Qao enc (M2++rb) a (p1.subset (by rw[<-hB];simp [ha]))) (by omega);subst hz;rw[<-hB,List.append_nil];exact⟨[],by simp⟩
 have hT:atoms enc ((M2++rb).drop d)=A3++atoms enc rb:=by
  have:=g5.symm.trans b3;rw[<-h3',List.append_assoc] at this;exact List.append_cancel_left this
 rw[e,g3,hT,<-List.append_assoc]
 congr 1
 have hs3:=congrArg sizeA h3'
 rw[sizeA_append'] at hs3
 have hp:A1++A3 <+: atoms enc ((M1++put)++(M2++rb)):=by rw[g3,hT,<-List.append_assoc];exact⟨_,rfl⟩
 have hc:=(QaC hp).1
 have hl:sizeA (A1++A3)=((M1++put)++M2).length:=by rw[sizeA_append',List.length_append];omega
 rw[hl,<-List.append_assoc,List.take_append_of_le_length (Z6 _),List.take_length] at hc
 rw[<-hc];simp
theorem QiZ {B C:List At} (hC:∀a∈C,AtOk a) (h1:A <+: C) (h2:B <+: C) (h:sizeA A<=sizeA B):A <+: B:=by
 rcases List.prefix_or_prefix_of_prefix h1 h2 with q|q
 ·exact q
 obtain⟨D,hD⟩:=q;have hs:=congrArg sizeA hD;rw[sizeA_append'] at hs;have hz:D=[]:=Qeu (fun a ha=>hC a (h1.subset (by rw[<-hD];simp [ha]))) (by omega);subst hz;rw[<-hD,List.append_nil];exact List.prefix_refl _
theorem QcR (h:A0 <+: atoms enc L):Wh enc (L.take (sizeA A0)):=by
 have h1:=(QaC h).1;have h2:=QaE h;exact wh_of (by rw[h1,List.length_take];omega)
theorem QkQ (h0:0<=enc) (h3:enc<=3) {Aa Ab1 Aa2 Ab:List At} {f g:Nat} (e1:atoms enc L=Aa++Ab1) (e2:atoms enc L=Aa2++Ab) (wL:sizeA (atoms enc L)=L.length)
  (bf:∃A0,A0 <+: atoms enc L/\sizeA A0=f) (bg:∃A0,A0 <+: atoms enc L/\sizeA A0=g) (hfg:f<=g) (wp:Wh enc put) (nl:sizeA Aa=0\/sizeA Aa+500<=f) (nr:sizeA Ab=0\/g+500<=sizeA Aa2) :
  sizeA Aa<=f/\g<=sizeA Aa2/\sizeA Aa2<=L.length/\Wh enc ((L.take f).drop (sizeA Aa)++(put++(L.take (sizeA Aa2)).drop g)) /\
  L.take f++(put++L.drop g)=L.take (sizeA Aa)++(((L.take f).drop (sizeA Aa)++(put++(L.take (sizeA Aa2)).drop g))++L.drop (sizeA Aa2)) /\
  atoms enc (L.take f++(put++L.drop g))=Aa++(atoms enc ((L.take f).drop (sizeA Aa)++(put++(L.take (sizeA Aa2)).drop g))++Ab):=by
 obtain⟨Af,pf,hf⟩:=bf
 obtain⟨Ag,pg,hg⟩:=bg
 have hok:=Qao enc L
 have pa:Aa <+: atoms enc L:=by rw[e1];exact⟨_,rfl⟩
 have pa2:Aa2 <+: atoms enc L:=by rw[e2];exact⟨_,rfl⟩
 have hgl:g<=L.length:=by have:=QaE pg;omega
 have hal:=QaE pa2
 have hsum:sizeA Aa2+sizeA Ab=L.length:=by rw[<-wL,e2,sizeA_append']
 have hla:sizeA Aa<=f:=by omega
 have hra:g<=sizeA Aa2:=by omega
 have wa:=QcR pa
 have wa2:=QcR pa2
 have wf:=QcR pf
 have wg:=QcR pg
 rw[hf] at wf
 rw[hg] at wg
 have haL:=QaE pa
 obtain⟨la,hla'⟩:∃la,la=sizeA Aa:=⟨_,rfl⟩
 obtain⟨ra,hra'⟩:∃ra,ra=sizeA Aa2:=⟨_,rfl⟩
 rw[<-hla'] at hla wa haL nl ⊢
 rw[<-hra'] at hra wa2 hal nr hsum ⊢
 have l1:((L.take f).drop la).length=f - la:=by rw[List.length_drop,List.length_take];omega
 have l2:((L.take ra).drop g).length=ra - g:=by rw[List.length_drop,List.length_take];omega
 have w1:Wh enc ((L.take f).drop la):=by
  unfold Wh at wa wf ⊢;rw[List.length_take] at wa wf;rw[l1];omega
 have w2:Wh enc ((L.take ra).drop g):=by
  unfold Wh at wg wa2 ⊢;rw[List.length_take] at wg wa2;rw[l2];omega
 have s1:L.take la++(L.take f).drop la=L.take f:=by
  have:=List.take_append_drop la (L.take f);rwa [List.take_take,Nat.min_eq_left hla] at this
 have s2:(L.take ra).drop g++L.drop ra=L.drop g:=by
  have:=List.drop_append_of_le_length (l₁:=L.take ra) (l₂:=L.drop ra) (i:=g) (by rw[List.length_take];omega);rw[List.take_append_drop] at this;exact this.symm
 have hnew:L.take f++(put++L.drop g)=L.take la++(((L.take f).drop la++(put++(L.take ra).drop g))++L.drop ra):=by
  rw[<-s2];conv=>lhs;rw[<-s1]
  simp only[List.append_assoc]
 refine⟨hla,hra,hal,w1.append (wp.append w2),hnew,?_⟩
 obtain⟨ca1,ca2⟩:=QaC pa
 rw[<-hla'] at ca1 ca2
 have b1:atoms enc (L.take la++((L.take f).drop la++((L.take g).drop f++((L.take ra).drop g++L.drop ra))))=atoms enc (L.take la)++atoms enc ((L.take f).drop la++((L.take g).drop f++((L.take ra).drop g++L.drop ra))):=by
  have e:(L.take f).drop la++((L.take g).drop f++((L.take ra).drop g++L.drop ra))=L.drop la:=by
   rw[s2]
   have h1:(L.take g).drop f++L.drop g=L.drop f:=by
    have:=List.drop_append_of_le_length (l₁:=L.take g) (l₂:=L.drop g) (i:=f) (by rw[List.length_take];omega);rw[List.take_append_drop] at this;exact this.symm
   rw[h1];have:=List.drop_append_of_le_length (l₁:=L.take f) (l₂:=L.drop f) (i:=la) (by rw[List.length_take];omega);rw[List.take_append_drop] at this;exact this.symm
  rw[e,List.take_append_drop,ca1];exact ca2
 have b3:atoms enc ((L.take ra).drop g++L.drop ra)=atoms enc ((L.take ra).drop g)++atoms enc (L.drop ra):=by
  obtain⟨cg1,cg2⟩:=QaC pg;obtain⟨cr1,cr2⟩:=QaC pa2;rw[hg] at cg2;rw[<-hra'] at cr1 cr2;obtain⟨C,hC⟩:=QiZ hok pg pa2 (by omega);have hsC:sizeA C=ra - g:=by have:=congrArg sizeA hC;rw[sizeA_append'] at this;omega
  have hd:atoms enc (L.drop g)=C++atoms enc (L.drop ra):=by
   have:=cg2.symm.trans cr2;rw[<-hC,List.append_assoc] at this;exact List.append_cancel_left this
  rw[s2,hd];congr 1;have hp:C <+: atoms enc (L.drop g):=by rw[hd];exact⟨_,rfl⟩
  have:=(QaC hp).1;rw[hsC,<-List.drop_take] at this;exact this.symm
 have key:=Qh3 h0 h3 (put:=put) b1 b3 wa w1 wp w2 (by
  rcases nl with q|q
  ·left;rw[q];rfl
  ·right;rw[l1];omega) (by
  rcases nr with q|q
  ·left;exact List.drop_eq_nil_of_le (by omega)
  right;rw[l2];omega)
 obtain⟨_,cr2⟩:=QaC pa2
 rw[<-hra'] at cr2
 have hAb:atoms enc (L.drop ra)=Ab:=(List.append_cancel_left (e2.symm.trans cr2)).symm
 rw[hAb,ca1] at key
 rw[hnew,<-key]
 simp only[List.append_assoc]
def nb (l:List Int):Bytes:=l.map (fun n=>UInt8.ofNat n.toNat)
theorem Qbd (a b:List Int):nb (a++b)=nb a++nb b:=by simp [nb]
theorem Qca (a:List Int):(nb a).length=a.length:=by simp [nb]
def unitL (enc u:Int):List Int:=if enc=1 then [u%256,u / 256] else [u / 256,u%256]
def wrL (enc n:Int):List Int:=if enc=0 then utfL n else if enc=3 then [n%256] else if 65535<n then unitL enc (55296+(n - 65536) / 1024)++unitL enc (56320+(n - 65536)%1024) else unitL enc n
def endL (enc kind:Int):List Int:=if kind=0 then wrL enc 10 else if kind=2 then wrL enc 13 else wrL enc 13++wrL enc 10
theorem Qas (enc u:Int):(unitL enc u).length=2:=by unfold unitL;split<;>rfl
theorem b0_nb {l:List Int} {r:Bytes} (h:l[i]?=some n) (h0:0<=n) (h1:n<=255):b0 (nb l++r) i=n:=by
 have hi:i<l.length:=by
  rcases Nat.lt_or_ge i l.length with q|q
  ·exact q
  rw[List.getElem?_eq_none q] at h;cases h
 have e:(nb l++r)[i]?=some (UInt8.ofNat n.toNat):=by
  rw[List.getElem?_append_left (by rw[Qca];exact hi)];simp [nb,h]
 unfold b0;rw[List.getD_eq_getElem?_getD,e];simp only[Option.getD_some];have:(UInt8.ofNat n.toNat).toNat=n.toNat%256:=by simp
 rw[this];omega
theorem QiI (hv:validB n=true) (r:Bytes):utfHead (nb (utfL n)++r)=(n,utfLen n):=by
 have hv':=hv;rw[Qag] at hv;rw[QdF];have hl:(nb (utfL n)++r).length=utfLen n+r.length:=by rw[List.length_append,Qca,QaS]
 have hc:=Qaa n;have hk0:utfLen n≠0:=by omega
 refine Qg5 hk0 ?_;rcases hc with ⟨c1,c2⟩|⟨c1,c1',c2⟩|⟨c1,c1',c2⟩|⟨c1,c2⟩
 ·have u:utfL n=[n]:=by unfold utfL;rw[if_pos c1]
  have b:b0 (nb (utfL n)++r) 0=n:=b0_nb (by rw[u];rfl) (by omega) (by omega);generalize nb (utfL n)++r=l at *
  have hp:rpart l 1=n:=by
   show rn0 (b0 l 0)=n;have:=Qb2 (b0 l 0);omega
  rw[c2];have:=QbD (l:=l) (k:=1) (by have:=Qb5 (b0 l 0);omega) (by decide) rfl (by rw[hp];exact hv') (by rw[hp];exact c2);rw[this,hp]
 ·have u:utfL n=[192+n / 64,128+n%64]:=by unfold utfL;rw[if_neg (by omega),if_pos c1']
  have b:b0 (nb (utfL n)++r) 0=192+n / 64:=b0_nb (by rw[u];rfl) (by omega) (by omega);have b1:b0 (nb (utfL n)++r) 1=128+n%64:=b0_nb (by rw[u];rfl) (by omega) (by omega);generalize nb (utfL n)++r=l at *
  have hp:rpart l 2=n:=by
   rw[Qa7 l 1 (by decide)];show 64 * rn0 (b0 l 0)+b0 l 1 - 128=n;have:=Qb2 (b0 l 0);omega
  rw[c2];have:=QbD (l:=l) (k:=2) (by have:=Qb5 (b0 l 0);omega) (by decide) ((rok1 l).2 (by omega)) (by rw[hp];exact hv') (by rw[hp];exact c2);rw[this,hp]
 ·have u:utfL n=[224+n / 4096,128+n / 64%64,128+n%64]:=by unfold utfL;rw[if_neg (by omega),if_neg (by omega),if_pos c1']
  have b:b0 (nb (utfL n)++r) 0=224+n / 4096:=b0_nb (by rw[u];rfl) (by omega) (by omega);have b1:b0 (nb (utfL n)++r) 1=128+n / 64%64:=b0_nb (by rw[u];rfl) (by omega) (by omega);have b2:b0 (nb (utfL n)++r) 2=128+n%64:=b0_nb (by rw[u];rfl) (by omega) (by omega);generalize nb (utfL n)++r=l at *
  have hp:rpart l 3=n:=by
   rw[Qa7 l 2 (by decide),Qa7 l 1 (by decide)];show 64 * (64 * rn0 (b0 l 0)+b0 l 1 - 128)+b0 l 2 - 128=n;have:=Qb2 (b0 l 0);omega
  rw[c2];have:=QbD (l:=l) (k:=3) (by have:=Qb5 (b0 l 0);omega) (by decide) ((rok2 l).2 (by omega)) (by rw[hp];exact hv') (by rw[hp];exact c2);rw[this,hp]
 have u:utfL n=[240+n / 262144,128+n / 4096%64,128+n / 64%64,128+n%64]:=by unfold utfL;rw[if_neg (by omega),if_neg (by omega),if_neg (by omega)]
 have b:b0 (nb (utfL n)++r) 0=240+n / 262144:=b0_nb (by rw[u];rfl) (by omega) (by omega);have b1:b0 (nb (utfL n)++r) 1=128+n / 4096%64:=b0_nb (by rw[u];rfl) (by omega) (by omega);have b2:b0 (nb (utfL n)++r) 2=128+n / 64%64:=b0_nb (by rw[u];rfl) (by omega) (by omega);have b3:b0 (nb (utfL n)++r) 3=128+n%64:=b0_nb (by rw[u];rfl) (by omega) (by omega);generalize nb (utfL n)++r=l at *
 have hp:rpart l 4=n:=by
  rw[Qa7 l 3 (by decide),Qa7 l 2 (by decide),Qa7 l 1 (by decide)];show 64 * (64 * (64 * rn0 (b0 l 0)+b0 l 1 - 128)+b0 l 2 - 128)+b0 l 3 - 128=n;have:=Qb2 (b0 l 0);omega
 rw[c2];have:=QbD (l:=l) (k:=4) (by have:=Qb5 (b0 l 0);omega) (by decide) ((rok3 l).2 (by omega)) (by rw[hp];exact hv') (by rw[hp];exact c2);rw[this,hp]
theorem Qcq {u:Int} (he:enc=1\/enc=2) (h0:0<=u) (h1:u<=65535) (r:Bytes):unitAt enc (nb (unitL enc u)++r) 0=u:=by
 rcases he with rfl|rfl
 ·have b:b0 (nb (unitL 1 u)++r) 0=u%256:=b0_nb rfl (by omega) (by omega);have b1:b0 (nb (unitL 1 u)++r) 1=u / 256:=b0_nb rfl (by omega) (by omega);rw[Qfa,b,b1];omega
 have b:b0 (nb (unitL 2 u)++r) 0=u / 256:=b0_nb rfl (by omega) (by omega);have b1:b0 (nb (unitL 2 u)++r) 1=u%256:=b0_nb rfl (by omega) (by omega);rw[Qhc,b,b1];omega
theorem Qja {u:Int}:unitAt enc (nb (unitL enc u)++l) 2=unitAt enc l 0:=by
 have a:=Qba (W:=nb (unitL enc u)) (T:=l) 0;have b:=Qba (W:=nb (unitL enc u)) (T:=l) 1;rw[Qca,Qas] at a b;unfold unitAt;rw[a,b]
theorem Qmj (h0:0<=enc) (h3:enc<=3) (hv:validB n=true) (hl:enc=3->n<=255) (r:Bytes):headSg enc (nb (wrL enc n)++r)=some (n,(wrL enc n).length):=by
 have hn:=(Qag n).1 hv;have hc:enc=0\/enc=3\/(enc=1\/enc=2):=by omega
 rcases hc with rfl|rfl|hc
 ·have e:wrL 0 n=utfL n:=rfl
  have hz:(nb (utfL n)++r).length≠0:=by
   rw[List.length_append,Qca,QaS];have:=Qaa n;omega
  rw[e,QaS];unfold headSg;rw[if_neg hz,if_pos rfl,QiI hv]
 ·have e:wrL 3 n=[n%256]:=rfl;have hm:n%256=n:=by have:=hl rfl;omega
  rw[e,hm];have b:b0 (nb [n]++r) 0=n:=b0_nb rfl (by omega) (by have:=hl rfl;omega);unfold headSg;rw[if_neg (by simp [nb]),if_neg (by decide),if_pos rfl,b];rfl
 have g0:¬enc=0:=by omega
 have g3:¬enc=3:=by omega
 by_cases hb:65535<n
 ·have e:wrL enc n=unitL enc (55296+(n - 65536) / 1024)++unitL enc (56320+(n - 65536)%1024):=by unfold wrL;rw[if_neg g0,if_neg g3,if_pos hb]
  have el:(wrL enc n).length=4:=by rw[e,List.length_append,Qas,Qas]
  have e2:nb (wrL enc n)++r=nb (unitL enc (55296+(n - 65536) / 1024))++(nb (unitL enc (56320+(n - 65536)%1024))++r):=by rw[e,Qbd,List.append_assoc]
  have hlen:(nb (wrL enc n)++r).length=4+r.length:=by rw[List.length_append,Qca,el]
  rw[el];have u0:=Qcq hc (u:=55296+(n - 65536) / 1024) (by omega) (by omega) (nb (unitL enc (56320+(n - 65536)%1024))++r);have u1:=Qja (enc:=enc) (u:=55296+(n - 65536) / 1024) (l:=nb (unitL enc (56320+(n - 65536)%1024))++r);rw[Qcq hc (by omega) (by omega)] at u1;rw[<-e2] at u0 u1;unfold headSg;rw[if_neg (by omega),if_neg g0,if_neg g3,if_neg (by omega)];unfold unitHead;dsimp only;rw[u0,u1,if_pos (by omega)];congr 2;omega
 have e:wrL enc n=unitL enc n:=by unfold wrL;rw[if_neg g0,if_neg g3,if_neg hb]
 have el:(wrL enc n).length=2:=by rw[e,Qas]
 have u0:=Qcq hc (u:=n) (by omega) (by omega) r;have hlen:(nb (unitL enc n)++r).length=2+r.length:=by rw[List.length_append,Qca,Qas]
 rw[el,e];unfold headSg;rw[if_neg (by omega),if_neg g0,if_neg g3,if_neg (by omega)];unfold unitHead;dsimp only;rw[u0,if_neg (by omega),if_neg (by omega)]
theorem QcE (h0:0<=enc) (h3:enc<=3) (hv:validB n=true) (hl:enc=3->n<=255) (r:Bytes):signs enc (nb (wrL enc n)++r)=(n,(wrL enc n).length) :: signs enc r:=by
 rw[Qap (Qmj h0 h3 hv hl r)];congr 2;simp only;rw[<-Qca,List.drop_left]
def us (enc:Int):Nat:=if enc=0\/enc=3 then 1 else 2
theorem wr_us (h0:0<=enc) (h3:enc<=3) (hn:n=10\/n=13):(wrL enc n).length=us enc:=by
 have hc:enc=0\/enc=1\/enc=2\/enc=3:=by omega
 rcases hc with rfl|rfl|rfl|rfl<;>rcases hn with rfl|rfl<;>rfl
def sgA (u:Nat) (x:At):List Sg:=if x.1=0 then [(10,u)] else if x.1=1 then [(13,u),(10,u)] else if x.1=2 then [(13,u)] else if x.1=4 then [(-1,x.2.2)] else [(x.2.1,x.2.2)]
def AtSh (u:Nat) (x:At):Prop:=x=(0,10,u)\/x=(1,10,u+u)\/x=(2,10,u)\/(x.1=3/\x.2.1≠10/\x.2.1≠13/\x.2.1≠-1)\/(x.1=4/\x.2.1=65533)
def NJ:List At->Prop
 |[]=>True
 |x :: r=>(x.1=2->∀y s,r=y :: s->y.1≠0)/\NJ r
theorem QfE (hu:0<u):∀(A:List At),NJ A->(∀x∈A,AtSh u x)->atomsF 0 (A.flatMap (sgA u))=A
 |[],_,_=>rfl
 |x :: A,hj,hs=>by
  have ih:=QfE hu A hj.2 (fun y hy=>hs y (by simp [hy]))
  rw[List.flatMap_cons]
  rcases hs x (by simp) with rfl|rfl|rfl|⟨e,e1,e2,e3⟩|⟨e,e1⟩
  ·rw[show sgA u (0,10,u)=[(10,u)] from rfl,List.singleton_append,atomsF,if_neg (by simp),if_neg (by simp),if_neg (by simp),ih];rfl
  ·rw[show sgA u (1,10,u+u)=[(13,u),(10,u)] from rfl,List.cons_append,List.singleton_append,atomsF,if_neg (by simp),if_neg (by simp),if_pos rfl,atomsF,if_pos ⟨hu,rfl⟩,ih];rfl
  ·rw[show sgA u (2,10,u)=[(13,u)] from rfl,List.singleton_append,atomsF,if_neg (by simp),if_neg (by simp),if_pos rfl,List.nil_append]
   have hh:=hj.1 rfl
   cases A with
   |nil=>simp [atomsF,hu]
   |cons y B =>
    have hy:=hh y B rfl
    rw[List.flatMap_cons] at ih ⊢
    have hc:∃z Z,sgA u y=z :: Z/\z.1≠10:=by
     rcases hs y (by simp) with rfl|rfl|rfl|⟨e,e1,e2,e3⟩|⟨e,e1⟩
     ·exact absurd rfl hy
     ·exact⟨_,_,rfl,by simp⟩
     ·exact⟨_,_,rfl,by simp⟩
     ·refine⟨(y.2.1,y.2.2),[],?_,e1⟩;unfold sgA;rw[e];rfl
     refine⟨(-1,y.2.2),[],?_,by simp⟩;unfold sgA;rw[e];rfl
    obtain⟨z,Z,hz,hz1⟩:=hc;rw[hz] at ih ⊢;rw[List.cons_append] at ih ⊢;rw[atomsF,if_neg (fun q=>hz1 q.2),if_pos hu];rw[atomsF,if_neg (by simp)] at ih;simp only[Nat.lt_irrefl,if_false,List.nil_append] at ih;rw[ih];rfl
  ·obtain⟨a,b,c⟩:=x;simp only at e e1 e2 e3;subst e;rw[show sgA u (3,b,c)=[(b,c)] from rfl,List.singleton_append,atomsF,if_neg (by simp),if_neg (by simp),if_neg e2,ih];show singleA (b,c) :: A=_;unfold singleA;simp only;rw[if_neg e3,if_neg e1]
  obtain⟨a,b,c⟩:=x;simp only at e e1;subst e e1;rw[show sgA u (4,65533,c)=[(-1,c)] from rfl,List.singleton_append,atomsF,if_neg (by simp),if_neg (by simp),if_neg (by simp),ih];rfl
theorem Qjm {h:Nat} (hh:0<h):∀(S:List Sg),∃y B,atomsF h S=y :: B/\y.1≠0
 |[]=>⟨_,_,by rw[atomsF,if_pos hh],by simp⟩
 |x :: r=>by
  rw[atomsF]
  by_cases q:0<h/\x.1=10
  ·rw[if_pos q];exact⟨_,_,rfl,by simp⟩
  rw[if_neg q,if_pos hh];exact⟨_,_,rfl,by simp⟩
theorem Qdu (x:Sg):(singleA x).1≠2/\(x.1≠10->(singleA x).1≠0):=by
 unfold singleA;by_cases h:x.1 = -1
 ·rw[if_pos h];simp
 rw[if_neg h];by_cases h':x.1=10
 ·rw[if_pos h'];exact⟨by simp,fun q=>absurd h' q⟩
 rw[if_neg h'];simp
theorem Qcj :∀(S:List Sg) (h:Nat),(∀x∈S,1<=x.2)->NJ (atomsF h S)
 |[],h,_=>by
  rw[atomsF]
  split
  ·exact⟨fun _ y s e=>(by cases e),trivial⟩
  trivial
 |x :: r,h,hS=>by
  have hr:∀y∈r,1<=y.2:=fun y hy=>hS y (by simp [hy])
  have hx:=hS x (by simp)
  rw[atomsF]
  by_cases q:0<h/\x.1=10
  ·rw[if_pos q];exact⟨fun e=>by simp at e,Qcj r 0 hr⟩
  rw[if_neg q]
  by_cases hh:0<h
  ·have h10:x.1≠10:=fun e=>q ⟨hh,e⟩
   rw[if_pos hh]
   by_cases h13:x.1=13
   ·rw[if_pos h13]
    obtain⟨y,B,e,hy⟩:=Qjm (h:=x.2) (by omega) r
    refine⟨fun _ z s ez=>?_,Qcj r x.2 hr⟩
    have:y :: B=z :: s:=e.symm.trans ez
    injection this with e1 e2
    rw[<-e1];exact hy
   rw[if_neg h13]
   refine⟨fun _ z s ez=>?_,fun e=>?_,Qcj r 0 hr⟩
   ·injection ez with e1 e2
    rw[<-e1];exact (Qdu x).2 h10
   exact absurd e (Qdu x).1
  rw[if_neg hh]
  by_cases h13:x.1=13
  ·rw[if_pos h13];exact Qcj r x.2 hr
  rw[if_neg h13]
  exact⟨fun e=>absurd e (Qdu x).1,Qcj r 0 hr⟩
theorem Qil (enc:Int) (l:Bytes):∀x∈signs enc l,1<=x.2:=fun x hx=>(QdO enc _ l x hx).1
theorem Qnc (enc:Int) (l:Bytes):NJ (atoms enc l):=Qcj _ 0 (Qil enc l)
theorem Qd3 :∀(S:List Sg) (h:Nat),(h=0\/h=u)->(∀x∈S,(x.1=10\/x.1=13)->x.2=u)->∀a∈atomsF h S,AtSh u a
 |[],h,hh,_,a,ha=>by
  rw[atomsF] at ha
  split at ha
  ·simp only[List.mem_singleton] at ha
   subst ha
   have:h=u:=by omega
   subst this
   exact .inr (.inr (.inl rfl))
  cases ha
 |x :: r,h,hh,hS,a,ha=>by
  have hr:∀y∈r,(y.1=10\/y.1=13)->y.2=u:=fun y hy=>hS y (by simp [hy])
  have hx:=hS x (by simp)
  rw[atomsF] at ha
  by_cases q:0<h/\x.1=10
  ·rw[if_pos q] at ha
   rcases List.mem_cons.1 ha with rfl|ha
   ·have h1:=hx (.inl q.2)
    have:h=u:=by omega
    subst this
    rw[h1]
    exact .inr (.inl rfl)
   exact Qd3 r 0 (.inl rfl) hr a ha
  rw[if_neg q] at ha
  rcases List.mem_append.1 ha with ha|ha
  ·split at ha
   ·simp only[List.mem_singleton] at ha
    subst ha
    have:h=u:=by omega
    subst this
    exact .inr (.inr (.inl rfl))
   cases ha
  split at ha
  ·rename_i h13
   exact Qd3 r x.2 (.inr (hx (.inr h13))) hr a ha
  rename_i h13
  rcases List.mem_cons.1 ha with rfl|ha
  ·unfold singleA
   split
   ·exact .inr (.inr (.inr (.inr ⟨rfl,rfl⟩)))
   rename_i hm
   split
   ·rename_i h10
    rw[hx (.inl h10)];exact .inl rfl
   rename_i h10
   exact .inr (.inr (.inr (.inl ⟨rfl,h10,h13,hm⟩)))
  exact Qd3 r 0 (.inl rfl) hr a ha
theorem Qdy :∀{L:List Int} {l:Bytes},L.length<=l.length->(∀i,i<L.length->L[i]?=some (b0 l i))->l.take L.length=nb L
 |[],l,_,_=>rfl
 |n :: L,[],h,_=>by simp at h
 |n :: L,x :: l,h,hb=>by
  have h0:=hb 0 (by simp)
  have e0:n=(x.toNat:Int):=by simpa [b0] using h0
  have ih:=Qdy (L:=L) (l:=l) (by simpa using h) (fun i hi=>by
   have:=hb (i+1) (by simpa using hi)
   simpa [b0] using this)
  show x :: l.take L.length=UInt8.ofNat n.toNat :: nb L
  rw[ih,e0]
  congr 1
  simp
theorem QjO {n:Nat} (hl0:0<l.length) (h:utfHead l=(c,n)) (hc:c≠-1):l.take n=nb (utfL c)/\n=(utfL c).length:=by
 rw[QdF] at h;unfold refSg at h;split at h
 ·injection h with e1 e2;exact absurd e1.symm hc
 rename_i hz;have hb:=b0_bd l 0;have hk:=Qb5 (b0 l 0);have hn0:=Qb2 (b0 l 0);unfold utfRef at h hz;split at h
 ·rename_i q;simp [q] at hz
 rename_i hk0;split at h
 ·rename_i q;simp [q,hk0] at hz
 rename_i hok;split at h
 ·rename_i q;simp [q,hk0,hok] at hz
 rename_i hv;split at h
 ·rename_i hlen;have hok':rok l (rk (b0 l 0) - 1)=true:=by simpa using hok
  injection h with e1 e2
  rw[e1] at hlen;rw[e2] at hlen hok' e1;have hul:(utfL c).length=n:=by rw[QaS];exact hlen
  refine⟨?_,hul.symm⟩;have hcs:=Qaa c;have hn:n=1\/n=2\/n=3\/n=4:=by omega
  rw[<-hul];rcases hn with rfl|rfl|rfl|rfl
  ·have e:c=rn0 (b0 l 0):=e1.symm;have u:utfL c=[c]:=by unfold utfL;rw[if_pos (by omega)]
   refine Qdy (by omega) (fun i hi=>?_);rw[u] at hi ⊢;have:i=0:=by simpa using hi
   subst this;show some c=_;refine congrArg some ?_;omega
  ·have hr:=(rok1 l).1 hok';have e:c=64 * rn0 (b0 l 0)+b0 l 1 - 128:=e1.symm;have u:utfL c=[192+c / 64,128+c%64]:=by unfold utfL;rw[if_neg (by omega),if_pos (by omega)]
   refine Qdy (by omega) (fun i hi=>?_);rw[u] at hi ⊢;have:i=0\/i=1:=by simp at hi;omega
   rcases this with rfl|rfl
   ·show some (192+c / 64)=_;refine congrArg some ?_;omega
   show some (128+c%64)=_;refine congrArg some ?_;omega
  ·have hr:=(rok2 l).1 hok';have e:c=64 * (64 * rn0 (b0 l 0)+b0 l 1 - 128)+b0 l 2 - 128:=e1.symm;have u:utfL c=[224+c / 4096,128+c / 64%64,128+c%64]:=by unfold utfL;rw[if_neg (by omega),if_neg (by omega),if_pos (by omega)]
   refine Qdy (by omega) (fun i hi=>?_);rw[u] at hi ⊢;have:i=0\/i=1\/i=2:=by simp at hi;omega
   rcases this with rfl|rfl|rfl
   ·show some (224+c / 4096)=_;refine congrArg some ?_;omega
   ·show some (128+c / 64%64)=_;refine congrArg some ?_;omega
   show some (128+c%64)=_;refine congrArg some ?_;omega
  have hr:=(rok3 l).1 hok';have e:c=64 * (64 * (64 * rn0 (b0 l 0)+b0 l 1 - 128)+b0 l 2 - 128)+b0 l 3 - 128:=e1.symm;have u:utfL c=[240+c / 262144,128+c / 4096%64,128+c / 64%64,128+c%64]:=by unfold utfL;rw[if_neg (by omega),if_neg (by omega),if_neg (by omega)]
  refine Qdy (by omega) (fun i hi=>?_);rw[u] at hi ⊢;have:i=0\/i=1\/i=2\/i=3:=by simp at hi;omega
  rcases this with rfl|rfl|rfl|rfl
  ·show some (240+c / 262144)=_;refine congrArg some ?_;omega
  ·show some (128+c / 4096%64)=_;refine congrArg some ?_;omega
  ·show some (128+c / 64%64)=_;refine congrArg some ?_;omega
  show some (128+c%64)=_;refine congrArg some ?_;omega
 rename_i q;simp [q,hk0,hok,hv] at hz
theorem Qfp (he:enc=1\/enc=2) (hl:2<=l.length):l.take 2=nb (unitL enc (unitAt enc l 0)):=by
 have b:=b0_bd l 0;have b1:=b0_bd l 1;have hlen:=Qas enc (unitAt enc l 0)
 have:=Qdy (L:=unitL enc (unitAt enc l 0)) (l:=l) (by omega) (fun i hi=>by
  have hi':i=0\/i=1:=by omega
  rcases he with rfl|rfl
  ·rw[Qfa];rcases hi' with rfl|rfl
   ·show some ((b0 l 0+256 * b0 l (0+1))%256)=_;congr 1;simp only[Nat.zero_add];omega
   show some ((b0 l 0+256 * b0 l (0+1)) / 256)=_;congr 1;simp only[Nat.zero_add];omega
  rw[Qhc];rcases hi' with rfl|rfl
  ·show some ((256 * b0 l 0+b0 l (0+1)) / 256)=_;congr 1;simp only[Nat.zero_add];omega
  show some ((256 * b0 l 0+b0 l (0+1))%256)=_
  congr 1;simp only[Nat.zero_add];omega)
 rwa [hlen] at this
theorem QaO {n:Nat} (h0:0<=enc) (h3:enc<=3) (h:headSg enc l=some (c,n)) (hc:c≠-1):l.take n=nb (wrL enc c)/\n=(wrL enc c).length:=by
 have hle:=QaU h;unfold headSg at h;split at h
 ·cases h
 rename_i hz;split at h
 ·rename_i e0;subst e0;have:=Option.some.inj h;exact QjO (by omega) this hc
 rename_i e0;split at h
 ·rename_i e3;subst e3;injection h with h
  injection h with h1 h2
  subst h1 h2;have hb:=b0_bd l 0;have hm:b0 l 0%256=b0 l 0:=by omega
  have e:wrL 3 (b0 l 0)=[b0 l 0]:=by show [b0 l 0%256]=_;rw[hm]
  rw[e];refine⟨Qdy (L:=[b0 l 0]) (by simp;omega) (fun i hi=>?_),rfl⟩;have:i=0:=by simpa using hi
  subst this;rfl
 rename_i e3;have he:enc=1\/enc=2:=by omega
 split at h
 ·cases h
 rename_i hl2;injection h with h
 unfold unitHead at h;dsimp only at h;have bu:=QaT enc l 0;have bv:=QaT enc l 2;split at h
 ·rename_i q;injection h with h1 h2
  subst h2;have hbig:65535<c:=by omega
  have e:wrL enc c=unitL enc (unitAt enc l 0)++unitL enc (unitAt enc l 2):=by
   unfold wrL;rw[if_neg e0,if_neg e3,if_pos hbig];congr 2<;>omega
  rw[e];refine⟨?_,by rw[List.length_append,Qas,Qas]⟩;have t1:=Qfp he (l:=l) (by omega);have t2:=Qfp he (l:=l.drop 2) (by rw[List.length_drop];omega);rw[QaK] at t2;rw[Qbd,<-t1,<-t2];have:l.take 4=l.take (2+2):=rfl;rw[this,List.take_add]
 split at h
 ·injection h with h1 h2;exact absurd h1.symm hc
 injection h with h1 h2
 subst h2
 have e:wrL enc c=unitL enc (unitAt enc l 0):=by
  unfold wrL;rw[if_neg e0,if_neg e3,if_neg (by omega),h1]
 rw[e];exact⟨Qfp he (by omega),(Qas _ _).symm⟩
theorem Qhb (h0:0<=enc) (h3:enc<=3):∀(n:Nat) (l:Bytes),l.length<=n->∀x∈signs enc l,(x.1=10\/x.1=13)->x.2=us enc
 |n,l,hl,x,hx,h10=>by
  cases hh:headSg enc l with
  |none=>rw[QeF hh] at hx;cases hx
  |some y =>
   rw[Qap hh] at hx
   rcases List.mem_cons.1 hx with rfl|hx
   ·have:=(QaO (c:=x.1) (n:=x.2) h0 h3 hh (by omega)).2
    rw[this];exact wr_us h0 h3 h10
   have hs:=Qcx hh
   cases n with
   |zero=>omega
   |succ n=>exact Qhb h0 h3 n (l.drop y.2) (by rw[List.length_drop];omega) x hx h10
theorem QcN (h0:0<=enc) (h3:enc<=3) (l:Bytes):∀a∈atoms enc l,AtSh (us enc) a:=Qd3 _ 0 (.inl rfl) (Qhb h0 h3 l.length l (Z6 _))
theorem Qk4 (enc:Int):0<us enc:=by unfold us;split<;>omega
theorem Qcy (hu:0<u):∀(S:List Sg) (h:Nat),(h=0\/h=u)->(∀x∈S,(x.1=10\/x.1=13)->x.2=u)->(atomsF h S).flatMap (sgA u)=(if 0<h then [(13,h)] else [])++S
 |[],h,hh,_=>by
  rw[atomsF]
  by_cases q:0<h
  ·rw[if_pos q,if_pos q]
   have:h=u:=by omega
   subst this
   rfl
  rw[if_neg q,if_neg q];rfl
 |x :: r,h,hh,hS=>by
  have hr:∀y∈r,(y.1=10\/y.1=13)->y.2=u:=fun y hy=>hS y (by simp [hy])
  have hx:=hS x (by simp)
  rw[atomsF]
  by_cases q:0<h/\x.1=10
  ·rw[if_pos q,if_pos q.1,List.flatMap_cons,Qcy hu r 0 (.inl rfl) hr]
   have e:h=u:=by omega
   have e2:=hx (.inl q.2)
   obtain⟨a,b⟩:=x
   simp only at q e2
   rw[e,e2,q.2]
   rfl
  rw[if_neg q,List.flatMap_append]
  have e1:(if 0<h then [((2:Int),(10:Int),h)] else []).flatMap (sgA u)=if 0<h then [(13,h)] else []:=by
   by_cases g:0<h
   ·rw[if_pos g,if_pos g];have:h=u:=by omega
    subst this;rfl
   rw[if_neg g,if_neg g];rfl
  rw[e1];congr 1;by_cases h13:x.1=13
  ·have e2:=hx (.inr h13);rw[if_pos h13,Qcy hu r x.2 (.inr e2) hr,if_pos (by omega)];obtain⟨a,b⟩:=x;simp only at h13 ⊢;rw[h13];rfl
  rw[if_neg h13,List.flatMap_cons,Qcy hu r 0 (.inl rfl) hr];rw[if_neg (Nat.lt_irrefl 0),List.nil_append];obtain⟨a,b⟩:=x;unfold singleA;simp only at h13 hx ⊢;by_cases g:a = -1
  ·rw[if_pos g,g];rfl
  rw[if_neg g];by_cases g2:a=10
  ·rw[if_pos g2,hx (.inl g2),g2];rfl
  rw[if_neg g2];rfl
theorem QbC (h0:0<=enc) (h3:enc<=3) (l:Bytes):signs enc l=(atoms enc l).flatMap (sgA (us enc)):=by
 have:=Qcy (Qk4 enc) (signs enc l) 0 (.inl rfl) (Qhb h0 h3 l.length l (Z6 _));rw[if_neg (Nat.lt_irrefl 0),List.nil_append] at this;exact this.symm
theorem Qn1 {f:At->At} (hf:∀x,(f x).1=x.1):∀{A:List At},NJ A->NJ (A.map f)
 |[],_=>trivial
 |x :: A,h=>by
  refine⟨fun e y s ey=>?_,Qn1 hf h.2⟩
  rw[hf] at e
  cases A with
  |nil=>cases ey
  |cons z B =>
   injection ey with e1 e2
   rw[<-e1,hf];exact h.1 e z B rfl
theorem QnY {f:At->At} (hf:∀x,(f x).1=k\/3<=(f x).1):∀(A:List At),NJ (A.map f)
 |[]=>trivial
 |x :: A=>by
  refine⟨fun e y s ey=>?_,QnY hf A⟩
  cases A with
  |nil=>cases ey
  |cons z B =>
   injection ey with e1 e2
   rw[<-e1]
   have h1:=hf x
   have h2:=hf z
   omega
def recA (enc:Int) (x:At):List Int:=if x.1<=2 then endL enc x.1 else wrL enc x.2.1
def recL (enc:Int) (A:List At):List Int:=A.flatMap (recA enc)
def toE (enc:Int) (x:At):At:=(x.1,x.2.1,(recA enc x).length)
def Says (enc:Int) (x:At):Prop:=(x.1=0\/x.1=1\/x.1=2\/(x.1=3/\x.2.1≠10/\x.2.1≠13))/\(x.1<=2->x.2.1=10)/\validB x.2.1=true/\(enc=3->x.2.1<=255)
theorem Qo3 (h0:0<=enc) (h3:enc<=3) (h:Says enc x):AtSh (us enc) (toE enc x):=by
 obtain⟨a,b,c⟩:=x;obtain⟨h1,h2,h4,h5⟩:=h;simp only at h1 h2 h4 h5;have w10:=wr_us h0 h3 (n:=10) (.inl rfl);have w13:=wr_us h0 h3 (n:=13) (.inr rfl);rcases h1 with rfl|rfl|rfl|⟨rfl,h6,h7⟩
 ·rw[h2 (by decide)];left;show (0,10,(wrL enc 10).length)=_;rw[w10]
 ·rw[h2 (by decide)];right;left;show (1,10,(wrL enc 13++wrL enc 10).length)=_;rw[List.length_append,w10,w13]
 ·rw[h2 (by decide)];right;right;left;show (2,10,(wrL enc 13).length)=_;rw[w13]
 right;right;right;left;refine⟨rfl,h6,h7,fun e=>?_⟩;rw[Qag] at h4;have:b = -1:=e;omega
theorem QhF (h0:0<=enc) (h3:enc<=3) (r:Bytes):∀(A:List At),(∀x∈A,Says enc x)->signs enc (nb (recL enc A)++r)=(A.map (toE enc)).flatMap (sgA (us enc))++signs enc r
 |[],_=>rfl
 |x :: A,h=>by
  have ih:=QhF h0 h3 r A (fun y hy=>h y (by simp [hy]))
  have e:nb (recL enc (x :: A))++r=nb (recA enc x)++(nb (recL enc A)++r):=by
   show nb (recA enc x++recL enc A)++r=_;rw[Qbd,List.append_assoc]
  rw[e,List.map_cons,List.flatMap_cons,List.append_assoc,<-ih];generalize nb (recL enc A)++r=R;obtain⟨a,b,c⟩:=x;obtain⟨h1,h2,h4,h5⟩:=h _ (List.mem_cons_self ..);simp only at h1 h2 h4 h5;have w10:=wr_us h0 h3 (n:=10) (.inl rfl);have w13:=wr_us h0 h3 (n:=13) (.inr rfl);have s10:=fun R=>QcE h0 h3 (n:=10) (by decide) (by intro;decide) R;have s13:=fun R=>QcE h0 h3 (n:=13) (by decide) (by intro;decide) R;rw[w10] at s10;rw[w13] at s13;rcases h1 with rfl|rfl|rfl|⟨rfl,h6,h7⟩
  ·show signs enc (nb (wrL enc 10)++R)=_;rw[s10];rfl
  ·show signs enc (nb (wrL enc 13++wrL enc 10)++R)=_;rw[Qbd,List.append_assoc,s13,s10];rfl
  ·show signs enc (nb (wrL enc 13)++R)=_;rw[s13];rfl
  show signs enc (nb (wrL enc b)++R)=_;rw[QcE h0 h3 h4 h5];rfl
theorem Qk3 (h0:0<=enc) (h3:enc<=3) (hj:NJ A) (h:∀x∈A,Says enc x):atoms enc (nb (recL enc A))=A.map (toE enc):=by
 have:=QhF h0 h3 [] A h;rw[List.append_nil,QaB,List.append_nil] at this;unfold atoms;rw[this];refine QfE (Qk4 enc) _ (Qn1 (f:=toE enc) (fun _=>rfl) hj) (fun y hy=>?_);obtain⟨x,hx,rfl⟩:=List.mem_map.1 hy;exact Qo3 h0 h3 (h x hx)
theorem Qiv (enc:Int) (A B:List At):recL enc (A++B)=recL enc A++recL enc B:=by simp [recL]
theorem QnI (h0:0<=enc) (h3:enc<=3):∀(n:Nat) (l:Bytes),l.length<=n->(∀x∈atoms enc l,x.1≠4)->nb (recL enc (atoms enc l))=l.take (sizeA (atoms enc l)):=by
 have w10:=wr_us h0 h3 (n:=10) (.inl rfl);have w13:=wr_us h0 h3 (n:=13) (.inr rfl);intro n
 induction n with
 |zero =>
  intro l hl _;obtain rfl:l=[]:=List.length_eq_zero_iff.1 (by omega);have:atoms enc []=[]:=by show atomsF 0 (signs enc [])=[];rw[QaB];rfl
  rw[this];rfl
 |succ n ih =>
  intro l hl hn;cases hA:atoms enc l with
  |nil=>rfl
  |cons x A =>
   rw[hA] at hn;have hp:[x] <+: atoms enc l:=by rw[hA];exact⟨A,rfl⟩
   have hc:=(QaC hp).2;have hsz:sizeA [x]=x.2.2:=by simp [sizeA]
   rw[hsz,hA] at hc
   have hA':atoms enc (l.drop x.2.2)=A:=by
    have:=List.append_cancel_left (show [x]++A=[x]++atoms enc (l.drop x.2.2) from hc);exact this.symm
   have hok:=Qao enc l x (by rw[hA];simp);have hxs:x.2.2<=l.length:=by have:=QaE hp;omega
   have:=ih (l.drop x.2.2) (by rw[List.length_drop];have:=hok.2.2.2.2.2.2.1;omega) (by rw[hA'];exact fun y hy=>hn y (by simp [hy]));rw[hA'] at this
   have e:nb (recL enc (x :: A))=nb (recA enc x)++nb (recL enc A):=by
    show nb (recA enc x++recL enc A)=_;rw[Qbd]
   rw[e,this,Qar,List.take_add];congr 1;have hs:=QbC h0 h3 l;rw[hA,List.flatMap_cons] at hs;have hsh:=QcN h0 h3 l x (by rw[hA];simp);have h4:=hn x (by simp);rcases hsh with rfl|rfl|rfl|⟨e1,e2,e3,e4⟩|⟨e1,_⟩
   ·obtain⟨g1,g2⟩:=Qah hs;exact (QaO h0 h3 g1 (by decide)).1.symm
   ·obtain⟨g1,g2⟩:=Qah hs;have b1:=(QaO h0 h3 g1 (by decide)).1;obtain⟨g3,g4⟩:=Qah g2;have b2:=(QaO h0 h3 g3 (by decide)).1;show nb (wrL enc 13++wrL enc 10)=_;rw[Qbd,<-b1,<-b2];show _=l.take (us enc+us enc);rw[List.take_add]
   ·obtain⟨g1,g2⟩:=Qah hs;exact (QaO h0 h3 g1 (by decide)).1.symm
   ·obtain⟨a,b,c⟩:=x;simp only at e1 e2 e3 e4 h4;subst e1;obtain⟨g1,g2⟩:=Qah hs;exact (QaO h0 h3 g1 e4).1.symm
   exact absurd e1 h4
def reB (enc k:Int):List At->Bytes->Bytes
 |[],_=>[]
 |x :: A,l=>(if x.1<=2 then nb (endL enc k) else l.take x.2.2)++reB enc k A (l.drop x.2.2)
def reA (enc k:Int) (x:At):At:=if x.1<=2 then (k,10,(endL enc k).length) else x
theorem Qde (h:atoms enc l=x :: A):atoms enc (l.drop x.2.2)=A/\x.2.2<=l.length/\1<=x.2.2:=by
 have hp:[x] <+: atoms enc l:=by rw[h];exact⟨A,rfl⟩
 have hc:=(QaC hp).2;have hsz:sizeA [x]=x.2.2:=by simp [sizeA]
 rw[hsz,h] at hc;refine⟨(List.append_cancel_left (show [x]++A=[x]++atoms enc (l.drop x.2.2) from hc)).symm,?_,?_⟩
 ·have:=QaE hp;omega
 have:=Qao enc l x (by rw[h];simp);exact this.2.2.2.2.2.2.1
theorem Qmm (enc:Int):atoms enc []=[]:=by show atomsF 0 (signs enc [])=[];rw[QaB];rfl
def cH (l:Bytes):Prop:=0<l.length/\128<=b0 l 0/\b0 l 0<=191
def Sim:Nat->Bytes->Bytes->Prop
 |0,_,_=>True
 |n+1,Y,Z=>(¬cH Y/\¬cH Z)\/(cH Z/\b0 Y 0=b0 Z 0/\Sim n (Y.drop 1) (Z.drop 1))
theorem QlI :∀{m:Nat} {Y Z:Bytes} (n:Nat),Sim m Y Z->n<=m->(∀j,j<n->j<Y.length/\128<=b0 Y j/\b0 Y j<=191)->∀j,j<n->j<Z.length/\b0 Z j=b0 Y j
 |0,Y,Z,n,_,hn,_=>fun j hj=>by omega
 |m+1,Y,Z,0,_,_,_=>fun j hj=>by omega
 |m+1,Y,Z,n+1,hs,hn,hc=>by
  have h0:=hc 0 (by omega)
  rcases hs with ⟨q,_⟩|⟨q1,q2,q3⟩
  ·exact absurd h0 q
  have ih:=QlI n q3 (by omega) (fun j hj=>by
   have:=hc (j+1) (by omega)
   rw[Qa1,List.length_drop,Nat.add_comm 1 j]
   exact⟨by omega,this.2⟩)
  intro j hj
  cases j with
  |zero=>exact⟨q1.1,q2.symm⟩
  |succ j =>
   have:=ih j (by omega)
   rw[Qa1,Qa1,List.length_drop,Nat.add_comm 1 j] at this
   exact⟨by omega,this.2⟩
theorem QlD (c:UInt8) (Y:Bytes) (j:Nat):b0 (c :: Y) (j+1)=b0 Y j:=by simp [b0]
theorem Qoi {c:UInt8} {Y Z:Bytes} (h:utfHead (c :: Z)=(-1,1)) (hs:Sim 3 Y Z):utfHead (c :: Y)=(-1,1):=by
 have e0:b0 (c :: Y) 0=b0 (c :: Z) 0:=rfl;by_cases hok:allOk (c :: Y) (sqRow (b0 (c :: Y) 0)) (sqN (sqRow (b0 (c :: Y) 0)) - 1)=true
 ·exfalso;have hk4:=Qih (sqRow (b0 (c :: Y) 0))
  have hokZ:allOk (c :: Z) (sqRow (b0 (c :: Z) 0)) (sqN (sqRow (b0 (c :: Z) 0)) - 1)=true:=by
   rw[<-e0];generalize hr:sqRow (b0 (c :: Y) 0)=r at *;by_cases hr0:r=0
   ·subst hr0;rfl
   have hall:=fun k h1 h2=>QfU (l:=c :: Y) (r:=r) (k:=k) (by omega) (Qd0 hok k h1 h2)
   have hg:=QlI (sqN r - 1) hs (by omega) (fun j hj=>by
    have:=hall (j+1) (by omega) (by omega);rw[QlD,List.length_cons] at this
    exact⟨by omega,this.2⟩)
   have hstep:∀n,n<=sqN r - 1->allOk (c :: Z) r n=true:=by
    intro n
    induction n with
    |zero=>intro _;rfl
    |succ n ih =>
     intro hn;have h1:=Qd0 hok (n+1) (by omega) hn;have h2:=hg n (by omega);unfold allOk;rw[ih (by omega),Bool.true_and];unfold okAt at h1 ⊢;rw[QlD] at h1 ⊢;rw[h2.2];simp only[Bool.and_eq_true,decide_eq_true_eq,List.length_cons] at h1 ⊢;exact⟨by omega,h1.2⟩
   exact hstep _ (Z6 _)
  have:=QcX rfl hokZ;rw[h] at this;injection this with e1 e2
  have hb:=QgP (c :: Z) (sqRow (b0 (c :: Z) 0)) (sqN (sqRow (b0 (c :: Z) 0))) (Qih _);omega
 unfold utfHead;rw[if_neg hok]
theorem Qmv (enc k:Int) (h:enc=0):∃b r,nb (endL enc k)=b :: r/\b.toNat<128:=by
 subst h;unfold endL;by_cases h1:k=0
 ·rw[if_pos h1];exact⟨_,_,rfl,by decide⟩
 rw[if_neg h1];by_cases h2:k=2
 ·rw[if_pos h2];exact⟨_,_,rfl,by decide⟩
 rw[if_neg h2];exact⟨_,_,rfl,by decide⟩
theorem QaV {n:Nat} (h:i<n) (hl:n<=l.length):b0 (l.take n++T) i=b0 l i:=by
 unfold b0;rw[List.getD_eq_getElem?_getD,List.getD_eq_getElem?_getD,List.getElem?_append_left (by rw[List.length_take];omega),List.getElem?_take_of_lt h]
theorem QnW (k:Int):∀(m:Nat) (A:List At) (l:Bytes),atoms 0 l=A->Sim m (reB 0 k A l) l
 |0,_,_,_=>trivial
 |m+1,[],l,h=>by
  have hs:=QcQ (enc:=0) (l:=l) (.inl rfl)
  rw[h] at hs
  obtain rfl:l=[]:=List.length_eq_zero_iff.1 (by rw[<-hs];rfl)
  exact .inl ⟨fun q=>absurd q.1 (Nat.lt_irrefl 0),fun q=>absurd q.1 (Nat.lt_irrefl 0)⟩
 |m+1,y :: B,l,h=>by
  obtain⟨hB,hy,hy1⟩:=Qde h
  by_cases hc:cH l
  ·have hh:headSg 0 l=some (-1,1):=by
    unfold headSg;rw[if_neg (by have:=hc.1;omega),if_pos rfl,QeM hc.2.1 hc.2.2]
   have hy':y=(4,65533,1):=by
    have:atoms 0 l=atomsF 0 ((-1,1) :: signs 0 (l.drop 1)):=by unfold atoms;rw[Qap hh]
    rw[h,atomsF,if_neg (by simp),if_neg (by simp),if_neg (by simp)] at this;injection this
   subst hy';have ih:=QnW k m B (l.drop 1) hB;refine .inr ⟨hc,?_,?_⟩
   ·show b0 (l.take 1++_) 0=_;exact QaV (by decide) hy
   show Sim m ((l.take 1++reB 0 k B (l.drop 1)).drop 1) (l.drop 1);have:(l.take 1).length=1:=by rw[List.length_take];have:=hc.1;omega
   rw[List.drop_append_of_le_length (by omega),List.drop_eq_nil_of_le (by omega),List.nil_append];exact ih
  refine .inl ⟨fun q=>?_,hc⟩;unfold reB at q;by_cases hk:y.1<=2
  ·rw[if_pos hk] at q;obtain⟨b,r,e,hb⟩:=Qmv 0 k rfl;rw[e] at q;have:b0 (b :: r++reB 0 k B (l.drop y.2.2)) 0=(b.toNat:Int):=rfl;have:=q.2.1;omega
  rw[if_neg hk] at q;have:=q.2;rw[QaV (by omega) hy] at this;exact hc ⟨by omega,this⟩
theorem QnS (hl:2<=l.length) (h:unitHead enc l=(-1,2)) (hT:56320<=unitAt enc l 0\/(2<=T.length->¬(56320<=unitAt enc T 0/\unitAt enc T 0<=57343))):unitHead enc (l.take 2++T)=(-1,2):=by
 have u0:unitAt enc (l.take 2++T) 0=unitAt enc l 0:=by
  unfold unitAt;rw[QaV (by omega) hl,QaV (by omega) hl]
 have u2:unitAt enc (l.take 2++T) 2=unitAt enc T 0:=by
  have e:(l.take 2).length=2:=by rw[List.length_take];omega
  have a:=Qba (W:=l.take 2) (T:=T) 0;have b:=Qba (W:=l.take 2) (T:=T) 1;rw[e] at a b;unfold unitAt;rw[a,b]
 have hlen:(l.take 2++T).length=2+T.length:=by rw[List.length_append,List.length_take];omega
 unfold unitHead at h ⊢;dsimp only at h ⊢;rw[u0,u2,hlen];split at h
 ·injection h with h1 h2;omega
 split at h
 ·rename_i q
  rw[if_neg (by
   intro g;rcases hT with hT|hT
   ·omega
   exact hT (by omega) ⟨g.2.2.2.1,g.2.2.2.2⟩),if_pos q]
 injection h with h1 h2
 have:=QaT enc l 0;omega
theorem QmA (hl:2<=l.length) (h:unitHead enc l=(-1,2)):(56320<=unitAt enc l 0)\/(2<=(l.drop 2).length->¬(56320<=unitAt enc (l.drop 2) 0/\unitAt enc (l.drop 2) 0<=57343)):=by
 rw[QaK,List.length_drop];unfold unitHead at h;dsimp only at h;split at h
 ·injection h with h1 h2;omega
 rename_i q;split at h
 ·rename_i g;by_cases g1:56320<=unitAt enc l 0
  ·exact .inl g1
  right;intro g2 g3;exact q ⟨g.1,by omega,by omega,g3⟩
 injection h with h1 h2
 have:=QaT enc l 0;omega
theorem Qnd (he:enc=1\/enc=2) (T:Bytes):unitAt enc (nb (endL enc k)++T) 0=10\/unitAt enc (nb (endL enc k)++T) 0=13:=by
 have w:∀n:Int,n<=65535->wrL enc n=unitL enc n:=fun n hn=>by
  unfold wrL;rw[if_neg (by omega),if_neg (by omega),if_neg (by omega)]
 unfold endL;by_cases h1:k=0
 ·rw[if_pos h1,w 10 (by decide)];exact .inl (Qcq he (by decide) (by decide) T)
 rw[if_neg h1];by_cases h2:k=2
 ·rw[if_pos h2,w 13 (by decide)];exact .inr (Qcq he (by decide) (by decide) T)
 rw[if_neg h2,w 13 (by decide),w 10 (by decide),Qbd,List.append_assoc];exact .inr (Qcq he (by decide) (by decide) _)
theorem Qk6 (h:x.1=4):sgA u x=[(-1,x.2.2)]:=by unfold sgA;rw[h];rfl
theorem Qjx (h:x.1=3):sgA u x=[(x.2.1,x.2.2)]:=by unfold sgA;rw[h];rfl
theorem Qjt (h0:0<=enc) (h3:enc<=3) (k0:0<=k) (k2:k<=2):∀(A:List At) (l:Bytes),atoms enc l=A->Wh enc l->signs enc (reB enc k A l)=(A.map (reA enc k)).flatMap (sgA (us enc))
 |[],l,h,_=>by rw[reB,QaB];rfl
 |x :: A,l,h,hw =>
            by
  obtain⟨hA,hx,hx1⟩:=Qde h
  have hs:=QbC h0 h3 l
  rw[h,List.flatMap_cons] at hs
  have hw':Wh enc (l.drop x.2.2):=by
   have e1:=QcQ hw;rw[h,Qar] at e1;exact wh_of (by rw[hA,List.length_drop];omega)
  have ih:=Qjt h0 h3 k0 k2 A (l.drop x.2.2) hA hw';have hsh:=QcN h0 h3 l x (by rw[h];simp);have w10:=wr_us h0 h3 (n:=10) (.inl rfl);have w13:=wr_us h0 h3 (n:=13) (.inr rfl);rw[reB,List.map_cons,List.flatMap_cons,<-ih];by_cases hk:x.1<=2
  ·rw[if_pos hk];have e:reA enc k x=(k,10,(endL enc k).length):=by unfold reA;rw[if_pos hk]
   rw[e];generalize reB enc k A (l.drop x.2.2)=R;have s10:=fun R=>QcE h0 h3 (n:=10) (by decide) (by intro;decide) R;have s13:=fun R=>QcE h0 h3 (n:=13) (by decide) (by intro;decide) R;rw[w10] at s10;rw[w13] at s13;have hkc:k=0\/k=1\/k=2:=by omega
   rcases hkc with rfl|rfl|rfl
   ·show signs enc (nb (wrL enc 10)++R)=_;rw[s10];rfl
   ·show signs enc (nb (wrL enc 13++wrL enc 10)++R)=_;rw[Qbd,List.append_assoc,s13,s10];rfl
   show signs enc (nb (wrL enc 13)++R)=_;rw[s13];rfl
  rw[if_neg hk];have e:reA enc k x=x:=by unfold reA;rw[if_neg hk]
  rw[e]
  have hc:x.1=3/\x.2.1≠-1\/x.1=4:=by
   rcases hsh with rfl|rfl|rfl|⟨q1,q2,q3,q4⟩|⟨q1,q2⟩
   ·simp at hk
   ·simp at hk
   ·simp at hk
   ·exact .inl ⟨q1,q4⟩
   exact .inr q1
  rcases hc with ⟨q1,q4⟩|q1
  ·rw[Qjx q1] at hs ⊢;obtain⟨g1,_⟩:=Qah hs;obtain⟨b1,b2⟩:=QaO h0 h3 g1 q4
   have hl:enc=3->x.2.1<=255:=fun e3=>by
    subst e3;unfold headSg at g1;rw[if_neg (by omega),if_neg (by decide),if_pos rfl] at g1;injection g1 with g1
    injection g1 with g1 _
    have:=b0_bd l 0;omega
   have hv:validB x.2.1=true:=(QbM enc l x (by rw[h];simp)).1;rw[b1,QcE h0 h3 hv hl,<-b2];rfl
  rw[Qk6 q1] at hs ⊢;obtain⟨g1,_⟩:=Qah hs
  have hhead:headSg enc (l.take x.2.2++reB enc k A (l.drop x.2.2))=some (-1,x.2.2):=by
   unfold headSg at g1 ⊢;rw[if_neg (by omega)] at g1;rw[if_neg (by rw[List.length_append,List.length_take];omega)];by_cases e0:enc=0
   ·subst e0;rw[if_pos rfl] at g1 ⊢;have g1:=Option.some.inj g1
    have hn:x.2.2=1:=by
     unfold utfHead at g1;split at g1
     ·injection g1 with g1 g2
      have:=QgP l (sqRow (b0 l 0)) (sqN (sqRow (b0 l 0))) (Qih _);omega
     injection g1 with g1 g2;exact g2.symm
    rw[hn] at g1 hA ⊢;cases l with
    |nil=>simp at hx;omega
    |cons c r =>
     have hsim:=QnW k 3 A r hA;have:=Qoi g1 hsim;exact congrArg some this
   rw[if_neg e0] at g1 ⊢;by_cases e3:enc=3
   ·rw[if_pos e3] at g1;injection g1 with g1
    injection g1 with g1 _
    have:=b0_bd l 0;omega
   have he:enc=1\/enc=2:=by omega
   rw[if_neg e3] at g1 ⊢
   have hl2:2<=l.length:=by
    unfold Wh at hw;omega
   rw[if_neg (by omega)] at g1;have g1:=Option.some.inj g1
   have hn:x.2.2=2:=by
    unfold unitHead at g1;dsimp only at g1;split at g1
    ·injection g1 with g1 g2;omega
    split at g1
    ·injection g1 with g1 g2;exact g2.symm
    injection g1 with g1 g2
    have:=QaT enc l 0;omega
   rw[hn] at g1 hA hw' ⊢;rw[if_neg (by rw[List.length_append,List.length_take];omega)];refine congrArg some (QnS hl2 g1 ?_);rcases QmA hl2 g1 with q|q
   ·exact .inl q
   right;cases hAA:A with
   |nil=>intro q2;simp [reB] at q2
   |cons y B =>
    subst hAA;obtain⟨_,hy,hy1⟩:=Qde hA;intro q2;unfold reB;by_cases hyk:y.1<=2
    ·rw[if_pos hyk];rcases Qnd (k:=k) he (reB enc k B ((l.drop 2).drop y.2.2)) with z|z<;>rw[z]<;>omega
    rw[if_neg hyk]
    have hy2:2<=y.2.2:=by
     have hs2:=QbC h0 h3 (l.drop 2);rw[hA,List.flatMap_cons] at hs2;have hsh2:=QcN h0 h3 (l.drop 2) y (by rw[hA];simp)
     have key:∀z:Int,headSg enc (l.drop 2)=some (z,y.2.2)->2<=y.2.2:=by
      intro z hz;unfold headSg at hz;split at hz
      ·cases hz
      split at hz
      ·cases hz
      injection hz with hz
      have:=QcJ enc (l.drop 2);rw[hz] at this;exact this
     rcases hsh2 with rfl|rfl|rfl|⟨z1,_⟩|⟨z1,_⟩
     ·simp at hyk
     ·simp at hyk
     ·simp at hyk
     ·rw[Qjx z1] at hs2;exact key _ (Qah hs2).1
     rw[Qk6 z1] at hs2;exact key _ (Qah hs2).1
    have:unitAt enc ((l.drop 2).take y.2.2++reB enc k B ((l.drop 2).drop y.2.2)) 0=unitAt enc (l.drop 2) 0:=by
     unfold unitAt;rw[QaV (by omega) hy,QaV (by omega) hy]
    rw[this];exact q (by omega)
  rw[Qap hhead];simp only
  have e5:(l.take x.2.2++reB enc k A (l.drop x.2.2)).drop x.2.2=reB enc k A (l.drop x.2.2):=by
   have:(l.take x.2.2).length=x.2.2:=by rw[List.length_take];omega
   rw[List.drop_append_of_le_length (by omega),List.drop_eq_nil_of_le (by omega),List.nil_append]
  rw[e5];rfl
theorem Qe8 (h0:0<=enc) (h3:enc<=3):(endL enc k).length=if k=0 then us enc else if k=2 then us enc else us enc+us enc:=by
 have w10:=wr_us h0 h3 (n:=10) (.inl rfl);have w13:=wr_us h0 h3 (n:=13) (.inr rfl);unfold endL;split
 ·exact w10
 split
 ·exact w13
 rw[List.length_append,w10,w13]
theorem Qe6 (h0:0<=enc) (h3:enc<=3) (k0:0<=k) (k2:k<=2) (hw:Wh enc l):atoms enc (reB enc k (atoms enc l) l)=(atoms enc l).map (reA enc k):=by
 have:=Qjt h0 h3 k0 k2 (atoms enc l) l rfl hw;show atomsF 0 (signs enc (reB enc k (atoms enc l) l))=_;rw[this];refine QfE (Qk4 enc) _ (QnY (f:=reA enc k) (k:=k) (fun x=>?_) _) (fun y hy=>?_)
 ·unfold reA;by_cases hk:x.1<=2
  ·rw[if_pos hk];exact .inl rfl
  rw[if_neg hk];exact .inr (by omega)
 obtain⟨x,hx,rfl⟩:=List.mem_map.1 hy;unfold reA;by_cases hk:x.1<=2
 ·rw[if_pos hk,Qe8 h0 h3];have hkc:k=0\/k=1\/k=2:=by omega
  rcases hkc with rfl|rfl|rfl
  ·exact .inl rfl
  ·exact .inr (.inl rfl)
  exact .inr (.inr (.inl rfl))
 rw[if_neg hk];exact QcN h0 h3 l x hx
theorem Qew (S:List Sg) (h:Nat) (U:List Sg):(atomsF h (S++U)).length<=(atomsF h S).length+(atomsF 0 U).length:=by
 by_cases hk:heldF h S=0
 ·rw[Qby S h U (.inl hk),List.length_append];exact Z6 _
 cases U with
 |nil=>rw[List.append_nil];omega
 |cons x r =>
  by_cases hx:x.1=10
  ·rw[QfD S h x r (by omega) hx,List.length_append]
   have e1:(atomsF h (S++[x])).length=(atomsF h S).length:=by
    rw[Qbp,Qdg S h,List.length_append,List.length_append];congr 1;have hkp:0<heldF h S:=by omega
    simp [atomsF,hx,hkp]
   have e2:(atomsF 0 (x :: r)).length=(atomsF 0 r).length+1:=by
    rw[atomsF,if_neg (by simp),if_neg (by simp),if_neg (by omega)];rfl
   omega
  rw[Qby S h (x :: r) (.inr (fun y s e=>by injection e with e1 e2;rw[<-e1];exact hx)),List.length_append];exact Z6 _
theorem QfR :∀(S U:List Sg),(∀x∈S,x.1 = -1)->(atomsF 0 (S++U)).length=S.length+(atomsF 0 U).length
 |[],U,_=>by simp
 |x :: S,U,h=>by
  have hx:=h x (by simp)
  rw[List.cons_append,atomsF,if_neg (by simp),if_neg (by simp),if_neg (by omega),List.nil_append,List.length_cons,QfR S U (fun y hy=>h y (by simp [hy])),List.length_cons]
  omega
theorem Qft (enc:Int) (h0:0<=enc) (h3:enc<=3) (T:Bytes):∀(n:Nat) (W:Bytes),W.length<=n->Wh enc W->signs enc (W++T)=signs enc W++signs enc T \/
  ∃P x e E S2 d,signs enc W=P++e :: E/\e.1 = -1/\signs enc (W++T)=P++x :: signs enc (T.drop d)/\signs enc T=S2++signs enc (T.drop d)/\∀x∈S2,x.1 = -1
 |0,W,h,_=>by
  obtain rfl:W=[]:=List.length_eq_zero_iff.1 (by omega)
  left;rw[QaB];rfl
 |n+1,W,h,hw=>by
  by_cases hW:W=[]
  ·subst hW
   left;rw[QaB];rfl
  have hl1:1<=W.length:=List.length_pos_iff.2 hW
  have hne:∀T:Bytes,headSg enc (W++T)≠none:=by
   intro T;unfold headSg;rw[if_neg (by rw[List.length_append];omega)];split
   ·simp
   split
   ·simp
   rw[if_neg (by rw[List.length_append];unfold Wh at hw;omega)];simp
  obtain⟨x,hx⟩:=Option.ne_none_iff_exists'.1 (hne T);obtain⟨y,hy⟩:=Option.ne_none_iff_exists'.1 (hne []);rw[List.append_nil] at hy;have hle:=QaU hx;rw[List.length_append] at hle;by_cases hin:x.2<=W.length
  ·have hxw:headSg enc W=some x:=by
    have:=QcA hx hin;rwa [List.take_append_of_le_length (Z6 _),List.take_length] at this
   have hev:Wh enc (W.drop x.2):=by
    have:enc=0\/enc=3\/x.2%2=0:=by
     unfold headSg at hxw;split at hxw
     ·cases hxw
     split at hxw
     ·omega
     split at hxw
     ·omega
     split at hxw
     ·cases hxw
     cases hxw;exact .inr (.inr (Qbt enc W))
    unfold Wh at hw ⊢;rw[List.length_drop];omega
   have e1:signs enc (W++T)=x :: signs enc (W.drop x.2++T):=by rw[Qap hx,List.drop_append_of_le_length hin]
   rcases Qft enc h0 h3 T n (W.drop x.2) (by rw[List.length_drop];omega) hev with g|⟨P,z,e,E,S2,d,g1,g2,g3,g4,g5⟩
   ·left;rw[e1,Qap hxw,g];rfl
   right;refine⟨x :: P,z,e,E,S2,d,?_,g2,?_,g4,g5⟩
   ·rw[Qap hxw,g1];rfl
   rw[e1,g3];rfl
  right
  have hym:y.1 = -1:=by
   by_cases q:y.1 = -1
   ·exact q
   exfalso;have hyl:=QaU hy;obtain⟨b1,b2⟩:=QaO h0 h3 (c:=y.1) (n:=y.2) hy q;have e:W++T=nb (wrL enc y.1)++(W.drop y.2++T):=by rw[<-b1,<-List.append_assoc,List.take_append_drop]
   have hv:validB y.1=true:=by
    rcases Qfu hy with z|z
    ·exact absurd z q
    exact z
   have hl:enc=3->y.1<=255:=fun e3=>by
    subst e3;unfold headSg at hy;rw[if_neg (by omega),if_neg (by decide),if_pos rfl] at hy;injection hy with hy
    rw[<-hy];exact (b0_bd W 0).2
   have:=Qmj h0 h3 hv hl (W.drop y.2++T);rw[<-e,hx] at this;injection this with this
   rw[this] at hin;simp only at hin;omega
  have hsW:signs enc W=[]++y :: signs enc (W.drop y.2):=by rw[Qap hy];rfl
  have hdl:(W++T).drop x.2=T.drop (x.2 - W.length):=by
   rw[List.drop_append];rw[List.drop_eq_nil_of_le (by omega)];rfl
  have hs1:signs enc (W++T)=[]++x :: signs enc (T.drop (x.2 - W.length)):=by rw[Qap hx,hdl];rfl
  unfold headSg at hx;rw[if_neg (by rw[List.length_append];omega)] at hx;by_cases e0:enc=0
  ·subst e0;rw[if_pos rfl] at hx;cases hx
   have hcont:∀j,1<=j->j<(utfHead (W++T)).2->j<(W++T).length/\128<=b0 (W++T) j/\b0 (W++T) j<=191:=by
    intro j h1 h2;unfold utfHead at h2;split at h2
    ·rename_i hok
     have hr:1<=sqRow (b0 (W++T) 0):=by
      have hc:=Qbj (b0 (W++T) 0);rcases Nat.eq_zero_or_pos (sqRow (b0 (W++T) 0)) with q|q
      ·rw[q] at h2;have:sqN 0=1:=rfl;simp only[this] at h2;omega
      exact q
     exact QfU hr (Qd0 hok j h1 (by simp only at h2;omega))
    simp only at h2;omega
   refine⟨[],_,y,_,List.replicate ((utfHead (W++T)).2 - W.length) (-1,1),(utfHead (W++T)).2 - W.length,hsW,hym,hs1,Qdk _ T (by omega) (fun j hj=>?_),fun z hz=>by rw[List.eq_of_mem_replicate hz]⟩;have:=hcont (W.length+j) (by omega) (by omega);rw[Qba] at this;exact this.2
  rw[if_neg e0] at hx;by_cases e3:enc=3
  ·rw[if_pos e3] at hx;cases hx;simp only at hin;omega
  rw[if_neg e3,if_neg (by rw[List.length_append];unfold Wh at hw;omega)] at hx;cases hx
  have hwe:W.length%2=0:=by unfold Wh at hw;omega
  have hev:=Qbt enc (W++T);have h4:(unitHead enc (W++T)).2=4/\W.length=2:=by omega
  have hv:3<(W++T).length/\56320<=unitAt enc (W++T) 2/\unitAt enc (W++T) 2<=57343:=by
   have h44:=h4.1;unfold unitHead at h44;dsimp only at h44;split at h44
   ·rename_i q;exact⟨q.2.2.1,q.2.2.2.1,q.2.2.2.2⟩
   split at h44<;>simp at h44
  have hu:unitAt enc (W++T) 2=unitAt enc T 0:=by
   have a1:=Qba (W:=W) (T:=T) 0;have a2:=Qba (W:=W) (T:=T) 1;rw[h4.2] at a1 a2;unfold unitAt;rw[a1,a2]
  rw[hu] at hv;rw[List.length_append] at hv
  have hh:headSg enc T=some (-1,2):=by
   unfold headSg;rw[if_neg (by omega),if_neg e0,if_neg e3,if_neg (by omega)];unfold unitHead;dsimp only;rw[if_neg (by omega),if_pos (by omega)]
  rw[h4.1,h4.2] at hs1;refine⟨[],_,y,_,[(-1,2)],2,hsW,hym,hs1,by rw[Qap hh];rfl,fun y hy=>by simp at hy;rw[hy]⟩
theorem Qh6 (h0:0<=enc) (h3:enc<=3) (hw:Wh enc X) (Y:Bytes):(atoms enc (X++Y)).length<=(atoms enc X).length+(atoms enc Y).length:=by
 unfold atoms;rcases Qft enc h0 h3 Y X.length X (Z6 _) hw with g|⟨P,x,e,E,S2,d,g1,g2,g3,g4,g5⟩
 ·rw[g];exact Qew _ 0 _
 rw[g1,g3,g4];have b1:=Qew P 0 (x :: signs enc (Y.drop d));have b2:=Qew [x] 0 (signs enc (Y.drop d));rw[List.singleton_append] at b2;have b3:(atomsF 0 [x]).length<=1:=by have:=Qda [x] 0;simpa using this
 have b4:=Qby P 0 (e :: E) (.inr (fun y s q=>by injection q with q1 q2;rw[<-q1,g2];decide))
 have b5:1<=(atomsF 0 (e :: E)).length:=by
  rw[atomsF,if_neg (by simp),if_neg (by simp),if_neg (by omega)];simp
 have b6:=QfR S2 (signs enc (Y.drop d)) g5;rw[b4,List.length_append];omega
theorem Qgt (ht:sizeA (atoms enc (X++t))=X.length):atoms enc (X++t)=atoms enc X:=by
 have:=(QaC (List.prefix_refl (atoms enc (X++t)))).1;rw[ht,List.take_append_of_le_length (Z6 _),List.take_length] at this;exact this.symm
theorem Qh7 (hw:Wh enc X) (ht:t=[]\/(t.length=1/\¬enc=0/\¬enc=3)):sizeA (atoms enc (X++t))=X.length:=by
 rcases ht with rfl|⟨h1,h2,h3⟩
 ·rw[List.append_nil];exact QcQ hw
 have hn:¬Wh enc (X++t):=by
  unfold Wh at hw ⊢;rw[List.length_append];omega
 have:=(QbV enc (X++t).length (X++t) (Z6 _)).2 hn;rw[Qbz];rw[List.length_append] at this;omega
theorem Qes (h0:0<=enc) (h2:enc<=2) (r:Bytes):atoms enc (nb (wrL enc 65279)++r)=(3,65279,(wrL enc 65279).length) :: atoms enc r:=by
 unfold atoms;rw[QcE h0 (by omega) (by decide) (by omega),atomsF,if_neg (by simp),if_neg (by simp),if_neg (by simp)];rfl
theorem QkR (h0:0<=enc) (h3:enc<=3) {a b:Nat} (hab:a<=b) (hw:Wh enc put) :
  (atoms enc (L.take (sizeA ((atoms enc L).take a))++(put++L.drop (sizeA ((atoms enc L).take b))))).length<=(atoms enc L).length+put.length:=by
 have pa:(atoms enc L).take a <+: atoms enc L:=List.take_prefix ..
 have pb:(atoms enc L).take b <+: atoms enc L:=List.take_prefix ..
 obtain⟨ca,_⟩:=QaC pa
 obtain⟨_,cb⟩:=QaC pb
 have hwa:Wh enc (L.take (sizeA ((atoms enc L).take a))):=QcR pa
 have s1:=Qh6 h0 h3 hwa (put++L.drop (sizeA ((atoms enc L).take b)))
 have s2:=Qh6 h0 h3 hw (L.drop (sizeA ((atoms enc L).take b)))
 have s3:=QbH enc put
 rw[ca] at s1
 have hl:=congrArg List.length cb
 rw[List.length_append,List.length_take] at hl
 rw[List.length_take] at s1
 omega
theorem Qik :∀{A:List At},(∀a∈A,AtOk a)->sizeA A<=8 * A.length
 |[],_=>Z6 _
 |x :: A,h=>by
  have:=Qik (A:=A) (fun y hy=>h y (by simp [hy]))
  have hx:=(h x (by simp)).2.2.2.2.2.2.2
  rw[Qar,List.length_cons];omega
theorem Qk2 (enc:Int) (l:Bytes):l.length<=8 * (atoms enc l).length+1:=by
 have h1:=Qik (Qao enc l);rw[Qbz] at h1;have:=QbV enc l.length l (Z6 _);by_cases hw:Wh enc l
 ·have:=this.1 hw;omega
 have:=this.2 hw;omega
open Go.Lib
def decS (x:Sg):Nat × Nat:=if x.1 = -1 then (65533,1) else (x.1.toNat,x.2)
def dNat (l:Bytes) (i:Nat):Nat:=(l.getD i 0).toNat
theorem QgY (l:Bytes) (i:Nat):b0 l i=(dNat l i:Int):=rfl
theorem QgK (l:Bytes) (i:Nat):dNat l i<256:=by unfold dNat;exact UInt8.toNat_lt _
theorem QdC {k:Nat} (hk:rk (b0 l 0)=k) (h0:k≠0) (h1:rok l (k - 1)=true) (h2:validB (rpart l k)=true) (h3:utfLen (rpart l k)=k):decS (utfHead l)=((rpart l k).toNat,k):=by
 rw[QdF,Qg5 h0 (QbD hk h0 h1 h2 h3)];unfold decS;rw[Qag] at h2;rw[if_neg (by simp only;omega)]
theorem QbI {k:Nat} (hk:rk (b0 l 0)=k) (h:¬(rok l (k - 1)=true/\validB (rpart l k)=true/\utfLen (rpart l k)=k)):decS (utfHead l)=(65533,1):=by
 rw[QdF,Qg3 (Qdm hk h)];rfl
theorem Qnp (l:Bytes):decodeN l.length (dNat l 0) (dNat l 1) (dNat l 2) (dNat l 3)=decS (utfHead l):=by
 have q0:=QgK l 0;have q1:=QgK l 1;have q2:=QgK l 2;have q3:=QgK l 3;have e0:=QgY l 0;have e1:=QgY l 1;have e2:=QgY l 2;have e3:=QgY l 3;have hn0:=Qb2 (b0 l 0);generalize hx0:dNat l 0=x0 at *;generalize hx1:dNat l 1=x1 at *;generalize hx2:dNat l 2=x2 at *;generalize hx3:dNat l 3=x3 at *;rcases Qb5 (b0 l 0) with ⟨c,hk⟩|⟨c,c',hk⟩|⟨c,c',hk⟩|⟨c,c',hk⟩|⟨c,c',hk⟩|⟨c,hk⟩
 ·have hp:rpart l 1=(x0:Int):=by show rn0 (b0 l 0)=_;omega
  rw[QdC hk (by decide) rfl (by rw[hp,Qag];omega) (by rw[hp];have:=Qaa (x0:Int);omega),hp];unfold decodeN;rw[if_pos (by omega)];rfl
 ·rw[QbI hk (by intro h;exact absurd h.2.2 (by show ¬utfLen 0=0;decide))];unfold decodeN;rw[if_neg (by omega),if_neg (by omega),if_neg (by omega),if_neg (by omega)]
 ·have hp:rpart l 2=64 * rn0 (b0 l 0)+b0 l 1 - 128:=rfl;by_cases hc:1<l.length/\x1 / 64=2
  ·have hr:rok l 1=true:=(rok1 l).2 (by omega);by_cases hg:x0%32 * 64+x1%64 ≥ 128
   ·rw[QdC hk (by decide) hr (by rw[hp,Qag];omega) (by rw[hp];have:=Qaa (64 * rn0 (b0 l 0)+b0 l 1 - 128);omega),hp];unfold decodeN;rw[if_neg (by omega),if_pos (by omega),if_pos hg];refine Prod.ext ?_ rfl;simp only;omega
   rw[QbI hk (by intro h;have h3:=h.2.2;rw[hp] at h3;have:=Qaa (64 * rn0 (b0 l 0)+b0 l 1 - 128);omega)];unfold decodeN;rw[if_neg (by omega),if_pos (by omega),if_neg hg]
  rw[QbI hk (by intro h;have:=(rok1 l).1 h.1;omega)];unfold decodeN;rw[if_neg (by omega),if_neg (by omega),if_neg (by omega),if_neg (by omega)]
 ·have hp:rpart l 3=64 * (64 * rn0 (b0 l 0)+b0 l 1 - 128)+b0 l 2 - 128:=rfl;by_cases hc:(1<l.length/\x1 / 64=2)/\(2<l.length/\x2 / 64=2)
  ·have hr:rok l 2=true:=(rok2 l).2 (by omega);obtain⟨v,hv⟩:∃v,v=x0%16 * 4096+x1%64 * 64+x2%64:=⟨_,rfl⟩;have hpv:rpart l 3=(v:Int):=by rw[hp];omega
   by_cases hg:v ≥ 2048/\(v<55296\/(57344<=v/\v<=1114111))
   ·rw[QdC hk (by decide) hr (by rw[hpv,Qag];omega) (by rw[hpv];have:=Qaa (v:Int);omega),hpv];unfold decodeN;rw[if_neg (by omega),if_neg (by omega),if_pos (by omega),<-hv,if_pos hg];rfl
   rw[QbI hk (by intro h;have h2:=h.2.1;have h3:=h.2.2;rw[hpv] at h2 h3;rw[Qag] at h2;have:=Qaa (v:Int);omega)];unfold decodeN;rw[if_neg (by omega),if_neg (by omega),if_pos (by omega),<-hv,if_neg hg]
  rw[QbI hk (by intro h;have:=(rok2 l).1 h.1;omega)];unfold decodeN;rw[if_neg (by omega),if_neg (by omega),if_neg (by omega),if_neg (by omega)]
 ·have hp:rpart l 4=64 * (64 * (64 * rn0 (b0 l 0)+b0 l 1 - 128)+b0 l 2 - 128)+b0 l 3 - 128:=rfl;by_cases hc:(1<l.length/\x1 / 64=2)/\(2<l.length/\x2 / 64=2)/\(3<l.length/\x3 / 64=2)
  ·have hr:rok l 3=true:=(rok3 l).2 (by omega);obtain⟨v,hv⟩:∃v,v=x0%8 * 262144+x1%64 * 4096+x2%64 * 64+x3%64:=⟨_,rfl⟩;have hpv:rpart l 4=(v:Int):=by rw[hp];omega
   by_cases hg:v ≥ 65536/\(v<55296\/(57344<=v/\v<=1114111))
   ·rw[QdC hk (by decide) hr (by rw[hpv,Qag];omega) (by rw[hpv];have:=Qaa (v:Int);omega),hpv];unfold decodeN;rw[if_neg (by omega),if_neg (by omega),if_neg (by omega),if_pos (by omega),<-hv,if_pos hg];rfl
   rw[QbI hk (by intro h;have h2:=h.2.1;have h3:=h.2.2;rw[hpv] at h2 h3;rw[Qag] at h2;have:=Qaa (v:Int);omega)];unfold decodeN;rw[if_neg (by omega),if_neg (by omega),if_neg (by omega),if_pos (by omega),<-hv,if_neg hg]
  rw[QbI hk (by intro h;have:=(rok3 l).1 h.1;omega)];unfold decodeN;rw[if_neg (by omega),if_neg (by omega),if_neg (by omega),if_neg (by omega)]
 rw[QbI hk (by intro h;exact absurd h.2.2 (by show ¬utfLen 0=0;decide))];unfold decodeN;rw[if_neg (by omega),if_neg (by omega),if_neg (by omega),if_neg (by omega)]
theorem Qe5 (s:ByteArray) (i k:Nat):(s.get! (i+k)).toNat=dNat (s.data.toList.drop i) k:=by
 unfold dNat;congr 1;rw[List.getD_eq_getElem?_getD,List.getElem?_drop,Array.getElem?_toList];show s.data[i+k]! = _;rw[Array.getElem!_eq_getD];unfold Array.getD;by_cases h:i+k<s.data.size
 ·rw[dif_pos h,Array.getElem?_eq_getElem h];rfl
 rw[dif_neg h,Array.getElem?_eq_none (by omega)];rfl
theorem QkY (s:ByteArray) (i:Nat):Go.Utf8.decode s i=decS (utfHead (s.data.toList.drop i)):=by
 rw[decode_at,<-Qnp];have h0:=Qe5 s i 0;rw[Nat.add_zero] at h0;rw[h0,Qe5 s i 1,Qe5 s i 2,Qe5 s i 3];congr 1;rw[List.length_drop];rfl
theorem dec_L (l:Bytes):decodeL l=decS (utfHead l):=by
 have h:=QkY ⟨l.toArray⟩ 0;rw[List.drop_zero] at h;exact h
theorem QfA :∀(n:Nat) (l:Bytes),l.length<=n->validGoD n l=(signs 0 l).all (fun x=>x.1 != -1)
 |0,l,h=>by
  obtain rfl:l=[]:=List.length_eq_zero_iff.1 (by omega)
  rw[QaB];rfl
 |n+1,l,h=>by
  unfold validGoD
  by_cases hl:l=[]
  ·rw[if_pos hl,hl,QaB];rfl
  rw[if_neg hl,dec_L]
  have hlen:0<l.length:=List.length_pos_iff.2 hl
  have hh:headSg 0 l=some (utfHead l):=by unfold headSg;rw[if_neg (by omega),if_pos rfl]
  have hsz:=QaU hh
  rw[Qap hh,List.all_cons]
  by_cases he:(utfHead l).1 = -1
  ·have:decS (utfHead l)=(65533,1):=by unfold decS;rw[if_pos he]
   rw[this,if_pos ⟨rfl,rfl⟩]
   simp [he]
  have:decS (utfHead l)=((utfHead l).1.toNat,(utfHead l).2):=by unfold decS;rw[if_neg he]
  rw[this]
  have hne:¬((utfHead l).1.toNat=65533/\(utfHead l).2=1):=by
   rintro ⟨a,b⟩;have:=(QjO (c:=(utfHead l).1) (n:=(utfHead l).2) hlen rfl he).2;rw[QaS] at this;have:=Qaa (utfHead l).1;omega
  rw[if_neg hne];simp only;rw[QfA n (l.drop (utfHead l).2) (by rw[List.length_drop];omega)];simp [he]
theorem QgE (l:Bytes):validD l=(signs 0 l).all (fun x=>x.1 != -1):=QfA l.length l (Z6 _)
theorem Qc9 :∀(S:List Sg) (h:Nat),(atomsF h S).any (fun x=>x.1==4)=!(S.all (fun x=>x.1 != -1))
 |[],h=>by
  rw[atomsF];split<;>simp
 |x :: r,h=>by
  rw[atomsF,List.all_cons]
  by_cases q:0<h/\x.1=10
  ·rw[if_pos q,List.any_cons,Qc9 r 0];simp [q.2]
  rw[if_neg q,List.any_append]
  have e1:(if 0<h then [((2:Int),(10:Int),h)] else []).any (fun x=>x.1==4)=false:=by split<;>simp
  rw[e1,Bool.false_or]
  by_cases h13:x.1=13
  ·rw[if_pos h13,Qc9 r x.2];simp [h13]
  rw[if_neg h13,List.any_cons,Qc9 r 0]
  unfold singleA
  by_cases g:x.1 = -1
  ·rw[if_pos g];simp [g]
  rw[if_neg g]
  by_cases g2:x.1=10
  ·rw[if_pos g2];simp [g2]
  rw[if_neg g2];simp [g]
theorem QfL (l:Bytes):validD l=!((atoms 0 l).any (fun x=>x.1==4)):=by
 rw[QgE];show _=!((atomsF 0 (signs 0 l)).any (fun x=>x.1==4));rw[Qc9,Bool.not_not]
end Vm
