import Derived.Test.YtoejbngihecafaaGreatDoorC14
import Derived.Test.YtoejbngihecafaaGreatDoorC0
namespace Go.Proofs.YtoejbngihecafaaGreatDoor
open Go.RowKit
variable {c:Cn} {A B:List Vm.At}
def fitN (φ:Cn->Bool) (c:Cn):List Vm.At->Nat
 |[]=>0
 |x :: r=>if φ (c.plus (cnOf [x])) then 1+fitN φ (c.plus (cnOf [x])) r else 0
def FitMono (φ:Cn->Bool) (c:Cn) (A:List Vm.At):Prop:=∀k j,k<=j->φ (c.plus (cnOf (A.take j)))=true->φ (c.plus (cnOf (A.take k)))=true
theorem Cn.plus_zero (a:Cn):a.plus (cnOf [])=a:=by simp [Cn.plus,cnOf,Vm.sizeA,Vm.bytesA,Vm.unitsA,Vm.cntK]
theorem Qbf (x:Vm.At) (r:List Vm.At):cnOf (x :: r)=(cnOf [x]).plus (cnOf r):=by
 rw[<-Qa2];rfl
theorem Qmc (φ:Cn->Bool):∀(A:List Vm.At) (c:Cn),fitN φ c A<=A.length
 |[],_=>Z6 _
 |x :: r,c=>by
  unfold fitN
  split
  ·have:=Qmc φ r (c.plus (cnOf [x]));simp;omega
  simp
theorem FitMono.tail {φ:Cn->Bool} {x:Vm.At} {r:List Vm.At} (h:FitMono φ c (x :: r)):FitMono φ (c.plus (cnOf [x])) r:=by
 intro k j hkj hj;have:=h (k+1) (j+1) (by omega);simp only[List.take_succ_cons] at this;rw[Qbf x (r.take j),Qbf x (r.take k),<-Cn.plus_assoc,<-Cn.plus_assoc] at this;exact this hj
theorem QjA (φ:Cn->Bool):∀(A:List Vm.At) (c:Cn),FitMono φ c A->φ (c.plus (cnOf A))=true->fitN φ c A=A.length
 |[],_,_,_=>rfl
 |x :: r,c,hm,h=>by
  have h1:φ (c.plus (cnOf [x]))=true:=by
   have:=hm 1 (r.length+1) (by omega);rw[List.take_of_length_le (by simp)] at this;exact this h
  unfold fitN;rw[if_pos h1];cases r with
  |nil=>rfl
  |cons y r =>
   rw[QjA φ (y :: r) (c.plus (cnOf [x])) hm.tail (by rw[Cn.plus_assoc,<-Qbf];exact h)];simp;omega
theorem Qdp (φ:Cn->Bool):∀(A B:List Vm.At) (c:Cn),fitN φ c (A++B)=if fitN φ c A=A.length then A.length+fitN φ (c.plus (cnOf A)) B else fitN φ c A
 |[],B,c=>by simp [fitN,Cn.plus_zero]
 |x :: r,B,c=>by
  show fitN φ c (x :: (r++B))=_
  by_cases h1:φ (c.plus (cnOf [x]))=true
  ·have e1:fitN φ c (x :: (r++B))=1+fitN φ (c.plus (cnOf [x])) (r++B):=by rw[fitN,if_pos h1]
   have e2:fitN φ c (x :: r)=1+fitN φ (c.plus (cnOf [x])) r:=by rw[fitN,if_pos h1]
   rw[e1,e2,Qdp φ r B,Qbf x r,<-Cn.plus_assoc]
   by_cases h2:fitN φ (c.plus (cnOf [x])) r=r.length
   ·rw[if_pos h2,if_pos (by rw[h2];simp;omega)];simp;omega
   rw[if_neg h2,if_neg (by simp;omega)]
  have e1:fitN φ c (x :: (r++B))=0:=by rw[fitN,if_neg h1]
  have e2:fitN φ c (x :: r)=0:=by rw[fitN,if_neg h1]
  rw[e1,e2,if_neg (by simp)]
def aheadC (φ:Cn->Bool) (c:Cn) (A:List Vm.At):Cn:=c.plus (cnOf (A.take (fitN φ c A)))
theorem FitMono.left {φ:Cn->Bool} (h:FitMono φ c (A++B)):FitMono φ c A:=by
 intro k j hkj hj;by_cases hja:j<=A.length
 ·have:=h k j hkj;rw[List.take_append_of_le_length hja,List.take_append_of_le_length (by omega)] at this;exact this hj
 rw[List.take_of_length_le (by omega)] at hj;by_cases hka:k<=A.length
 ·have:=h k A.length hka;rw[List.take_append_of_le_length (Z6 _),List.take_append_of_le_length hka,List.take_length] at this;exact this hj
 rw[List.take_of_length_le (by omega)];exact hj
theorem FitMono.right {φ:Cn->Bool}:∀{A B:List Vm.At} {c:Cn},FitMono φ c (A++B)->FitMono φ (c.plus (cnOf A)) B
 |[],B,c,h=>by rw[Cn.plus_zero];exact h
 |x :: r,B,c,h=>by
  have:=FitMono.right (A:=r) (B:=B) (c:=c.plus (cnOf [x])) (FitMono.tail h)
  rw[Qbf x r,<-Cn.plus_assoc];exact this
theorem Qix {φ:Cn->Bool} (hm:FitMono φ c (A++B)) (h:φ (c.plus (cnOf A))=true):aheadC φ c (A++B)=aheadC φ (c.plus (cnOf A)) B:=by
 unfold aheadC;rw[Qdp,if_pos (QjA φ A c hm.left h),List.take_append,List.take_of_length_le (by omega),Nat.add_sub_cancel_left,Qa2,Cn.plus_assoc]
theorem Qkn {φ:Cn->Bool} (hm:FitMono φ c (A++B)) (h:φ (c.plus (cnOf A))=false):aheadC φ c (A++B)=aheadC φ c A:=by
 by_cases hA:A=[]
 ·subst hA
  have h0:fitN φ c B=0:=by
   cases B with
   |nil=>rfl
   |cons x r =>
    have:=hm 0 1 (by omega);simp only[List.nil_append,List.take_succ_cons,List.take_zero] at this;rw[fitN,if_neg (fun hx=>by rw[this hx] at h;cases h)]
  unfold aheadC;rw[List.nil_append,h0];simp
 have hn:fitN φ c A≠A.length:=by
  intro e
  have key:∀(A:List Vm.At) (c:Cn),A≠[]->fitN φ c A=A.length->φ (c.plus (cnOf A))=true:=by
   intro A
   induction A with
   |nil=>intro c h;exact absurd rfl h
   |cons x r ih =>
    intro c _ he;by_cases h1:φ (c.plus (cnOf [x]))=true
    ·cases r with
     |nil=>exact h1
     |cons y r =>
      rw[fitN,if_pos h1] at he;have:=ih (c.plus (cnOf [x])) (by simp) (by simp at he ⊢;omega);rw[Cn.plus_assoc,<-Qbf] at this;exact this
    rw[fitN,if_neg h1] at he;simp at he
  rw[key A c hA e] at h;cases h
 unfold aheadC;rw[Qdp,if_neg hn,List.take_append_of_le_length (Qmc φ A c)]
theorem Qfv (φ:Cn->Bool):∀(A:List Vm.At) (c:Cn) (k:Nat),k<=A.length->(∀j,1<=j->j<=k->φ (c.plus (cnOf (A.take j)))=true)->(k<A.length->φ (c.plus (cnOf (A.take (k+1))))=false)->fitN φ c A=k
 |[],c,k,hk,_,_=>by simp at hk;subst hk;rfl
 |x :: r,c,k,hk,h1,h2=>by
  cases k with
  |zero =>
   have:=h2 (by simp)
   simp only[List.take_succ_cons,List.take_zero] at this
   rw[fitN,if_neg (by rw[this];simp)]
  |succ k =>
   have h0:=h1 1 (Z6 _) (by omega)
   simp only[List.take_succ_cons,List.take_zero] at h0
   rw[fitN,if_pos h0,Qfv φ r (c.plus (cnOf [x])) k (by simpa using hk) ?_ ?_]
   ·omega
   ·intro j hj hjk
    have:=h1 (j+1) (by omega) (by omega)
    rwa [List.take_succ_cons,Qbf,<-Cn.plus_assoc] at this
   intro hlt
   have:=h2 (by simpa using hlt)
   rwa [List.take_succ_cons,Qbf,<-Cn.plus_assoc] at this
theorem Qfy (φ:Cn->Bool):∀(A:List Vm.At) (c:Cn),fitN φ c A<=A.length/\(∀j,1<=j->j<=fitN φ c A->φ (c.plus (cnOf (A.take j)))=true)/\(fitN φ c A<A.length->φ (c.plus (cnOf (A.take (fitN φ c A+1))))=false)
 |[],c=>⟨Z6 _,fun j h1 h2=>by simp [fitN] at h2;omega,fun h=>by simp [fitN] at h⟩
 |x :: r,c=>by
  obtain⟨i1,i2,i3⟩:=Qfy φ r (c.plus (cnOf [x]))
  by_cases h:φ (c.plus (cnOf [x]))=true
  ·rw[fitN,if_pos h]
   refine⟨by simp;omega,fun j h1 h2=>?_,fun hl=>?_⟩
   ·cases j with
    |zero=>omega
    |succ j =>
     rw[List.take_succ_cons,Qbf,<-Cn.plus_assoc]
     cases j with
     |zero=>rw[List.take_zero,Cn.plus_zero];exact h
     |succ j=>exact i2 (j+1) (by omega) (by omega)
   rw[Nat.add_comm 1,List.take_succ_cons,Qbf,<-Cn.plus_assoc]
   exact i3 (by simp at hl;omega)
  rw[fitN,if_neg h]
  refine⟨Nat.zero_le _,fun j h1 h2=>by omega,fun _=>?_⟩
  simp only[Nat.zero_add,List.take_succ_cons,List.take_zero]
  simpa using h
def cn0:Cn:=⟨0,0,0,0,0,0,0,0⟩
theorem QaW (c:Cn):cn0.plus c=c:=by simp [cn0,Cn.plus]
end Go.Proofs.YtoejbngihecafaaGreatDoor
namespace Vm
open Go.Proofs.YtoejbngihecafaaGreatDoor
variable {A:List At} {k:Nat} {x:At}
def lnC (c:Cn):Nat:=c.lf+c.crlf+c.cr
theorem QmN (x:At):1<=lenA x:=by unfold lenA utfLen;split<;>(try split)<;>(try split)<;>omega
theorem Qok (x:At):1<=unA x:=by unfold unA;split<;>omega
theorem QdW (h:k<A.length):∃x,A[k]?=some x/\x∈A:=⟨A[k],by simp [h],List.getElem_mem h⟩
theorem Qeb (A:List At):∀(j k:Nat),j<k->k<=A.length->bytesA (A.take j)<bytesA (A.take k)
 |j,0,h,_=>by omega
 |j,k+1,h,hk=>by
  obtain⟨x,hx,_⟩:=QdW (A:=A) (k:=k) (by omega)
  rw[Qbx hx]
  have h1:=QmN x
  by_cases hj:j=k
  ·subst hj;omega
  have:=Qeb A j k (by omega) (by omega);omega
theorem Qfb (A:List At):∀(j k:Nat),j<k->k<=A.length->unitsA (A.take j)<unitsA (A.take k)
 |j,0,h,_=>by omega
 |j,k+1,h,hk=>by
  obtain⟨x,hx,_⟩:=QdW (A:=A) (k:=k) (by omega)
  rw[Qdw hx]
  have h1:=Qok x
  by_cases hj:j=k
  ·subst hj;omega
  have:=Qfb A j k (by omega) (by omega);omega
theorem Qbm (A:List At):∀(j k:Nat),j<=k->linesA (A.take j)<=linesA (A.take k)
 |j,0,h=>by
     have:j=0:=by omega
     subst this;exact Z6 _
 |j,k+1,h=>by
  by_cases hj:j=k+1
  ·subst hj;exact Z6 _
  have ih:=Qbm A j k (by omega)
  by_cases hk:k<A.length
  ·obtain⟨x,hx,_⟩:=QdW (A:=A) (k:=k) hk
   rw[QaL hx];omega
  rw[List.take_of_length_le (i:=k+1) (by omega)]
  rw[List.take_of_length_le (i:=k) (by omega)] at ih;exact ih
theorem QbB (A:List At) (j k:Nat) (h:j<=k):bytesA (A.take j)<=bytesA (A.take k):=by
 by_cases hk:k<=A.length
 ·by_cases hj:j=k
  ·subst hj;exact Z6 _
  exact Nat.le_of_lt (Qeb A j k (by omega) hk)
 rw[List.take_of_length_le (i:=k) (by omega)];by_cases hj:j<A.length
 ·have:=Qeb A j A.length hj (Z6 _);rw[List.take_length] at this;omega
 rw[List.take_of_length_le (by omega)];exact Z6 _
theorem Qdl (A:List At) (j k:Nat) (h:j<=k):unitsA (A.take j)<=unitsA (A.take k):=by
 by_cases hk:k<=A.length
 ·by_cases hj:j=k
  ·subst hj;exact Z6 _
  exact Nat.le_of_lt (Qfb A j k (by omega) hk)
 rw[List.take_of_length_le (i:=k) (by omega)];by_cases hj:j<A.length
 ·have:=Qfb A j A.length hj (Z6 _);rw[List.take_length] at this;omega
 rw[List.take_of_length_le (by omega)];exact Z6 _
def colA (A:List At):Nat:=A.foldl (fun c x=>if x.1<=2 then 0 else c+unA x) 0
theorem Qcf (h:A[k]?=some x):colA (A.take (k+1))=if x.1<=2 then 0 else colA (A.take k)+unA x:=by
 rw[List.take_add_one,h];unfold colA;rw[List.foldl_append];rfl
def plK (A:List At) (o:Int):Nat:=fitN (fun c=>decide ((c.bytes:Int)<=o)) cn0 A
theorem Qn3 {o:Int} (hk:k<=A.length) (h1:(bytesA (A.take k):Int)<=o) (h2:k<A.length->o<bytesA (A.take (k+1))):plK A o=k:=by
 refine Qfv _ A cn0 k hk (fun j _ hj=>?_) (fun hl=>?_)
 ·rw[QaW];have:=QbB A j k hj;simp [cnOf];omega
 rw[QaW];have:=h2 hl;simp [cnOf];omega
theorem Qc7 (A:List At) (o:Int) (h0:0<=o):plK A o<=A.length/\(bytesA (A.take (plK A o)):Int)<=o/\(plK A o<A.length->o<bytesA (A.take (plK A o+1))):=by
 obtain⟨h1,h2,h3⟩:=Qfy (fun c=>decide ((c.bytes:Int)<=o)) A cn0;refine⟨h1,?_,fun hl=>?_⟩
 ·show (bytesA (A.take (fitN _ cn0 A)):Int)<=o;by_cases hz:fitN (fun c=>decide ((c.bytes:Int)<=o)) cn0 A=0
  ·rw[hz];simpa [bytesA] using h0
  have:=h2 _ (by omega) (Z6 _);rw[QaW] at this;simpa [cnOf] using this
 have:=h3 hl;rw[QaW] at this;unfold plK;simpa [cnOf] using this
theorem QkO (A:List At) (o:Int):FitMono (fun c=>decide ((c.bytes:Int)<=o)) cn0 A:=by
 intro k j hkj h;rw[QaW] at h ⊢;have:=QbB A k j hkj;simp [cnOf] at h ⊢;omega
def begK (A:List At) (n:Int):Nat:=fitN (fun c=>decide ((lnC c:Int)<n)) cn0 A
def begA (A:List At) (n:Int):Nat:=if n=0 then 0 else unitsA (A.take (begK A n))+1
theorem Qei :∀(A:List At),(∀x∈A,AtOk x)->linesA A=lnC (cnOf A)
 |[],_=>rfl
 |x :: r,h=>by
  have ih:=Qei r (fun y hy=>h y (by simp [hy]))
  obtain⟨h0,h4,_⟩:=h x (by simp)
  simp only[lnC,cnOf,linesA,cntK,List.filter_cons] at ih ⊢
  have hx:x.1=0\/x.1=1\/x.1=2\/x.1=3\/x.1=4:=by omega
  rcases hx with e|e|e|e|e<;>rw[e]<;>simp<;>omega
theorem Qdc (A:List At) (hA:∀x∈A,AtOk x) (k:Nat):lnC (cnOf (A.take k))=linesA (A.take k):=(Qei _ (fun x hx=>hA x (List.mem_of_mem_take hx))).symm
theorem Qks (hA:∀x∈A,AtOk x) (n:Int):FitMono (fun c=>decide ((lnC c:Int)<n)) cn0 A:=by
 intro k j hkj h;simp only at h ⊢;rw[QaW,Qdc A hA] at h ⊢;have:=Qbm A k j hkj;simp at h ⊢;omega
theorem Qno (hA:∀x∈A,AtOk x) (line b col:Int):FitMono (fun c=>decide ((lnC c:Int)<=line)&&decide ((c.units:Int) - b<=col)) cn0 A:=by
 intro k j hkj h;simp only at h ⊢;rw[QaW,Qdc A hA] at h ⊢;have:=Qbm A k j hkj;have:=Qdl A k j hkj;simp [cnOf] at h ⊢;omega
theorem QoM (hA:∀x∈A,AtOk x) (hx:A[k]?=some x) (he:x.1<=2):begK A ((linesA (A.take k):Int)+1)=k:=by
 have hk:k<A.length:=by
  rcases Nat.lt_or_ge k A.length with h|h
  ·exact h
  rw[List.getElem?_eq_none h] at hx;cases hx
 refine Qfv _ A cn0 k (by omega) (fun j _ hj=>?_) (fun hl=>?_)
 ·rw[QaW,Qdc A hA];have:=Qbm A j k hj;simp;omega
 rw[QaW,Qdc A hA,QaL hx,if_pos he];simp
theorem QbW (hA:∀x∈A,AtOk x):∀k,k<=A.length->unitsA (A.take k)=begA A (linesA (A.take k))+colA (A.take k)
 |0,_=>by simp [unitsA,begA,linesA,colA]
 |k+1,hk=>by
  obtain⟨x,hx,hm⟩:=QdW (A:=A) (k:=k) (by omega)
  have ih:=QbW hA k (by omega)
  rw[Qdw hx,QaL hx,Qcf hx]
  by_cases he:x.1<=2
  ·rw[if_pos he,if_pos he]
   have hb:=QoM hA hx he
   have hu:unA x=1:=by
    have:=(hA x hm).2.2.2.1 he;unfold unA chA;rw[this];rfl
   unfold begA;rw[if_neg (by omega),show ((linesA (A.take k)+1:Nat):Int)=(linesA (A.take k):Int)+1 by omega,hb,hu,Nat.add_zero]
  rw[if_neg he,if_neg he,Nat.add_zero,ih];omega
theorem Qgj (hA:∀x∈A,AtOk x):∀k,k<=A.length->∀n,n<=linesA (A.take k)->∃a,a<=k/\linesA (A.take a)=n/\colA (A.take a)=0
 |0,_,n,hn=>⟨0,Z6 _,by simp [linesA] at hn ⊢;omega,by simp [colA]⟩
 |k+1,hk,n,hn=>by
  obtain⟨x,hx,hm⟩:=QdW (A:=A) (k:=k) (by omega)
  rw[QaL hx] at hn
  by_cases h:n<=linesA (A.take k)
  ·obtain⟨a,h1,h2,h3⟩:=Qgj hA k (by omega) n h
   exact⟨a,by omega,h2,h3⟩
  by_cases he:x.1<=2
  ·rw[if_pos he] at hn
   refine⟨k+1,Z6 _,?_,?_⟩
   ·rw[QaL hx,if_pos he];omega
   rw[Qcf hx,if_pos he]
  rw[if_neg he] at hn;omega
def offK (A:List At) (line col:Int):Nat:=fitN (fun c=>decide ((lnC c:Int)<=line)&&decide ((c.units:Int) - (begA A line:Int)<=col)) cn0 A
theorem QlU (hA:∀x∈A,AtOk x) {line:Nat} {col:Int} (hl:line<=linesA A) (hc:0<=col) :
  offK A line col<=A.length/\linesA (A.take (offK A line col))=line/\(colA (A.take (offK A line col)):Int)<=col/\∀i,offK A line col<i->i<=A.length->¬(linesA (A.take i)=line/\(colA (A.take i):Int)<=col):=by
 obtain⟨h1,h2,h3⟩:=Qfy (fun c=>decide ((lnC c:Int)<=line)&&decide ((c.units:Int) - (begA A line:Int)<=col)) A cn0
 have hk:offK A line col=fitN (fun c=>decide ((lnC c:Int)<=line)&&decide ((c.units:Int) - (begA A line:Int)<=col)) cn0 A:=rfl
 rw[<-hk] at h1 h2 h3
 generalize offK A line col=k at *
 have hphi:∀i,i<=A.length->((decide ((lnC (cn0.plus (cnOf (A.take i))):Int)<=line)&&decide (((cn0.plus (cnOf (A.take i))).units:Int) - (begA A line:Int)<=col))=true↔linesA (A.take i)<=line/\(unitsA (A.take i):Int) - begA A line<=col):=by
  intro i hi;rw[QaW,Qdc A hA];simp [cnOf]
 obtain⟨a,ha,ha1,ha2⟩:=Qgj hA A.length (Z6 _) line (by rw[List.take_length];exact hl)
 have hka:a<=k:=by
  rcases Nat.lt_or_ge k a with hlt|hge
  ·have hf:=h3 (by omega)
   have ht:=(hphi (k+1) (by omega)).2 ⟨by have:=Qbm A (k+1) a (by omega);omega,by
    have:=Qdl A (k+1) a (by omega);have:=QbW hA a ha
    rw[ha1,ha2] at this;omega⟩
   rw[hf] at ht;cases ht
  exact hge
 have hlk:linesA (A.take k)=line:=by
  have:=Qbm A a k hka;by_cases hz:k=0
  ·have:a=0:=by omega
   subst this;rw[hz];exact ha1
  have:=((hphi k h1).1 (h2 k (by omega) (Z6 _))).1;omega
 have huk:=QbW hA k h1
 rw[hlk] at huk
 refine⟨h1,hlk,?_,?_⟩
 ·by_cases hz:k=0
  ·subst hz;simpa [colA] using hc
  have:=((hphi k h1).1 (h2 k (by omega) (Z6 _))).2;omega
 rintro i hi hil ⟨e1,e2⟩
 have hf:=h3 (by omega)
 have ht:=(hphi (k+1) (by omega)).2 ⟨by have:=Qbm A (k+1) i (by omega);omega,by
  have:=Qdl A (k+1) i (by omega);have:=QbW hA i hil
  rw[e1] at this;omega⟩
 rw[hf] at ht;cases ht
def posV (A:List At) (o:Int):Int × Int × Int :=
 if o<0\/(bytesA A:Int)<o then (0,0,2) else if (bytesA (A.take (plK A o)):Int)<o then (0,0,3) else (linesA (A.take (plK A o)),colA (A.take (plK A o)),0)
def offV (A:List At) (line col:Int):Int × Int :=
 if line<0\/(linesA A:Int)<line then (0,10) else if col<0 then (0,2) else (bytesA (A.take (offK A line col)),0)
end Vm
