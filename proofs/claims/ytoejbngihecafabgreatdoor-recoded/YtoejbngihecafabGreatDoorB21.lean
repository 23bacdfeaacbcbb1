import Derived.Test.YtoejbngihecafabGreatDoorB14
namespace Go.Proofs.YtoejbngihecafabGreatDoor
open Go.RowKit
def fitN (φ:Cn->Bool) (c:Cn):List Vm.At->Nat
 |[]=>0
 |x :: r=>if φ (c.plus (cnOf [x])) then 1+fitN φ (c.plus (cnOf [x])) r else 0
def FitMono (φ:Cn->Bool) (c:Cn) (A:List Vm.At):Prop:=∀k j,k<=j->φ (c.plus (cnOf (A.take j)))=true->φ (c.plus (cnOf (A.take k)))=true
theorem Cn.plus_zero (a:Cn):a.plus (cnOf [])=a:=by simp [Cn.plus,cnOf,Vm.sizeA,Vm.bytesA,Vm.unitsA,Vm.cntK]
theorem cnOf_cons (x:Vm.At) (r:List Vm.At):cnOf (x :: r)=(cnOf [x]).plus (cnOf r):=by
 rw[<-cnOf_append];rfl
theorem fitN_le (φ:Cn->Bool):∀(A:List Vm.At) (c:Cn),fitN φ c A<=A.length
 |[],_=>Nat.le_refl _
 |x :: r,c=>by
  unfold fitN
  split
  ·have:=fitN_le φ r (c.plus (cnOf [x]));simp;omega
  ·simp
theorem FitMono.tail {φ:Cn->Bool} {c:Cn} {x:Vm.At} {r:List Vm.At} (h:FitMono φ c (x :: r)):FitMono φ (c.plus (cnOf [x])) r:=by
 intro k j hkj hj
 have:=h (k+1) (j+1) (by omega)
 simp only[List.take_succ_cons] at this
 rw[cnOf_cons x (r.take j),cnOf_cons x (r.take k),<-Cn.plus_assoc,<-Cn.plus_assoc] at this
 exact this hj
theorem fitN_all (φ:Cn->Bool):∀(A:List Vm.At) (c:Cn),FitMono φ c A->φ (c.plus (cnOf A))=true->fitN φ c A=A.length
 |[],_,_,_=>rfl
 |x :: r,c,hm,h=>by
  have h1:φ (c.plus (cnOf [x]))=true:=by
   have:=hm 1 (r.length+1) (by omega)
   rw[List.take_of_length_le (by simp)] at this
   exact this h
  unfold fitN
  rw[if_pos h1]
  cases r with
  |nil=>rfl
  |cons y r =>
   rw[fitN_all φ (y :: r) (c.plus (cnOf [x])) hm.tail (by rw[Cn.plus_assoc,<-cnOf_cons];exact h)]
   simp;omega
theorem fitN_append (φ:Cn->Bool):∀(A B:List Vm.At) (c:Cn),fitN φ c (A++B)=if fitN φ c A=A.length then A.length+fitN φ (c.plus (cnOf A)) B else fitN φ c A
 |[],B,c=>by simp [fitN,Cn.plus_zero]
 |x :: r,B,c=>by
  show fitN φ c (x :: (r++B))=_
  by_cases h1:φ (c.plus (cnOf [x]))=true
  ·have e1:fitN φ c (x :: (r++B))=1+fitN φ (c.plus (cnOf [x])) (r++B):=by rw[fitN,if_pos h1]
   have e2:fitN φ c (x :: r)=1+fitN φ (c.plus (cnOf [x])) r:=by rw[fitN,if_pos h1]
   rw[e1,e2,fitN_append φ r B,cnOf_cons x r,<-Cn.plus_assoc]
   by_cases h2:fitN φ (c.plus (cnOf [x])) r=r.length
   ·rw[if_pos h2,if_pos (by rw[h2];simp;omega)];simp;omega
   ·rw[if_neg h2,if_neg (by simp;omega)]
  ·have e1:fitN φ c (x :: (r++B))=0:=by rw[fitN,if_neg h1]
   have e2:fitN φ c (x :: r)=0:=by rw[fitN,if_neg h1]
   rw[e1,e2,if_neg (by simp)]
def aheadC (φ:Cn->Bool) (c:Cn) (A:List Vm.At):Cn:=c.plus (cnOf (A.take (fitN φ c A)))
theorem FitMono.left {φ:Cn->Bool} {c:Cn} {A B:List Vm.At} (h:FitMono φ c (A++B)):FitMono φ c A:=by
 intro k j hkj hj
 by_cases hja:j<=A.length
 ·have:=h k j hkj
  rw[List.take_append_of_le_length hja,List.take_append_of_le_length (by omega)] at this
  exact this hj
 ·rw[List.take_of_length_le (by omega)] at hj
  by_cases hka:k<=A.length
  ·have:=h k A.length hka
   rw[List.take_append_of_le_length (Nat.le_refl _),List.take_append_of_le_length hka,List.take_length] at this
   exact this hj
  ·rw[List.take_of_length_le (by omega)];exact hj
theorem FitMono.right {φ:Cn->Bool}:∀{A B:List Vm.At} {c:Cn},FitMono φ c (A++B)->FitMono φ (c.plus (cnOf A)) B
 |[],B,c,h=>by rw[Cn.plus_zero];exact h
 |x :: r,B,c,h=>by
  have:=FitMono.right (A:=r) (B:=B) (c:=c.plus (cnOf [x])) (FitMono.tail h)
  rw[cnOf_cons x r,<-Cn.plus_assoc];exact this
theorem ahead_right {φ:Cn->Bool} {c:Cn} {A B:List Vm.At} (hm:FitMono φ c (A++B)) (h:φ (c.plus (cnOf A))=true):aheadC φ c (A++B)=aheadC φ (c.plus (cnOf A)) B:=by
 unfold aheadC
 rw[fitN_append,if_pos (fitN_all φ A c hm.left h),List.take_append,List.take_of_length_le (by omega),Nat.add_sub_cancel_left,cnOf_append,Cn.plus_assoc]
theorem ahead_left {φ:Cn->Bool} {c:Cn} {A B:List Vm.At} (hm:FitMono φ c (A++B)) (h:φ (c.plus (cnOf A))=false):aheadC φ c (A++B)=aheadC φ c A:=by
 by_cases hA:A=[]
 ·subst hA
  have h0:fitN φ c B=0:=by
   cases B with
   |nil=>rfl
   |cons x r =>
    have:=hm 0 1 (by omega)
    simp only[List.nil_append,List.take_succ_cons,List.take_zero] at this
    rw[fitN,if_neg (fun hx=>by rw[this hx] at h;cases h)]
  unfold aheadC
  rw[List.nil_append,h0];simp
 have hn:fitN φ c A≠A.length:=by
  intro e
  have key:∀(A:List Vm.At) (c:Cn),A≠[]->fitN φ c A=A.length->φ (c.plus (cnOf A))=true:=by
   intro A
   induction A with
   |nil=>intro c h;exact absurd rfl h
   |cons x r ih =>
    intro c _ he
    by_cases h1:φ (c.plus (cnOf [x]))=true
    ·cases r with
     |nil=>exact h1
     |cons y r =>
      rw[fitN,if_pos h1] at he
      have:=ih (c.plus (cnOf [x])) (by simp) (by simp at he ⊢;omega)
      rw[Cn.plus_assoc,<-cnOf_cons] at this
      exact this
    ·rw[fitN,if_neg h1] at he;simp at he
  rw[key A c hA e] at h;cases h
 unfold aheadC
 rw[fitN_append,if_neg hn,List.take_append_of_le_length (fitN_le φ A c)]
end Go.Proofs.YtoejbngihecafabGreatDoor
namespace Go.Proofs.YtoejbngihecafabGreatDoor
theorem fitN_eq (φ:Cn->Bool):∀(A:List Vm.At) (c:Cn) (k:Nat),k<=A.length->(∀j,1<=j->j<=k->φ (c.plus (cnOf (A.take j)))=true)->(k<A.length->φ (c.plus (cnOf (A.take (k+1))))=false)->fitN φ c A=k
 |[],c,k,hk,_,_=>by simp at hk;subst hk;rfl
 |x :: r,c,k,hk,h1,h2=>by
  cases k with
  |zero =>
   have:=h2 (by simp)
   simp only[List.take_succ_cons,List.take_zero] at this
   rw[fitN,if_neg (by rw[this];simp)]
  |succ k =>
   have h0:=h1 1 (Nat.le_refl _) (by omega)
   simp only[List.take_succ_cons,List.take_zero] at h0
   rw[fitN,if_pos h0,fitN_eq φ r (c.plus (cnOf [x])) k (by simpa using hk) ?_ ?_]
   ·omega
   ·intro j hj hjk
    have:=h1 (j+1) (by omega) (by omega)
    rwa [List.take_succ_cons,cnOf_cons,<-Cn.plus_assoc] at this
   ·intro hlt
    have:=h2 (by simpa using hlt)
    rwa [List.take_succ_cons,cnOf_cons,<-Cn.plus_assoc] at this
theorem fitN_spec (φ:Cn->Bool):∀(A:List Vm.At) (c:Cn),fitN φ c A<=A.length/\(∀j,1<=j->j<=fitN φ c A->φ (c.plus (cnOf (A.take j)))=true)/\(fitN φ c A<A.length->φ (c.plus (cnOf (A.take (fitN φ c A+1))))=false)
 |[],c=>⟨Nat.le_refl _,fun j h1 h2=>by simp [fitN] at h2;omega,fun h=>by simp [fitN] at h⟩
 |x :: r,c=>by
  obtain⟨i1,i2,i3⟩:=fitN_spec φ r (c.plus (cnOf [x]))
  by_cases h:φ (c.plus (cnOf [x]))=true
  ·rw[fitN,if_pos h]
   refine⟨by simp;omega,fun j h1 h2=>?_,fun hl=>?_⟩
   ·cases j with
    |zero=>omega
    |succ j =>
     rw[List.take_succ_cons,cnOf_cons,<-Cn.plus_assoc]
     cases j with
     |zero=>rw[List.take_zero,Cn.plus_zero];exact h
     |succ j=>exact i2 (j+1) (by omega) (by omega)
   ·rw[Nat.add_comm 1,List.take_succ_cons,cnOf_cons,<-Cn.plus_assoc]
    exact i3 (by simp at hl;omega)
  ·rw[fitN,if_neg h]
   refine⟨Nat.zero_le _,fun j h1 h2=>by omega,fun _=>?_⟩
   simp only[Nat.zero_add,List.take_succ_cons,List.take_zero]
   simpa using h
def cn0:Cn:=⟨0,0,0,0,0,0,0,0⟩
theorem cn0_plus (c:Cn):cn0.plus c=c:=by simp [cn0,Cn.plus]
end Go.Proofs.YtoejbngihecafabGreatDoor
namespace Vm
open Go.Proofs.YtoejbngihecafabGreatDoor
def lnC (c:Cn):Nat:=c.lf+c.crlf+c.cr
theorem lenA_pos (x:At):1<=lenA x:=by unfold lenA utfLen;split<;>(try split)<;>(try split)<;>omega
theorem get_some {A:List At} {k:Nat} (h:k<A.length):∃x,A[k]?=some x/\x∈A:=⟨A[k],by simp [h],List.getElem_mem h⟩
theorem bytesA_lt (A:List At):∀(j k:Nat),j<k->k<=A.length->bytesA (A.take j)<bytesA (A.take k)
 |j,0,h,_=>by omega
 |j,k+1,h,hk=>by
  obtain⟨x,hx,_⟩:=get_some (A:=A) (k:=k) (by omega)
  rw[bytesA_take hx]
  have h1:=lenA_pos x
  by_cases hj:j=k
  ·subst hj;omega
  ·have:=bytesA_lt A j k (by omega) (by omega);omega
theorem bytesA_mono (A:List At) (j k:Nat) (h:j<=k):bytesA (A.take j)<=bytesA (A.take k):=by
 by_cases hk:k<=A.length
 ·by_cases hj:j=k
  ·subst hj;exact Nat.le_refl _
  ·exact Nat.le_of_lt (bytesA_lt A j k (by omega) hk)
 ·rw[List.take_of_length_le (i:=k) (by omega)]
  by_cases hj:j<A.length
  ·have:=bytesA_lt A j A.length hj (Nat.le_refl _);rw[List.take_length] at this;omega
  ·rw[List.take_of_length_le (by omega)];exact Nat.le_refl _
def colA (A:List At):Nat:=A.foldl (fun c x=>if x.1<=2 then 0 else c+unA x) 0
def plK (A:List At) (o:Int):Nat:=fitN (fun c=>decide ((c.bytes:Int)<=o)) cn0 A
theorem plK_eq {A:List At} {o:Int} {k:Nat} (hk:k<=A.length) (h1:(bytesA (A.take k):Int)<=o) (h2:k<A.length->o<bytesA (A.take (k+1))):plK A o=k:=by
 refine fitN_eq _ A cn0 k hk (fun j _ hj=>?_) (fun hl=>?_)
 ·rw[cn0_plus];have:=bytesA_mono A j k hj;simp [cnOf];omega
 ·rw[cn0_plus];have:=h2 hl;simp [cnOf];omega
theorem plK_spec (A:List At) (o:Int) (h0:0<=o):plK A o<=A.length/\(bytesA (A.take (plK A o)):Int)<=o/\(plK A o<A.length->o<bytesA (A.take (plK A o+1))):=by
 obtain⟨h1,h2,h3⟩:=fitN_spec (fun c=>decide ((c.bytes:Int)<=o)) A cn0
 refine⟨h1,?_,fun hl=>?_⟩
 ·show (bytesA (A.take (fitN _ cn0 A)):Int)<=o
  by_cases hz:fitN (fun c=>decide ((c.bytes:Int)<=o)) cn0 A=0
  ·rw[hz];simpa [bytesA] using h0
  ·have:=h2 _ (by omega) (Nat.le_refl _)
   rw[cn0_plus] at this;simpa [cnOf] using this
 ·have:=h3 hl
  rw[cn0_plus] at this
  unfold plK
  simpa [cnOf] using this
theorem mono_bytes (A:List At) (o:Int):FitMono (fun c=>decide ((c.bytes:Int)<=o)) cn0 A:=by
 intro k j hkj h
 rw[cn0_plus] at h ⊢
 have:=bytesA_mono A k j hkj
 simp [cnOf] at h ⊢;omega
def begK (A:List At) (n:Int):Nat:=fitN (fun c=>decide ((lnC c:Int)<n)) cn0 A
def begA (A:List At) (n:Int):Nat:=if n=0 then 0 else unitsA (A.take (begK A n))+1
def offK (A:List At) (line col:Int):Nat:=fitN (fun c=>decide ((lnC c:Int)<=line)&&decide ((c.units:Int) - (begA A line:Int)<=col)) cn0 A
end Vm
namespace Vm
open Go.Proofs.YtoejbngihecafabGreatDoor
def posV (A:List At) (o:Int):Int × Int × Int :=
 if o<0\/(bytesA A:Int)<o then (0,0,2) else if (bytesA (A.take (plK A o)):Int)<o then (0,0,3) else (linesA (A.take (plK A o)),colA (A.take (plK A o)),0)
def offV (A:List At) (line col:Int):Int × Int :=
 if line<0\/(linesA A:Int)<line then (0,10) else if col<0 then (0,2) else (bytesA (A.take (offK A line col)),0)
end Vm
