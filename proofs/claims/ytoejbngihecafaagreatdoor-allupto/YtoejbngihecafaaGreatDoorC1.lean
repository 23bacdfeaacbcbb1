import Derived.Test.YtoejbngihecafaaGreatDoorProg
import Derived.Test.YtoejbngihecafaaGreatDoorC0
namespace Vm
variable {c enc:Int} {k r n j i h:Nat} {b:ByteArray}
def sqUp (r:Nat):Int :=
 match r with
 |0=>127|1=>193|2=>223|3=>224|4=>236|5=>237|6=>239|7=>240|8=>243|9=>244|_=>255
def sqSize (r:Nat):Int :=
 match r with
 |0=>1|1=>2|2=>2|3=>3|4=>3|5=>3|6=>3|7=>4|8=>4|9=>4|_=>2
def sqBits (r:Nat):Int :=
 match r with
 |0=>127|1=>0|2=>31|3=>15|4=>15|5=>15|6=>15|7=>7|8=>7|9=>7|_=>0
def sqLeast (r:Nat):Int :=
 match r with
 |0=>0|1=>255|2=>128|3=>160|4=>128|5=>128|6=>128|7=>144|8=>128|9=>128|_=>255
def sqMost (r:Nat):Int :=
 match r with
 |0=>0|1=>0|2=>191|3=>191|4=>191|5=>159|6=>191|7=>191|8=>191|9=>143|_=>0
def sqRow (c:Int):Nat :=
 if c<=127 then 0 else if c<=193 then 1 else if c<=223 then 2 else if c<=224 then 3 else if c<=236 then 4 else if c<=237 then 5
 else if c<=239 then 6 else if c<=240 then 7 else if c<=243 then 8 else if c<=244 then 9 else 10
theorem Qbj (c:Int):(c<=127/\sqRow c=0)\/(127<c/\c<=193/\sqRow c=1)\/(193<c/\c<=223/\sqRow c=2)\/(223<c/\c<=224/\sqRow c=3)\/(224<c/\c<=236/\sqRow c=4) \/
  (236<c/\c<=237/\sqRow c=5)\/(237<c/\c<=239/\sqRow c=6)\/(239<c/\c<=240/\sqRow c=7)\/(240<c/\c<=243/\sqRow c=8)\/(243<c/\c<=244/\sqRow c=9)\/(244<c/\sqRow c=10):=by
 unfold sqRow;(repeat' split)<;>omega
theorem QjM (c:Int):sqRow c<=10:=by have:=Qbj c;omega
theorem QjL :sqUp 0=127/\sqUp 1=193/\sqUp 2=223/\sqUp 3=224/\sqUp 4=236/\sqUp 5=237/\sqUp 6=239/\sqUp 7=240/\sqUp 8=243/\sqUp 9=244/\sqUp 10=255:=⟨rfl,rfl,rfl,rfl,rfl,rfl,rfl,rfl,rfl,rfl,rfl⟩
theorem QmW (hk:k<sqRow c):sqUp k<c:=by
 have h:=Qbj c;obtain⟨u0,u1,u2,u3,u4,u5,u6,u7,u8,u9,u10⟩:=QjL;have hk':k=0\/k=1\/k=2\/k=3\/k=4\/k=5\/k=6\/k=7\/k=8\/k=9:=by omega
 rcases hk' with rfl|rfl|rfl|rfl|rfl|rfl|rfl|rfl|rfl|rfl<;>omega
theorem QnG (h0:c<=255):c<=sqUp (sqRow c):=by
 obtain⟨u0,u1,u2,u3,u4,u5,u6,u7,u8,u9,u10⟩:=QjL;rcases Qbj c with ⟨a,h⟩|⟨_,a,h⟩|⟨_,a,h⟩|⟨_,a,h⟩|⟨_,a,h⟩|⟨_,a,h⟩|⟨_,a,h⟩|⟨_,a,h⟩|⟨_,a,h⟩|⟨_,a,h⟩|⟨_,h⟩<;>rw[h]<;>omega
theorem QjI (hk:k<=sqRow c) (h:c<=sqUp k):k=sqRow c:=by
 by_cases e:k=sqRow c
 ·exact e
 have:=QmW (show k<sqRow c by omega);omega
theorem Qon (k:Nat):0<=sqUp k/\sqUp k<=255:=by unfold sqUp;split<;>omega
abbrev Sg:=Int × Nat
abbrev Bytes:=List UInt8
variable {l bl bs:Bytes}
def b0 (l:Bytes) (i:Nat):Int:=((l.getD i 0).toNat:Int)
def goesOnB (l m k c:Int):Bool:=if k=1 then decide (l<=c)&&decide (c<=m) else decide (128<=c)&&decide (c<=191)
def okAt (l:Bytes) (r k:Nat):Bool:=decide (k<l.length)&&goesOnB (sqLeast r) (sqMost r) k (b0 l k)
def allOk (l:Bytes) (r:Nat):Nat->Bool
 |0=>true
 |n+1=>allOk l r n&&okAt l r (n+1)
def partV (l:Bytes) (r:Nat):Nat->Int
 |0=>0
 |1=>b0 l 0%(sqBits r+1)
 |k+2=>64 * partV l r (k+1)+b0 l (k+1)%64
def sqN (r:Nat):Nat:=(sqSize r).toNat
def utfHead (l:Bytes):Sg :=
 if allOk l (sqRow (b0 l 0)) (sqN (sqRow (b0 l 0)) - 1) then (partV l (sqRow (b0 l 0)) (sqN (sqRow (b0 l 0))),sqN (sqRow (b0 l 0))) else (-1,1)
def unitAt (enc:Int) (l:Bytes) (i:Nat):Int :=
 if enc=1 then b0 l i+256 * b0 l (i+1) else 256 * b0 l i+b0 l (i+1)
def unitHead (enc:Int) (l:Bytes):Sg :=
 let u:=unitAt enc l 0
 let v:=unitAt enc l 2
 if 55296<=u/\u<=56319/\3<l.length/\56320<=v/\v<=57343 then (65536+1024 * (u - 55296)+(v - 56320),4)
 else if 55296<=u/\u<=57343 then (-1,2) else (u,2)
def headSg (enc:Int) (l:Bytes):Option Sg :=
 if l.length=0 then none
 else if enc=0 then some (utfHead l)
 else if enc=3 then some (b0 l 0,1)
 else if l.length<2 then none
 else some (unitHead enc l)
def signsF (enc:Int):Nat->Bytes->List Sg
 |0,_=>[]
 |f+1,l=>match headSg enc l with
  |none=>[]
  |some x=>x :: signsF enc f (l.drop x.2)
def signs (enc:Int) (l:Bytes):List Sg:=signsF enc l.length l
theorem Qd5 (r:Nat):1<=sqSize r/\sqSize r<=4:=by unfold sqSize;split<;>omega
theorem Qfz (r:Nat):1<=sqN r:=by have:=Qd5 r;unfold sqN;omega
theorem Qih (r:Nat):sqN r<=4:=by have:=Qd5 r;unfold sqN;omega
theorem QnC (r:Nat):sqSize r=(sqN r:Int):=by have:=Qd5 r;unfold sqN;omega
theorem QhP (r:Nat):0<=sqBits r/\sqBits r<=127:=by unfold sqBits;split<;>omega
theorem Qic (l:Bytes):1<=(utfHead l).2:=by
 unfold utfHead;split
 ·exact Qfz _
 exact Z6 _
theorem QcJ (enc:Int) (l:Bytes):2<=(unitHead enc l).2:=by
 unfold unitHead;dsimp only;(repeat' split)<;>simp
theorem Qcx {x:Sg} (h:headSg enc l=some x):1<=x.2/\0<l.length:=by
 unfold headSg at h;split at h
 ·cases h
 split at h
 ·cases h;exact⟨Qic l,by omega⟩
 split at h
 ·cases h;exact⟨Z6 _,by omega⟩
 split at h
 ·cases h
 cases h;exact⟨Nat.le_trans (by decide) (QcJ enc l),by omega⟩
theorem QdT (enc:Int):∀(f g:Nat) (l:Bytes),l.length<=f->l.length<=g->signsF enc f l=signsF enc g l
 |0,0,_,_,_=>rfl
 |0,g+1,l,h,_=>by
  cases l with
  |nil=>simp [signsF,headSg]
  |cons a r=>simp at h
 |f+1,0,l,_,h=>by
  cases l with
  |nil=>simp [signsF,headSg]
  |cons a r=>simp at h
 |f+1,g+1,l,hf,hg=>by
  simp only[signsF]
  cases hx:headSg enc l with
  |none=>rfl
  |some x =>
   obtain⟨h1,h2⟩:=Qcx hx
   have hl:(l.drop x.2).length<=l.length - 1:=by rw[List.length_drop];omega
   simp only
   rw[QdT enc f g (l.drop x.2) (by omega) (by omega)]
theorem QbE (enc:Int) (l:Bytes):signs enc l=match headSg enc l with|none=>[]|some x=>x :: signs enc (l.drop x.2):=by
 cases l with
 |nil=>simp [signs,signsF,headSg]
 |cons a r =>
  show signsF enc (r.length+1) (a :: r)=_;simp only[signsF];cases hx:headSg enc (a :: r) with
  |none=>rfl
  |some x =>
   obtain⟨h1,h2⟩:=Qcx hx;simp only[signs];rw[QdT enc r.length _ _ (by rw[List.length_drop];simp;omega) (Z6 _)]
theorem QaB (enc:Int):signs enc []=[]:=by simp [signs,signsF]
theorem Qap {x:Sg} (h:headSg enc l=some x):signs enc l=x :: signs enc (l.drop x.2):=by rw[QbE,h]
theorem QeF (h:headSg enc l=none):signs enc l=[]:=by rw[QbE,h]
theorem Qm6 {α:Type} (pre r:List α) (x:α):pre++[x] <+: pre++x :: r:=⟨r,by simp⟩
theorem Qb1 {pre:List Sg} {x:Sg} (hs:signs enc bl=pre++signs enc (bl.drop k)) (hx:headSg enc (bl.drop k)=some x) :
  pre++[x] <+: signs enc bl/\signs enc bl=(pre++[x])++signs enc (bl.drop (k+x.2)):=by
 have:=Qap hx
 rw[List.drop_drop] at this
 rw[hs,this]
 exact⟨Qm6 _ _ _,by simp⟩
theorem QjC {pre:List Sg} (hs:signs enc bl=pre++signs enc (bl.drop k)) (hx:headSg enc (bl.drop k)=none):signs enc bl=pre:=by
 rw[hs,QeF hx];simp
theorem Qa1 (l:Bytes) (k i:Nat):b0 (l.drop k) i=b0 l (k+i):=by simp [b0,List.getD]
theorem b0_bd (l:Bytes) (i:Nat):0<=b0 l i/\b0 l i<=255:=by
 unfold b0;have:=(l.getD i 0).toNat_lt;omega
theorem QaJ (b:ByteArray) (k:Nat) (h:k<b.size):b0 b.data.toList k=(b[k].toNat:Int):=by
 unfold b0
 have:b.data.toList.getD k 0=b[k]:=by
  rw[List.getD_eq_getElem?_getD,List.getElem?_eq_getElem (by simpa using h)];rfl
 rw[this]
theorem QaD (b:ByteArray) (k:Nat):(b.data.toList.drop k).length=b.size - k:=by rw[List.length_drop];rfl
theorem QkV (b:ByteArray) (k:Nat) (h:k<b.size):headSg 3 (b.data.toList.drop k)=some ((b[k].toNat:Int),1):=by
 have e:=QaD b k;unfold headSg;rw[if_neg (by omega),if_neg (by decide),if_pos rfl,Qa1,Nat.add_zero,QaJ b k h]
theorem Qhi (enc:Int) (b:ByteArray) (k:Nat) (h:b.size<=k):headSg enc (b.data.toList.drop k)=none:=by
 have e:=QaD b k;unfold headSg;rw[if_pos (by omega)]
theorem Qi9 (hk:1<=k) (hn:k<=n) (h:okAt l r k=false):allOk l r n=false:=by
 induction n with
 |zero=>omega
 |succ n ih =>
  by_cases e:k=n+1
  ·subst e;simp [allOk,h]
  simp [allOk,ih (by omega)]
theorem QgP (l:Bytes) (r:Nat):∀k,k<=4->0<=partV l r k/\partV l r k<=33554431:=by
 have h1:0<=partV l r 1/\partV l r 1<=127:=by
  have:=QhP r;simp only[partV];have e1:=Int.emod_nonneg (b0 l 0) (b:=sqBits r+1) (by omega);have e2:=Int.emod_lt_of_pos (b0 l 0) (b:=sqBits r+1) (by omega);omega
 have h2:partV l r 2=64 * partV l r 1+b0 l 1%64:=rfl;have h3:partV l r 3=64 * partV l r 2+b0 l 2%64:=rfl;have h4:partV l r 4=64 * partV l r 3+b0 l 3%64:=rfl;intro k hk;have:k=0\/k=1\/k=2\/k=3\/k=4:=by omega
 rcases this with rfl|rfl|rfl|rfl|rfl
 ·simp [partV]
 all_goals omega
theorem QnR (b:ByteArray) (k:Nat) (h:k<b.size):headSg 0 (b.data.toList.drop k)=some (utfHead (b.data.toList.drop k)):=by
 have e:=QaD b k;unfold headSg;rw[if_neg (by omega),if_pos rfl]
theorem Qm8 (h:b.size<=k+j):okAt (b.data.toList.drop k) r j=false:=by
 have e:=QaD b k;simp [okAt,show ¬j<b.size - k by omega,e]
theorem QmF (h:k+j<b.size):okAt (b.data.toList.drop k) r j=goesOnB (sqLeast r) (sqMost r) j (b[k+j].toNat:Int):=by
 have e:=QaD b k;unfold okAt;rw[Qa1,QaJ b (k+j) h,e];simp [show j<b.size - k by omega]
theorem QfM (hr:sqRow (b0 l 0)=r) (h1:1<=j) (h2:j<sqN r) (h:okAt l r j=false):utfHead l=(-1,1):=by
 unfold utfHead;rw[hr,Qi9 h1 (show j<=sqN r - 1 by omega) h];rfl
theorem QcX (hr:sqRow (b0 l 0)=r) (h:allOk l r (sqN r - 1)=true):utfHead l=(partV l r (sqN r),sqN r):=by
 unfold utfHead;rw[hr,h];rfl
theorem Qkp (h1:1<=j) (h:allOk l r (j - 1)=true) (h2:okAt l r j=true):allOk l r j=true:=by
 obtain⟨i,rfl⟩:∃i,j=i+1:=⟨j - 1,by omega⟩;simp only[Nat.add_sub_cancel] at h;simp [allOk,h,h2]
theorem Qku (l:Bytes) (r j:Nat) (h1:1<=j):partV l r (j+1)=64 * partV l r j+b0 l j%64:=by
 obtain⟨i,rfl⟩:∃i,j=i+1:=⟨j - 1,by omega⟩;rfl
theorem QhK (r:Nat):sqBits r=127\/sqBits r=31\/sqBits r=15\/sqBits r=7\/sqBits r=0:=by unfold sqBits;split<;>simp
def unitO (enc:Int) (b:ByteArray) (i:Nat):Int:=if i+1<b.size then unitAt enc b.data.toList i else -1
theorem QaT (enc:Int) (l:Bytes) (i:Nat):0<=unitAt enc l i/\unitAt enc l i<=65535:=by
 have h1:=b0_bd l i;have h2:=b0_bd l (i+1);unfold unitAt;split<;>omega
theorem Qjs (enc:Int) (b:ByteArray) (i:Nat):-1<=unitO enc b i/\unitO enc b i<=65535:=by
 have:=QaT enc b.data.toList i;unfold unitO;split<;>omega
theorem Qfa (l:Bytes) (i:Nat):unitAt 1 l i=b0 l i+256 * b0 l (i+1):=by simp [unitAt]
theorem Qhc (l:Bytes) (i:Nat):unitAt 2 l i=256 * b0 l i+b0 l (i+1):=by simp [unitAt]
def aloneI (u:Int):Int:=if 55296<=u/\u<=57343 then -1 else u
def isPair (u v:Int):Prop:=(55296<=u/\u<=56319)/\(56320<=v/\v<=57343)
theorem QaK (enc:Int) (l:Bytes) (k i:Nat):unitAt enc (l.drop k) i=unitAt enc l (k+i):=by
 unfold unitAt;simp only[Qa1,Nat.add_assoc]
theorem Qd4 (he:enc=1\/enc=2) (h:i+1<b.size) (hp:¬isPair (unitO enc b i) (unitO enc b (i+2))) :
  headSg enc (b.data.toList.drop i)=some (aloneI (unitO enc b i),2):=by
 have e:=QaD b i
 have hu:unitO enc b i=unitAt enc b.data.toList i:=by unfold unitO;rw[if_pos h]
 unfold headSg
 rw[if_neg (by omega),if_neg (by omega),if_neg (by omega),if_neg (by omega)]
 unfold unitHead
 dsimp only
 rw[QaK,QaK,Nat.add_zero,e,<-hu]
 rw[if_neg]
 ·unfold aloneI;split<;>rfl
 rintro ⟨h1,h2,h3,h4,h5⟩
 apply hp
 unfold isPair
 have hv:unitO enc b (i+2)=unitAt enc b.data.toList (i+2):=by unfold unitO;rw[if_pos (by omega)]
 rw[hv]
 exact⟨⟨h1,h2⟩,h4,h5⟩
theorem Qk7 (he:enc=1\/enc=2) (h:i+1<b.size) (hp:isPair (unitO enc b i) (unitO enc b (i+2))) :
  headSg enc (b.data.toList.drop i)=some (65536+1024 * (unitO enc b i - 55296)+(unitO enc b (i+2) - 56320),4)/\i+3<b.size:=by
 have e:=QaD b i
 have h3:i+3<b.size:=by
  by_cases x:i+3<b.size
  ·exact x
  have:unitO enc b (i+2) = -1:=by unfold unitO;rw[if_neg (by omega)]
  unfold isPair at hp;omega
 have hu:unitO enc b i=unitAt enc b.data.toList i:=by unfold unitO;rw[if_pos h]
 have hv:unitO enc b (i+2)=unitAt enc b.data.toList (i+2):=by unfold unitO;rw[if_pos (by omega)]
 refine⟨?_,h3⟩
 unfold headSg
 rw[if_neg (by omega),if_neg (by omega),if_neg (by omega),if_neg (by omega)]
 unfold unitHead
 dsimp only
 rw[QaK,QaK,Nat.add_zero,e,<-hu,<-hv,if_pos]
 unfold isPair at hp
 omega
theorem QlZ (he:enc=1\/enc=2) (h:b.size<=i+1):headSg enc (b.data.toList.drop i)=none:=by
 have e:=QaD b i;unfold headSg;by_cases x:(b.data.toList.drop i).length=0
 ·rw[if_pos x]
 rw[if_neg x,if_neg (by omega),if_neg (by omega),if_pos (by omega)]
abbrev At:=Int × Int × Nat
variable {out A A0:List At} {x:At}
def singleA (x:Sg):At:=if x.1 = -1 then (4,65533,x.2) else if x.1=10 then (0,10,x.2) else (3,x.1,x.2)
def atomsF:Nat->List Sg->List At
 |h,[]=>if 0<h then [(2,10,h)] else []
 |h,x :: r=>if 0<h/\x.1=10 then (1,10,x.2+h) :: atomsF 0 r
  else (if 0<h then [(2,10,h)] else [])++(if x.1=13 then atomsF x.2 r else singleA x :: atomsF 0 r)
def atoms (enc:Int) (l:Bytes):List At:=atomsF 0 (signs enc l)
def Told (pre:List Sg) (out:List At) (h:Nat):Prop:=∀rest,atomsF 0 (pre++rest)=out++atomsF h rest
theorem Told.nil :Told [] [] 0:=fun _=>by simp
theorem Told.crlf {pre:List Sg} {x:Sg} (t:Told pre out h) (h0:0<h) (hx:x.1=10):Told (pre++[x]) (out++[(1,10,x.2+h)]) 0:=fun rest=>by
 have:=t (x :: rest)
 simp only[atomsF,h0,hx,and_self,if_true] at this
 simpa using this
theorem Told.cr {pre:List Sg} {x:Sg} (t:Told pre out h) (h0:h=0) (hx:x.1=13):Told (pre++[x]) out x.2:=fun rest=>by
 subst h0
 have:=t (x :: rest)
 simp [atomsF,hx] at this
 simpa using this
theorem Told.one {pre:List Sg} {x:Sg} (t:Told pre out h) (h0:h=0) (hx:x.1≠13):Told (pre++[x]) (out++[singleA x]) 0:=fun rest=>by
 subst h0
 have:=t (x :: rest)
 simp [atomsF,hx] at this
 simpa using this
theorem Told.cr2 {pre:List Sg} {x:Sg} (t:Told pre out h) (h0:0<h) (hx:x.1=13):Told (pre++[x]) (out++[(2,10,h)]) x.2:=fun rest=>by
 have:=t (x :: rest)
 simp [atomsF,hx,h0] at this
 simpa using this
theorem Told.one2 {pre:List Sg} {x:Sg} (t:Told pre out h) (h0:0<h) (hx:x.1≠13) (hx2:x.1≠10):Told (pre++[x]) (out++[(2,10,h)]++[singleA x]) 0:=fun rest=>by
 have:=t (x :: rest)
 simp [atomsF,hx,hx2,h0] at this
 simpa using this
theorem Told.pre {pre all:List Sg} (t:Told pre out h) (hp:pre <+: all):out <+: atomsF 0 all:=by
 obtain⟨r,rfl⟩:=hp;rw[t r];exact⟨_,rfl⟩
theorem Told.pre_cr {pre all:List Sg} {x:Sg} (t:Told pre out h) (h0:0<h) (hx:x.1≠10) (hp:pre++[x] <+: all):out++[(2,10,h)] <+: atomsF 0 all:=by
 obtain⟨r,rfl⟩:=hp;have:=t (x :: r);simp only[atomsF,h0,hx,and_false,if_false,if_true] at this;rw[List.append_assoc,List.singleton_append,this];exact⟨if x.1=13 then atomsF x.2 r else singleA x :: atomsF 0 r,by simp⟩
theorem Told.all {all:List Sg} (t:Told all out h):atomsF 0 all=out++(if 0<h then [(2,10,h)] else []):=by
 have:=t [];simpa [atomsF] using this
theorem QaU {x:Sg} (h:headSg enc l=some x):1<=x.2/\x.2<=4/\x.2<=l.length:=by
 unfold headSg at h;split at h
 ·cases h
 split at h
 ·cases h
  unfold utfHead;split
  ·rename_i _ _ hok;have h1:=Qfz (sqRow (b0 l 0));have h2:=Qih (sqRow (b0 l 0));refine⟨h1,h2,?_⟩;by_cases e:sqN (sqRow (b0 l 0))=1
   ·show sqN _<=_;omega
   obtain⟨n,hn⟩:∃n,sqN (sqRow (b0 l 0))=n+2:=⟨sqN (sqRow (b0 l 0)) - 2,by omega⟩;rw[hn] at hok;simp only[allOk,show n+2 - 1=n+1 from rfl,Bool.and_eq_true] at hok;have:=hok.2;simp only[okAt,Bool.and_eq_true,decide_eq_true_eq] at this;show sqN _<=_;omega
  show 1<=1/\1<=4/\1<=l.length;omega
 split at h
 ·cases h;show 1<=1/\1<=4/\1<=l.length;omega
 split at h
 ·cases h
 cases h
 unfold unitHead;dsimp only;split
 ·show 1<=4/\4<=4/\4<=l.length;omega
 split
 ·show 1<=2/\2<=4/\2<=l.length;omega
 show 1<=2/\2<=4/\2<=l.length;omega
theorem QdO (enc:Int):∀(f:Nat) (l:Bytes) (x:Sg),x∈signsF enc f l->1<=x.2/\x.2<=4
 |0,_,_,h=>by simp [signsF] at h
 |f+1,l,x,h=>by
  simp only[signsF] at h
  cases hx:headSg enc l with
  |none=>rw[hx] at h;simp at h
  |some y =>
   rw[hx] at h
   simp only[List.mem_cons] at h
   rcases h with rfl|h
   ·exact⟨(QaU hx).1,(QaU hx).2.1⟩
   exact QdO enc f _ x h
theorem QmG {x:Sg} {pre:List Sg} (h:pre++[x] <+: signs enc l):1<=x.2/\x.2<=4 :=
 QdO enc _ l x (h.subset (by simp))
def utfL (n:Int):List Int :=
 if n<128 then [n] else if n<2048 then [192+n / 64,128+n%64]
 else if n<65536 then [224+n / 4096,128+n / 64%64,128+n%64]
 else [240+n / 262144,128+n / 4096%64,128+n / 64%64,128+n%64]
def utfLen (n:Int):Nat:=if n<128 then 1 else if n<2048 then 2 else if n<65536 then 3 else 4
theorem QaS (n:Int):(utfL n).length=utfLen n:=by unfold utfL utfLen;(repeat' split)<;>rfl
def validB (n:Int):Bool:=(decide (0<=n)&&decide (n<=55295)) || (decide (57344<=n)&&decide (n<=1114111))
def rk (c:Int):Nat:=if c<128 then 1 else if c<192 then 0 else if c<224 then 2 else if c<240 then 3 else if c<248 then 4 else 0
def rn0 (c:Int):Int:=if c<128 then c else if c<224 then c - 192 else if c<240 then c - 224 else c - 240
def contB (l:Bytes) (j:Nat):Bool:=decide (j<l.length)&&(decide (128<=b0 l j)&&decide (b0 l j<192))
def rok (l:Bytes):Nat->Bool
 |0=>true
 |n+1=>rok l n&&contB l (n+1)
def rpart (l:Bytes):Nat->Int
 |0=>0
 |1=>rn0 (b0 l 0)
 |k+2=>64 * rpart l (k+1)+b0 l (k+1) - 128
def utfRef (l:Bytes):Int × Nat :=
 if rk (b0 l 0)=0 then (0,0)
 else if rok l (rk (b0 l 0) - 1)=false then (0,0)
 else if validB (rpart l (rk (b0 l 0)))=false then (0,0)
 else if utfLen (rpart l (rk (b0 l 0)))=rk (b0 l 0) then (rpart l (rk (b0 l 0)),rk (b0 l 0)) else (0,0)
theorem Qa7 (l:Bytes) (j:Nat) (h:1<=j):rpart l (j+1)=64 * rpart l j+b0 l j - 128:=by
 obtain⟨i,rfl⟩:∃i,j=i+1:=⟨j - 1,by omega⟩;rfl
theorem QgR (h1:1<=j) (h:rok l (j - 1)=true) (h2:contB l j=true):rok l j=true:=by
 obtain⟨i,rfl⟩:∃i,j=i+1:=⟨j - 1,by omega⟩;simp only[Nat.add_sub_cancel] at h;simp [rok,h,h2]
theorem QdN (hk:1<=k) (hn:k<=n) (h:contB l k=false):rok l n=false:=by
 induction n with
 |zero=>omega
 |succ n ih =>
  by_cases e:k=n+1
  ·subst e;simp [rok,h]
  simp [rok,ih (by omega)]
theorem QgD (hk:1<=k) (hn:k<=n) (h:rok l n=true):contB l k=true:=by
 cases hc:contB l k
 ·rw[QdN hk hn hc] at h;cases h
 rfl
theorem QbN (h:contB l j=true):j<l.length/\128<=b0 l j/\b0 l j<=191:=by
 simp only[contB,Bool.and_eq_true,decide_eq_true_eq] at h;omega
theorem Qg1 (hk:k<=4) (h1:1<=k) (hc:rk (b0 l 0)≠0) (h:rok l (k - 1)=true):0<=rpart l k/\rpart l k<=33554431:=by
 have hb:=b0_bd l 0
 have e1:0<=rpart l 1/\rpart l 1<=127:=by
  show 0<=rn0 (b0 l 0)/\rn0 (b0 l 0)<=127;unfold rk at hc;unfold rn0;(repeat' split at hc)<;>(repeat' split)<;>omega
 have:k=1\/k=2\/k=3\/k=4:=by omega
 have s2:rpart l 2=64 * rpart l 1+b0 l 1 - 128:=rfl;have s3:rpart l 3=64 * rpart l 2+b0 l 2 - 128:=rfl;have s4:rpart l 4=64 * rpart l 3+b0 l 3 - 128:=rfl;rcases this with rfl|rfl|rfl|rfl
 ·omega
 ·have a:=QbN (QgD (k:=1) (by omega) (by omega) h);omega
 ·have a:=QbN (QgD (k:=1) (by omega) (by omega) h);have b:=QbN (QgD (k:=2) (by omega) (by omega) h);omega
 have a:=QbN (QgD (k:=1) (by omega) (by omega) h);have b:=QbN (QgD (k:=2) (by omega) (by omega) h);have c:=QbN (QgD (k:=3) (by omega) (by omega) h);omega
theorem QgO :contB (b.data.toList.drop k) j=(decide (((k+j:Nat):Int)<(b.size:Int))&&(decide (128<=b0 b.data.toList (k+j))&&decide (b0 b.data.toList (k+j)<192))):=by
 have e:=QaD b k;unfold contB;rw[Qa1,e]
 have:decide (j<b.size - k)=decide (((k+j:Nat):Int)<(b.size:Int)):=by
  by_cases h:k+j<b.size
  ·simp [show j<b.size - k by omega];omega
  simp [show ¬j<b.size - k by omega];omega
 rw[this]
def refSg (l:Bytes):Sg:=if (utfRef l).2=0 then (-1,1) else utfRef l
theorem Qg3 (h:utfRef l=(0,0)):refSg l=(-1,1):=by simp [refSg,h]
theorem Qg5 {n:Int} (hk:k≠0) (h:utfRef l=(n,k)):refSg l=(n,k):=by simp [refSg,h,hk]
theorem ok1 (l:Bytes) (r:Nat):allOk l r 1=true↔1<l.length/\sqLeast r<=b0 l 1/\b0 l 1<=sqMost r:=by
 simp [allOk,okAt,goesOnB]
theorem ok2 (l:Bytes) (r:Nat):allOk l r 2=true↔(1<l.length/\sqLeast r<=b0 l 1/\b0 l 1<=sqMost r)/\(2<l.length/\128<=b0 l 2/\b0 l 2<=191):=by
 simp [allOk,okAt,goesOnB]
theorem ok3 (l:Bytes) (r:Nat):allOk l r 3=true↔((1<l.length/\sqLeast r<=b0 l 1/\b0 l 1<=sqMost r)/\(2<l.length/\128<=b0 l 2/\b0 l 2<=191))/\(3<l.length/\128<=b0 l 3/\b0 l 3<=191):=by
 simp [allOk,okAt,goesOnB]
theorem rok1 (l:Bytes):rok l 1=true↔1<l.length/\128<=b0 l 1/\b0 l 1<192:=by simp [rok,contB]
theorem rok2 (l:Bytes):rok l 2=true↔(1<l.length/\128<=b0 l 1/\b0 l 1<192)/\(2<l.length/\128<=b0 l 2/\b0 l 2<192):=by simp [rok,contB]
theorem rok3 (l:Bytes):rok l 3=true↔((1<l.length/\128<=b0 l 1/\b0 l 1<192)/\(2<l.length/\128<=b0 l 2/\b0 l 2<192))/\(3<l.length/\128<=b0 l 3/\b0 l 3<192):=by simp [rok,contB]
theorem Qag (n:Int):validB n=true↔(0<=n/\n<=55295)\/(57344<=n/\n<=1114111):=by simp [validB]
theorem Qaa (n:Int):(n<128/\utfLen n=1)\/(128<=n/\n<2048/\utfLen n=2)\/(2048<=n/\n<65536/\utfLen n=3)\/(65536<=n/\utfLen n=4):=by
 unfold utfLen;(repeat' split)<;>omega
theorem QbD (hk:rk (b0 l 0)=k) (h0:k≠0) (h1:rok l (k - 1)=true) (h2:validB (rpart l k)=true) (h3:utfLen (rpart l k)=k):utfRef l=(rpart l k,k):=by
 subst hk;unfold utfRef;rw[if_neg h0,if_neg (by rw[h1];decide),if_neg (by rw[h2];decide),if_pos h3]
theorem Qdm (hk:rk (b0 l 0)=k) (h:¬(rok l (k - 1)=true/\validB (rpart l k)=true/\utfLen (rpart l k)=k)):utfRef l=(0,0):=by
 subst hk;unfold utfRef;split
 ·rfl
 split
 ·rfl
 split
 ·rfl
 split
 ·rename_i a b c d;exact absurd ⟨by simpa using b,by simpa using c,d⟩ h
 rfl
theorem Qb5 (c:Int):(c<128/\rk c=1)\/(128<=c/\c<192/\rk c=0)\/(192<=c/\c<224/\rk c=2)\/(224<=c/\c<240/\rk c=3)\/(240<=c/\c<248/\rk c=4)\/(248<=c/\rk c=0):=by
 unfold rk;(repeat' split)<;>omega
theorem Qb2 (c:Int):(c<128/\rn0 c=c)\/(128<=c/\c<224/\rn0 c=c - 192)\/(224<=c/\c<240/\rn0 c=c - 224)\/(240<=c/\rn0 c=c - 240):=by
 unfold rn0;(repeat' split)<;>omega
theorem Qcz (hr:sqRow (b0 l 0)=r) (hn:sqN r=k) (hk:rk (b0 l 0)=k) (h0:k≠0)
  (hiff:allOk l r (k - 1)=true↔(rok l (k - 1)=true/\validB (rpart l k)=true/\utfLen (rpart l k)=k)) (hv:allOk l r (k - 1)=true->partV l r k=rpart l k):utfHead l=refSg l:=by
 cases h:allOk l r (k - 1)
 ·rw[Qg3 (Qdm hk (fun x=>by rw[hiff.2 x] at h;cases h))];unfold utfHead;rw[hr,hn,h];rfl
 obtain⟨a,b,c⟩:=hiff.1 h
 rw[Qg5 h0 (QbD hk h0 a b c),QcX hr (by rw[hn];exact h),hn,hv h]
theorem Qg6 (hr:sqRow (b0 l 0)=r) (hn:allOk l r (sqN r - 1)=false) (hk:rk (b0 l 0)=k)
  (hno:¬(rok l (k - 1)=true/\validB (rpart l k)=true/\utfLen (rpart l k)=k)):utfHead l=refSg l:=by
 rw[Qg3 (Qdm hk hno)]
 unfold utfHead;rw[hr,hn];rfl
theorem QdF (l:Bytes):utfHead l=refSg l:=by
 have hb:=b0_bd l 0;have hb1:=b0_bd l 1;have hb2:=b0_bd l 2;have hb3:=b0_bd l 3;have p2:rpart l 2=64 * rpart l 1+b0 l 1 - 128:=rfl;have p3:rpart l 3=64 * rpart l 2+b0 l 2 - 128:=rfl;have p4:rpart l 4=64 * rpart l 3+b0 l 3 - 128:=rfl;have p1:rpart l 1=rn0 (b0 l 0):=rfl;have q0:=Qb2 (b0 l 0);have k0:=Qb5 (b0 l 0);rcases Qbj (b0 l 0) with ⟨a,h⟩|⟨a',a,h⟩|⟨a',a,h⟩|⟨a',a,h⟩|⟨a',a,h⟩|⟨a',a,h⟩|⟨a',a,h⟩|⟨a',a,h⟩|⟨a',a,h⟩|⟨a',a,h⟩|⟨a',h⟩
 ·refine Qcz (k:=1) h rfl (by omega) (by decide) ?_ ?_
  ·have e4:=Qaa (rpart l 1);have:=Qag (rpart l 1);exact⟨fun _=>⟨rfl,this.2 (by omega),by omega⟩,fun _=>rfl⟩
  intro _;show b0 l 0%(sqBits 0+1)=_;rw[show sqBits 0=127 from rfl];omega
 ·have hno:allOk l 1 (sqN 1 - 1)=false:=by
   cases e:allOk l 1 (sqN 1 - 1)
   ·rfl
   have:=(ok1 l 1).1 e;rw[show sqLeast 1=255 from rfl,show sqMost 1=0 from rfl] at this;omega
  rcases k0 with k|k|k|k|k|k
  ·omega
  ·exact Qg6 h hno k.2.2 (fun x=>by have:=x.2.2;have:=Qaa (rpart l 0);omega)
  ·refine Qg6 h hno k.2.2 (fun x=>?_);have:=(rok1 l).1 x.1;have:=Qaa (rpart l 2);omega
  ·omega
  ·omega
  omega
 ·refine Qcz (k:=2) h rfl (by omega) (by decide) ?_ ?_
  ·have e1:=ok1 l 2;have e2:=rok1 l;have e3:=Qag (rpart l 2);have e4:=Qaa (rpart l 2);rw[show sqLeast 2=128 from rfl,show sqMost 2=191 from rfl] at e1;constructor
   ·intro x;have:=e1.1 x;exact⟨e2.2 (by omega),e3.2 (by omega),by omega⟩
   rintro ⟨x,y,z⟩;have:=e2.1 x;exact e1.2 (by omega)
  intro x;have e1:=(ok1 l 2).1 x;rw[show sqLeast 2=128 from rfl,show sqMost 2=191 from rfl] at e1;show 64 * (b0 l 0%(sqBits 2+1))+b0 l 1%64=_;rw[show sqBits 2=31 from rfl];omega
 ·refine Qcz (k:=3) h rfl (by omega) (by decide) ?_ ?_
  ·have e1:=ok2 l 3;have e2:=rok2 l;have e3:=Qag (rpart l 3);have e4:=Qaa (rpart l 3);rw[show sqLeast 3=160 from rfl,show sqMost 3=191 from rfl] at e1;constructor
   ·intro x;have:=e1.1 x;exact⟨e2.2 (by omega),e3.2 (by omega),by omega⟩
   rintro ⟨x,y,z⟩;have:=e2.1 x;have:=e3.1 y;exact e1.2 (by omega)
  intro x;have e1:=(ok2 l 3).1 x;rw[show sqLeast 3=160 from rfl,show sqMost 3=191 from rfl] at e1;show 64 * (64 * (b0 l 0%(sqBits 3+1))+b0 l 1%64)+b0 l 2%64=_;rw[show sqBits 3=15 from rfl];omega
 ·refine Qcz (k:=3) h rfl (by omega) (by decide) ?_ ?_
  ·have e1:=ok2 l 4;have e2:=rok2 l;have e3:=Qag (rpart l 3);have e4:=Qaa (rpart l 3);rw[show sqLeast 4=128 from rfl,show sqMost 4=191 from rfl] at e1;constructor
   ·intro x;have:=e1.1 x;exact⟨e2.2 (by omega),e3.2 (by omega),by omega⟩
   rintro ⟨x,y,z⟩;have:=e2.1 x;have:=e3.1 y;exact e1.2 (by omega)
  intro x;have e1:=(ok2 l 4).1 x;rw[show sqLeast 4=128 from rfl,show sqMost 4=191 from rfl] at e1;show 64 * (64 * (b0 l 0%(sqBits 4+1))+b0 l 1%64)+b0 l 2%64=_;rw[show sqBits 4=15 from rfl];omega
 ·refine Qcz (k:=3) h rfl (by omega) (by decide) ?_ ?_
  ·have e1:=ok2 l 5;have e2:=rok2 l;have e3:=Qag (rpart l 3);have e4:=Qaa (rpart l 3);rw[show sqLeast 5=128 from rfl,show sqMost 5=159 from rfl] at e1;constructor
   ·intro x;have:=e1.1 x;exact⟨e2.2 (by omega),e3.2 (by omega),by omega⟩
   rintro ⟨x,y,z⟩;have:=e2.1 x;have:=e3.1 y;exact e1.2 (by omega)
  intro x;have e1:=(ok2 l 5).1 x;rw[show sqLeast 5=128 from rfl,show sqMost 5=159 from rfl] at e1;show 64 * (64 * (b0 l 0%(sqBits 5+1))+b0 l 1%64)+b0 l 2%64=_;rw[show sqBits 5=15 from rfl];omega
 ·refine Qcz (k:=3) h rfl (by omega) (by decide) ?_ ?_
  ·have e1:=ok2 l 6;have e2:=rok2 l;have e3:=Qag (rpart l 3);have e4:=Qaa (rpart l 3);rw[show sqLeast 6=128 from rfl,show sqMost 6=191 from rfl] at e1;constructor
   ·intro x;have:=e1.1 x;exact⟨e2.2 (by omega),e3.2 (by omega),by omega⟩
   rintro ⟨x,y,z⟩;have:=e2.1 x;have:=e3.1 y;exact e1.2 (by omega)
  intro x;have e1:=(ok2 l 6).1 x;rw[show sqLeast 6=128 from rfl,show sqMost 6=191 from rfl] at e1;show 64 * (64 * (b0 l 0%(sqBits 6+1))+b0 l 1%64)+b0 l 2%64=_;rw[show sqBits 6=15 from rfl];omega
 ·refine Qcz (k:=4) h rfl (by omega) (by decide) ?_ ?_
  ·have e1:=ok3 l 7;have e2:=rok3 l;have e3:=Qag (rpart l 4);have e4:=Qaa (rpart l 4);rw[show sqLeast 7=144 from rfl,show sqMost 7=191 from rfl] at e1;constructor
   ·intro x;have:=e1.1 x;exact⟨e2.2 (by omega),e3.2 (by omega),by omega⟩
   rintro ⟨x,y,z⟩;have:=e2.1 x;have:=e3.1 y;exact e1.2 (by omega)
  intro x;have e1:=(ok3 l 7).1 x;rw[show sqLeast 7=144 from rfl,show sqMost 7=191 from rfl] at e1;show 64 * (64 * (64 * (b0 l 0%(sqBits 7+1))+b0 l 1%64)+b0 l 2%64)+b0 l 3%64=_;rw[show sqBits 7=7 from rfl];omega
 ·refine Qcz (k:=4) h rfl (by omega) (by decide) ?_ ?_
  ·have e1:=ok3 l 8;have e2:=rok3 l;have e3:=Qag (rpart l 4);have e4:=Qaa (rpart l 4);rw[show sqLeast 8=128 from rfl,show sqMost 8=191 from rfl] at e1;constructor
   ·intro x;have:=e1.1 x;exact⟨e2.2 (by omega),e3.2 (by omega),by omega⟩
   rintro ⟨x,y,z⟩;have:=e2.1 x;have:=e3.1 y;exact e1.2 (by omega)
  intro x;have e1:=(ok3 l 8).1 x;rw[show sqLeast 8=128 from rfl,show sqMost 8=191 from rfl] at e1;show 64 * (64 * (64 * (b0 l 0%(sqBits 8+1))+b0 l 1%64)+b0 l 2%64)+b0 l 3%64=_;rw[show sqBits 8=7 from rfl];omega
 ·refine Qcz (k:=4) h rfl (by omega) (by decide) ?_ ?_
  ·have e1:=ok3 l 9;have e2:=rok3 l;have e3:=Qag (rpart l 4);have e4:=Qaa (rpart l 4);rw[show sqLeast 9=128 from rfl,show sqMost 9=143 from rfl] at e1;constructor
   ·intro x;have:=e1.1 x;exact⟨e2.2 (by omega),e3.2 (by omega),by omega⟩
   rintro ⟨x,y,z⟩;have:=e2.1 x;have:=e3.1 y;exact e1.2 (by omega)
  intro x;have e1:=(ok3 l 9).1 x;rw[show sqLeast 9=128 from rfl,show sqMost 9=143 from rfl] at e1;show 64 * (64 * (64 * (b0 l 0%(sqBits 9+1))+b0 l 1%64)+b0 l 2%64)+b0 l 3%64=_;rw[show sqBits 9=7 from rfl];omega
 have hno:allOk l 10 (sqN 10 - 1)=false:=by
  cases e:allOk l 10 (sqN 10 - 1)
  ·rfl
  have:=(ok1 l 10).1 e;rw[show sqLeast 10=255 from rfl,show sqMost 10=0 from rfl] at this;omega
 rcases k0 with k|k|k|k|k|k
 ·omega
 ·omega
 ·omega
 ·omega
 ·refine Qg6 h hno k.2.2 (fun x=>?_);have:=(rok3 l).1 x.1;have:=(Qag (rpart l 4)).1 x.2.1;omega
 exact Qg6 h hno k.2 (fun x=>by have:=x.2.2;have:=Qaa (rpart l 0);omega)
theorem Qlo (l:Bytes):(utfRef l).2<=4:=by
 have:=Qb5 (b0 l 0);unfold utfRef;(repeat' split)<;>simp only<;>omega
def rd (enc:Int) (l:Bytes):Option (Int × Bool × Nat) :=
 if l.length=0 then none
 else if enc=3 then some (b0 l 0,false,1)
 else if enc=0 then (if (utfRef l).2=0 then some (0,true,1) else some ((utfRef l).1,false,(utfRef l).2))
 else if l.length<2 then none
 else if 55296<=unitAt enc l 0/\unitAt enc l 0<=56319/\3<l.length/\56320<=unitAt enc l 2/\unitAt enc l 2<=57343 then some (65536+1024 * (unitAt enc l 0 - 55296)+unitAt enc l 2 - 56320,false,4)
 else some (unitAt enc l 0,decide (55296<=unitAt enc l 0)&&decide (unitAt enc l 0<=57343),2)
def sgOf (x:Int × Bool × Nat):Sg:=(if x.2.1 then -1 else x.1,x.2.2)
theorem Qev (enc:Int) (l:Bytes):(rd enc l).map sgOf=headSg enc l:=by
 unfold rd headSg;by_cases h0:l.length=0
 ·rw[if_pos h0,if_pos h0];rfl
 rw[if_neg h0,if_neg h0];by_cases h3:enc=3
 ·subst h3;rfl
 rw[if_neg h3];by_cases hu:enc=0
 ·rw[if_pos hu,if_pos hu,QdF];unfold refSg;generalize utfRef l=u;split
  ·rfl
  simp [sgOf]
 rw[if_neg hu,if_neg hu,if_neg h3];by_cases h2:l.length<2
 ·rw[if_pos h2,if_pos h2];rfl
 rw[if_neg h2,if_neg h2];unfold unitHead;dsimp only;by_cases hp:55296<=unitAt enc l 0/\unitAt enc l 0<=56319/\3<l.length/\56320<=unitAt enc l 2/\unitAt enc l 2<=57343
 ·rw[if_pos hp,if_pos hp];show some ((65536+1024 * (unitAt enc l 0 - 55296)+unitAt enc l 2 - 56320:Int),4)=_;congr 2;omega
 rw[if_neg hp,if_neg hp];by_cases hs:55296<=unitAt enc l 0/\unitAt enc l 0<=57343
 ·rw[if_pos hs];simp [sgOf,hs.1,hs.2]
 rw[if_neg hs]
 have:(decide (55296<=unitAt enc l 0)&&decide (unitAt enc l 0<=57343))=false:=by
  cases e:(decide (55296<=unitAt enc l 0)&&decide (unitAt enc l 0<=57343))
  ·rfl
  simp at e;exact absurd e hs
 simp [sgOf,this]
abbrev RA:=Int × Bool × Int × Int × Int
variable {L:List RA} {a:RA}
def RaOk (a:RA) (x:At) (p:Nat):Prop :=
 a.2.2.2.1=p/\a.2.2.2.2=(p:Int)+x.2.2/\a.2.1=decide (x.1=4)/\a.2.2.1=(if x.1<=2 then x.1+1 else 0)/\(x.1≠4->a.1=x.2.1)/\0<=x.1/\x.1<=4/\0<=a.1/\a.1<=1114111
def Reads:List RA->List At->Nat->Prop
 |[],[],_=>True
 |a :: L,x :: A,p=>RaOk a x p/\Reads L A (p+x.2.2)
 |_,_,_=>False
def sizeA (A:List At):Nat:=(A.map (fun x=>x.2.2)).sum
theorem Qay (A:List At) (x:At):sizeA (A++[x])=sizeA A+x.2.2:=by simp [sizeA]
theorem Reads.snoc :∀{L:List RA} {A:List At} {p:Nat} {a:RA} {x:At},Reads L A p->RaOk a x (p+sizeA A)->Reads (L++[a]) (A++[x]) p
 |[],[],p,a,x,_,h=>by simpa [Reads,sizeA] using h
 |[],_ :: _,_,_,_,h,_=>h.elim
 |_ :: _,[],_,_,_,h,_=>h.elim
 |b :: L,y :: A,p,a,x,h,hx=>by
  refine⟨h.1,h.2.snoc ?_⟩
  have:p+y.2.2+sizeA A=p+sizeA (y :: A):=by simp [sizeA];omega
  rw[this];exact hx
theorem Reads.length :∀{L:List RA} {A:List At} {p:Nat},Reads L A p->L.length=A.length
 |[],[],_,_=>rfl
 |[],_ :: _,_,h=>h.elim
 |_ :: _,[],_,h=>h.elim
 |_ :: L,_ :: A,_,h=>by simp [h.2.length]
def NoCr (A:List At):Prop:=∀B x,A=B++[x]->x.1≠2
theorem QmK :NoCr []:=fun B x h=>by simp at h
theorem QdQ (h:x.1≠2):NoCr (A++[x]):=fun B y e=>by
 have:=List.append_inj_right' e (by simp)
 simp at this;rw[<-this];exact h
theorem Reads.last {p:Nat} (h:Reads (L++[a]) A p) (hn:NoCr A):a.2.2.1≠3:=by
 induction L generalizing A p with
 |nil =>
  cases A with
  |nil=>exact h.elim
  |cons x A =>
   cases A with
   |nil =>
    obtain⟨⟨_,_,_,he,_,h0,_⟩,_⟩:=h;have:=hn [] x rfl;rw[he];split<;>omega
   |cons y A=>exact h.2.elim
 |cons b L ih =>
  cases A with
  |nil=>exact h.elim
  |cons x A=>exact ih h.2 (fun B y e=>hn (x :: B) y (by simp [e]))
theorem Qb4 (l:Bytes) (h:(utfRef l).2≠0):validB (utfRef l).1=true/\utfLen (utfRef l).1=(utfRef l).2:=by
 unfold utfRef at h ⊢;generalize rok l (rk (b0 l 0) - 1)=R at *;generalize rpart l (rk (b0 l 0))=N at *;generalize rk (b0 l 0)=K at *;by_cases c1:K=0
 ·rw[if_pos c1] at h;simp at h
 rw[if_neg c1] at h ⊢;by_cases c2:R=false
 ·rw[if_pos c2] at h;simp at h
 rw[if_neg c2] at h ⊢;by_cases c3:validB N=false
 ·rw[if_pos c3] at h;simp at h
 rw[if_neg c3] at h ⊢;by_cases c4:utfLen N=K
 ·rw[if_pos c4];exact⟨by simpa using c3,c4⟩
 rw[if_neg c4] at h;simp at h
theorem Qir {x:Int × Bool × Nat} (h:rd enc l=some x):(x.2.1=true->x.1≠10/\x.1≠13)/\(x.2.1=false->0<=x.1):=by
 unfold rd at h;by_cases h0:l.length=0
 ·rw[if_pos h0] at h;cases h
 rw[if_neg h0] at h;by_cases h3:enc=3
 ·rw[if_pos h3] at h;simp only[Option.some.injEq] at h;subst h;exact⟨fun e=>by simp at e,fun _=>(b0_bd l 0).1⟩
 rw[if_neg h3] at h;by_cases hu:enc=0
 ·rw[if_pos hu] at h;have hv:=Qb4 l;generalize utfRef l=u at *;by_cases hk:u.2=0
  ·rw[if_pos hk] at h;simp only[Option.some.injEq] at h;subst h;exact⟨fun _=>by simp,fun e=>by simp at e⟩
  rw[if_neg hk] at h;simp only[Option.some.injEq] at h;subst h;have:=(Qag u.1).1 (hv hk).1;exact⟨fun e=>by simp at e,fun _=>by simp only;omega⟩
 rw[if_neg hu] at h;have hb:=QaT enc l 0;generalize unitAt enc l 0=u at *;generalize unitAt enc l 2=v at *;by_cases h2:l.length<2
 ·rw[if_pos h2] at h;cases h
 rw[if_neg h2] at h;by_cases hp:55296<=u/\u<=56319/\3<l.length/\56320<=v/\v<=57343
 ·rw[if_pos hp] at h;simp only[Option.some.injEq] at h;subst h;exact⟨fun e=>by simp at e,fun _=>by simp only;omega⟩
 rw[if_neg hp] at h;simp only[Option.some.injEq] at h;subst h;refine⟨fun e=>?_,fun _=>hb.1⟩;simp only[Bool.and_eq_true,decide_eq_true_eq] at e;constructor<;>(simp only;omega)
theorem rd_le {x:Int × Bool × Nat} (h:rd enc l=some x) (he:x.2.1=false):x.1<=1114111:=by
 unfold rd at h;by_cases h0:l.length=0
 ·rw[if_pos h0] at h;cases h
 rw[if_neg h0] at h;by_cases h3:enc=3
 ·rw[if_pos h3] at h;simp only[Option.some.injEq] at h;subst h;have:=(b0_bd l 0).2;simp only;omega
 rw[if_neg h3] at h;by_cases hu:enc=0
 ·rw[if_pos hu] at h;have hv:=Qb4 l;generalize utfRef l=u at *;by_cases hk:u.2=0
  ·rw[if_pos hk] at h;simp only[Option.some.injEq] at h;subst h;simp at he
  rw[if_neg hk] at h;simp only[Option.some.injEq] at h;subst h;have:=(Qag u.1).1 (hv hk).1;simp only;omega
 rw[if_neg hu] at h;have hb:=QaT enc l 0;generalize unitAt enc l 0=u at *;generalize unitAt enc l 2=v at *;by_cases h2:l.length<2
 ·rw[if_pos h2] at h;cases h
 rw[if_neg h2] at h;by_cases hp:55296<=u/\u<=56319/\3<l.length/\56320<=v/\v<=57343
 ·rw[if_pos hp] at h;simp only[Option.some.injEq] at h;subst h;simp only;omega
 rw[if_neg hp] at h;simp only[Option.some.injEq] at h;subst h;simp only;omega
theorem QjH {x:Int × Bool × Nat} (h:rd enc l=some x):0<=x.1/\x.1<=1114111:=by
 unfold rd at h;by_cases h0:l.length=0
 ·rw[if_pos h0] at h;cases h
 rw[if_neg h0] at h;by_cases h3:enc=3
 ·rw[if_pos h3] at h;simp only[Option.some.injEq] at h;subst h;have:=b0_bd l 0;simp only;omega
 rw[if_neg h3] at h;by_cases hu:enc=0
 ·rw[if_pos hu] at h;have hv:=Qb4 l;generalize utfRef l=u at *;by_cases hk:u.2=0
  ·rw[if_pos hk] at h;simp only[Option.some.injEq] at h;subst h;simp
  rw[if_neg hk] at h;simp only[Option.some.injEq] at h;subst h;have:=(Qag u.1).1 (hv hk).1;simp only;omega
 rw[if_neg hu] at h;have hb:=QaT enc l 0;generalize unitAt enc l 0=u at *;generalize unitAt enc l 2=v at *;by_cases h2:l.length<2
 ·rw[if_pos h2] at h;cases h
 rw[if_neg h2] at h;by_cases hp:55296<=u/\u<=56319/\3<l.length/\56320<=v/\v<=57343
 ·rw[if_pos hp] at h;simp only[Option.some.injEq] at h;subst h;simp only;omega
 rw[if_neg hp] at h;simp only[Option.some.injEq] at h;subst h;simp only;omega
theorem rd_bd {x:Int × Bool × Nat} (h:rd enc l=some x):1<=x.2.2/\x.2.2<=4/\x.2.2<=l.length:=by
 have:=Qev enc l;rw[h] at this;exact QaU this.symm
theorem QgJ {x:Int × Bool × Nat} (h:rd enc l=some x):headSg enc l=some (sgOf x):=by
 rw[<-Qev,h];rfl
theorem rd_no (h:rd enc l=none):headSg enc l=none:=by
 rw[<-Qev,h];rfl
def RS (enc:Int) (bs:Bytes) (k:Nat) (L:List RA):Prop :=
 ∃pre outA h L0,signs enc bs=pre++signs enc (bs.drop k)/\Told pre outA h/\Reads L0 outA 0/\sizeA outA+h=k/\(h=0->NoCr outA) /\
  L=L0++(if 0<h then [(10,false,3,((k:Int) - h),(k:Int))] else [])/\L.length<=k
theorem RS.nil (enc:Int) (bs:Bytes):RS enc bs 0 []:=⟨[],[],0,[],rfl,Told.nil,trivial,rfl,fun _=>QmK,rfl,Z6 _⟩
theorem Reads.cr {L0:List RA} {outA:List At} (hr:Reads L0 outA 0) (hs:sizeA outA+h=k):Reads (L0++[(10,false,3,((k:Int) - h),(k:Int))]) (outA++[(2,10,h)]) 0 :=
 hr.snoc ⟨by simp only;omega,by simp only;omega,by simp,by simp,fun _=>rfl,by simp,by simp,by simp,by simp⟩
theorem RS.done (r:RS enc bs k L) (h:headSg enc (bs.drop k)=none):Reads L (atoms enc bs) 0:=by
 obtain⟨pre,outA,hh,L0,hs,t,hr,hz,_,rfl,_⟩:=r;have e:=QjC hs h;unfold atoms;rw[e,t.all];by_cases x:0<hh
 ·rw[if_pos x,if_pos x];exact hr.cr hz
 rw[if_neg x,if_neg x];simpa using hr
theorem RS.len (r:RS enc bs k L):L.length<=k:=by
 obtain⟨_,_,_,_,_,_,_,_,_,_,h⟩:=r;exact h
theorem sgl (c:Int) (e:Bool) (n:Nat) (h10:c≠10) (hp:e=false->0<=c):singleA (sgOf (c,e,n))=if e then (4,65533,n) else (3,c,n):=by
 unfold singleA sgOf;cases e
 ·have:=hp rfl;simp [h10,show c≠-1 by omega]
 rfl
theorem RS.other {e:Bool} (r:RS enc bs k L) (hx:rd enc (bs.drop k)=some (c,e,n)) (h10:c≠10) (h13:c≠13) :
  RS enc bs (k+n) (L++[(c,e,0,(k:Int),(k:Int)+n)]):=by
 obtain⟨pre,outA,hh,L0,hs,t,hr,hz,hn,rfl,hl⟩:=r
 obtain⟨b1,b2,b3⟩:=rd_bd hx
 simp only at b1
 obtain⟨_,hs2⟩:=Qb1 hs (QgJ hx)
 have g10:(sgOf (c,e,n)).1≠10:=by unfold sgOf;cases e<;>simp [h10]
 have g13:(sgOf (c,e,n)).1≠13:=by unfold sgOf;cases e<;>simp [h13]
 have gn:(sgOf (c,e,n)).2=n:=rfl
 rw[gn] at hs2
 have hA:=sgl c e n h10 (Qir hx).2
 have hsingle:(singleA (sgOf (c,e,n))).2.2=n:=by rw[hA];cases e<;>rfl
 have hnk:(singleA (sgOf (c,e,n))).1≠2:=by rw[hA];cases e<;>simp
 have hok:∀p:Nat,p=k->RaOk (c,e,0,(k:Int),(k:Int)+n) (singleA (sgOf (c,e,n))) p:=fun p hp=>by
  subst hp;rw[hA];cases e
  ·exact⟨rfl,rfl,by simp,by simp,fun _=>rfl,by simp,by simp,(QjH hx).1,(QjH hx).2⟩
  exact⟨rfl,rfl,by simp,by simp,fun x=>absurd rfl x,by simp,by simp,(QjH hx).1,(QjH hx).2⟩
 have hlen:∀M:List RA,M.length<=k->(M++[(c,e,0,(k:Int),(k:Int)+n)]).length<=k+n:=fun M hM=>by simp;omega
 by_cases x:0<hh
 ·rw[if_pos x] at hl ⊢;refine⟨_,outA++[(2,10,hh)]++[singleA (sgOf (c,e,n))],0,L0++[(10,false,3,((k:Int) - hh),(k:Int))]++[(c,e,0,(k:Int),(k:Int)+n)],hs2,t.one2 x g13 g10,(hr.cr hz).snoc (hok _ ?_),?_,fun _=>QdQ hnk,by simp,hlen _ hl⟩
  ·rw[Qay];simp only;omega
  rw[Qay,Qay,hsingle];simp only;omega
 rw[if_neg x,List.append_nil] at hl ⊢
 refine⟨_,outA++[singleA (sgOf (c,e,n))],0,L0++[(c,e,0,(k:Int),(k:Int)+n)],hs2,t.one (by omega) g13,hr.snoc (hok _ (by omega)),?_,fun _=>QdQ hnk,by simp,hlen _ hl⟩
 rw[Qay,hsingle];omega
theorem RS.cr (r:RS enc bs k L) (hx:rd enc (bs.drop k)=some (13,false,n)) :
  RS enc bs (k+n) (L++[(10,false,3,(k:Int),(k:Int)+n)]):=by
 obtain⟨pre,outA,hh,L0,hs,t,hr,hz,hn,rfl,hl⟩:=r
 obtain⟨b1,b2,b3⟩:=rd_bd hx
 simp only at b1
 obtain⟨_,hs2⟩:=Qb1 hs (QgJ hx)
 have gn:sgOf (13,false,n)=(13,n):=rfl
 rw[gn] at hs2
 have e1:(((k+n:Nat):Int) - (n:Int))=(k:Int):=by omega
 have e2:((k+n:Nat):Int)=(k:Int)+n:=by omega
 by_cases x:0<hh
 ·rw[if_pos x] at hl ⊢;refine⟨_,outA++[(2,10,hh)],n,L0++[(10,false,3,((k:Int) - hh),(k:Int))],hs2,t.cr2 x rfl,hr.cr hz,?_,fun y=>by omega,?_,by simp at hl ⊢;omega⟩
  ·rw[Qay];simp only;omega
  rw[if_pos (by omega),e1,e2]
 rw[if_neg x,List.append_nil] at hl ⊢
 refine⟨_,outA,n,L0,hs2,t.cr (by omega) rfl,hr,by omega,fun y=>by omega,?_,by simp;omega⟩
 rw[if_pos (by omega),e1,e2]
theorem RS.lf (r:RS enc bs k L) (hx:rd enc (bs.drop k)=some (10,false,n)) (hlast:∀M a,L=M++[a]->a.2.2.1≠3) :
  RS enc bs (k+n) (L++[(10,false,1,(k:Int),(k:Int)+n)]):=by
 obtain⟨pre,outA,hh,L0,hs,t,hr,hz,hn,rfl,hl⟩:=r
 obtain⟨b1,b2,b3⟩:=rd_bd hx
 simp only at b1
 obtain⟨_,hs2⟩:=Qb1 hs (QgJ hx)
 have gn:sgOf (10,false,n)=(10,n):=rfl
 rw[gn] at hs2
 by_cases x:0<hh
 ·rw[if_pos x] at hlast;exact absurd rfl (hlast _ _ rfl)
 rw[if_neg x,List.append_nil] at hl ⊢
 refine⟨_,outA++[(0,10,n)],0,L0++[(10,false,1,(k:Int),(k:Int)+n)],hs2,t.one (x:=(10,n)) (by omega) (by simp),hr.snoc ⟨by simp only;omega,by simp only;omega,by simp,by simp,fun _=>rfl,by simp,by simp,by simp,by simp⟩,?_,fun _=>QdQ (by simp),by simp,by simp;omega⟩
 rw[Qay];simp only;omega
theorem RS.crlf {M:List RA} (r:RS enc bs k (M++[a])) (hx:rd enc (bs.drop k)=some (10,false,n)) (ha:a.2.2.1=3) :
  RS enc bs (k+n) (M++[(a.1,a.2.1,2,a.2.2.2.1,(k:Int)+n)]):=by
 obtain⟨pre,outA,hh,L0,hs,t,hr,hz,hn,hL,hl⟩:=r
 obtain⟨b1,b2,b3⟩:=rd_bd hx
 simp only at b1
 obtain⟨_,hs2⟩:=Qb1 hs (QgJ hx)
 have gn:sgOf (10,false,n)=(10,n):=rfl
 rw[gn] at hs2
 by_cases x:0<hh
 ·rw[if_pos x] at hL;have h1:=List.append_inj_right' hL (by simp);have h2:=List.append_inj_left' hL (by simp);subst h2;simp only[List.cons.injEq,and_true] at h1;subst h1;refine⟨_,outA++[(1,10,n+hh)],0,M++[(10,false,2,((k:Int) - hh),(k:Int)+n)],hs2,t.crlf (x:=(10,n)) x rfl,hr.snoc ⟨by simp only;omega,by simp only;omega,by simp,by simp,fun _=>rfl,by simp,by simp,by simp,by simp⟩,?_,fun _=>QdQ (by simp),by simp,by simp at hl ⊢;omega⟩;rw[Qay];simp only;omega
 rw[if_neg x,List.append_nil] at hL
 subst hL
 exact absurd ha (hr.last (hn (by omega)))
def chA (x:At):Int:=x.2.1
def textL (A:List At):List Int:=A.flatMap (fun x=>utfL (chA x))
def lenA (x:At):Nat:=utfLen (chA x)
def unA (x:At):Nat:=if 65535<chA x then 2 else 1
def AtOk (x:At):Prop:=0<=x.1/\x.1<=4/\(x.1=4->x.2.1=65533)/\(x.1<=2->x.2.1=10)/\0<=x.2.1/\x.2.1<=1114111/\1<=x.2.2/\x.2.2<=8
theorem QeH (h1:0<=x.1) (h2:x.1<=4) (h3:x.1=4->x.2.1=65533) (h4:x.1<=2->x.2.1=10) (h5:0<=x.2.1) (h6:x.2.1<=1114111) (h7:1<=x.2.2) (h8:x.2.2<=8):AtOk x:=⟨h1,h2,h3,h4,h5,h6,h7,h8⟩
theorem Qke {x:Sg} (hc:-1<=x.1/\x.1<=1114111) (hn:1<=x.2/\x.2<=4):AtOk (singleA x):=by
 unfold singleA;split
 ·exact QeH (by simp) (by simp) (fun h=>by first|rfl|simp at h) (fun h=>by first|rfl|simp at h) (by simp only;omega) (by simp only;omega) (by simp only;omega) (by simp only;omega)
 split
 ·exact QeH (by simp) (by simp) (fun h=>by first|rfl|simp at h) (fun h=>by first|rfl|simp at h) (by simp only;omega) (by simp only;omega) (by simp only;omega) (by simp only;omega)
 exact QeH (by simp) (by simp) (fun h=>by first|rfl|simp at h) (fun h=>by first|rfl|simp at h) (by simp only;omega) (by simp only;omega) (by simp only;omega) (by simp only;omega)
theorem QdG :∀(S:List Sg) (h:Nat),h<=4->(∀x∈S,(-1<=x.1/\x.1<=1114111)/\1<=x.2/\x.2<=4)->∀a∈atomsF h S,AtOk a
 |[],h,h4,_,a,ha=>by
  simp only[atomsF] at ha
  split at ha
  ·simp only[List.mem_singleton] at ha;subst ha;exact QeH (by simp) (by simp) (fun h=>by first|rfl|simp at h) (fun h=>by first|rfl|simp at h) (by simp only;omega) (by simp only;omega) (by simp only;omega) (by simp only;omega)
  simp at ha
 |x :: r,h,h4,hS,a,ha=>by
  have hx:=hS x (by simp)
  have hr:∀y∈r,(-1<=y.1/\y.1<=1114111)/\1<=y.2/\y.2<=4:=fun y hy=>hS y (by simp [hy])
  simp only[atomsF] at ha
  split at ha
  ·simp only[List.mem_cons] at ha
   rcases ha with rfl|ha
   ·exact QeH (by simp) (by simp) (fun h=>by first|rfl|simp at h) (fun h=>by first|rfl|simp at h) (by simp only;omega) (by simp only;omega) (by simp only;omega) (by simp only;omega)
   exact QdG r 0 (by omega) hr a ha
  simp only[List.mem_append] at ha
  rcases ha with ha|ha
  ·split at ha
   ·simp only[List.mem_singleton] at ha;subst ha;exact QeH (by simp) (by simp) (fun h=>by first|rfl|simp at h) (fun h=>by first|rfl|simp at h) (by simp only;omega) (by simp only;omega) (by simp only;omega) (by simp only;omega)
   simp at ha
  split at ha
  ·exact QdG r x.2 hx.2.2 hr a ha
  simp only[List.mem_cons] at ha
  rcases ha with rfl|ha
  ·exact Qke hx.1 hx.2
  exact QdG r 0 (by omega) hr a ha
theorem Qme {x:Sg} (h:headSg enc l=some x):-1<=x.1/\x.1<=1114111:=by
 rw[<-Qev] at h;cases hr:rd enc l with
 |none=>rw[hr] at h;cases h
 |some y =>
  rw[hr] at h;simp only[Option.map_some,Option.some.injEq] at h;subst h;unfold sgOf;cases hy:y.2.1
  ·have h0:=(Qir hr).2 hy;have h1:y.1<=1114111:=rd_le hr hy;simp only[Bool.false_eq_true,if_false];omega
  simp
theorem QfX (enc:Int):∀(f:Nat) (l:Bytes) (x:Sg),x∈signsF enc f l->-1<=x.1/\x.1<=1114111
 |0,_,_,h=>by simp [signsF] at h
 |f+1,l,x,h=>by
  simp only[signsF] at h
  cases hx:headSg enc l with
  |none=>rw[hx] at h;simp at h
  |some y =>
   rw[hx] at h
   simp only[List.mem_cons] at h
   rcases h with rfl|h
   ·exact Qme hx
   exact QfX enc f _ x h
theorem Qao (enc:Int) (l:Bytes):∀a∈atoms enc l,AtOk a :=
 QdG _ 0 (by omega) (fun x hx=>⟨QfX enc _ l x hx,QdO enc _ l x hx⟩)
theorem QnQ {x:Int × Bool × Nat} (h:rd enc l=some x) (he:x.2.1=false):validB x.1=true:=by
 rw[Qag];unfold rd at h;by_cases h0:l.length=0
 ·rw[if_pos h0] at h;cases h
 rw[if_neg h0] at h;by_cases h3:enc=3
 ·rw[if_pos h3] at h;simp only[Option.some.injEq] at h;subst h;have:=b0_bd l 0;simp only;omega
 rw[if_neg h3] at h;by_cases hu:enc=0
 ·rw[if_pos hu] at h;have hv:=Qb4 l;generalize utfRef l=u at *;by_cases hk:u.2=0
  ·rw[if_pos hk] at h;simp only[Option.some.injEq] at h;subst h;simp at he
  rw[if_neg hk] at h;simp only[Option.some.injEq] at h;subst h;exact (Qag u.1).1 (hv hk).1
 rw[if_neg hu] at h;have hb:=QaT enc l 0;generalize unitAt enc l 0=u at *;generalize unitAt enc l 2=v at *;by_cases h2:l.length<2
 ·rw[if_pos h2] at h;cases h
 rw[if_neg h2] at h;by_cases hp:55296<=u/\u<=56319/\3<l.length/\56320<=v/\v<=57343
 ·rw[if_pos hp] at h;simp only[Option.some.injEq] at h;subst h;simp only;omega
 rw[if_neg hp] at h;simp only[Option.some.injEq] at h;subst h;simp only[Bool.and_eq_false_iff,decide_eq_false_iff_not] at he;simp only;omega
def SgOk (x:Sg):Prop:=x.1 = -1\/validB x.1=true
theorem Qfu {x:Sg} (h:headSg enc l=some x):SgOk x:=by
 rw[<-Qev] at h;cases hr:rd enc l with
 |none=>rw[hr] at h;cases h
 |some y =>
  rw[hr] at h;simp only[Option.map_some,Option.some.injEq] at h;subst h;unfold sgOf SgOk;cases hy:y.2.1
  ·exact .inr (by simpa using QnQ hr hy)
  exact .inl (by simp)
theorem Qhu (enc:Int):∀(f:Nat) (l:Bytes) (x:Sg),x∈signsF enc f l->SgOk x
 |0,_,_,h=>by simp [signsF] at h
 |f+1,l,x,h=>by
  simp only[signsF] at h
  cases hx:headSg enc l with
  |none=>rw[hx] at h;simp at h
  |some y =>
   rw[hx] at h
   simp only[List.mem_cons] at h
   rcases h with rfl|h
   ·exact Qfu hx
   exact Qhu enc f _ x h
def ChOk (a:At):Prop:=validB (chA a)=true/\chA a≠13
theorem Qlx {x:Sg} (h:SgOk x) (h13:¬x.1=13):ChOk (singleA x):=by
 unfold singleA ChOk chA;split
 ·exact⟨rfl,by simp⟩
 rename_i h1;split
 ·exact⟨rfl,by simp⟩
 rcases h with h|h
 ·exact absurd h h1
 exact⟨h,h13⟩
theorem QdJ :∀(S:List Sg) (h:Nat),(∀x∈S,SgOk x)->∀a∈atomsF h S,ChOk a
 |[],h,_,a,ha=>by
  simp only[atomsF] at ha
  split at ha
  ·simp only[List.mem_singleton] at ha;subst ha;exact⟨rfl,by simp [chA]⟩
  simp at ha
 |x :: r,h,hS,a,ha=>by
  have hx:=hS x (by simp)
  have hr:∀y∈r,SgOk y:=fun y hy=>hS y (by simp [hy])
  simp only[atomsF] at ha
  split at ha
  ·simp only[List.mem_cons] at ha
   rcases ha with rfl|ha
   ·exact⟨rfl,by simp [chA]⟩
   exact QdJ r 0 hr a ha
  simp only[List.mem_append] at ha
  rcases ha with ha|ha
  ·split at ha
   ·simp only[List.mem_singleton] at ha;subst ha;exact⟨rfl,by simp [chA]⟩
   simp at ha
  split at ha
  ·exact QdJ r x.2 hr a ha
  rename_i h13
  simp only[List.mem_cons] at ha
  rcases ha with rfl|ha
  ·exact Qlx hx h13
  exact QdJ r 0 hr a ha
theorem QbM (enc:Int) (l:Bytes):∀a∈atoms enc l,ChOk a:=QdJ _ 0 (fun x hx=>Qhu enc _ l x hx)
theorem QeB (enc:Int):∀(f:Nat) (l:Bytes),(signsF enc f l).length<=f
 |0,_=>by simp [signsF]
 |f+1,l=>by
  simp only[signsF]
  split
  ·simp
  rename_i x _
  have:=QeB enc f (l.drop x.2)
  rw[List.length_cons];omega
theorem Qda :∀(S:List Sg) (h:Nat),(atomsF h S).length<=S.length+if 0<h then 1 else 0
 |[],h=>by
  simp only[atomsF]
  split<;>simp
 |x :: r,h=>by
  have i0:=Qda r 0
  have ix:=Qda r x.2
  simp only[Nat.lt_irrefl,if_false,Nat.add_zero] at i0
  have ix':(atomsF x.2 r).length<=r.length+1:=Nat.le_trans ix (by split<;>omega)
  simp only[atomsF]
  by_cases c1:0<h/\x.1=10
  ·rw[if_pos c1,if_pos c1.1,List.length_cons,List.length_cons];omega
  rw[if_neg c1,List.length_append,List.length_cons]
  have a:(if 0<h then [((2:Int),(10:Int),h)] else ([]:List At)).length=if 0<h then 1 else 0:=by split<;>rfl
  rw[a]
  by_cases c2:x.1=13
  ·rw[if_pos c2];omega
  rw[if_neg c2,List.length_cons];omega
theorem QbH (enc:Int) (l:Bytes):(atoms enc l).length<=l.length:=by
 have h:=Qda (signs enc l) 0;have k:=QeB enc l.length l;simp only[Nat.lt_irrefl,if_false,Nat.add_zero] at h;exact Nat.le_trans h k
theorem Qdr (h:i<k):b0 (l.take k) i=b0 l i:=by
 simp [b0,List.getD,h]
theorem Qh1 (h:j<k):okAt (l.take k) r j=okAt l r j:=by
 unfold okAt;rw[Qdr h,List.length_take];congr 1;by_cases g:j<l.length
 ·simp only[g,decide_true,decide_eq_true_eq];omega
 simp only[g,decide_false,decide_eq_false_iff_not];omega
theorem QgB :∀{n:Nat},n<k->allOk (l.take k) r n=allOk l r n
 |0,_=>rfl
 |n+1,h=>by
  unfold allOk
  rw[QgB (by omega),Qh1 h]
theorem Qii (h:okAt (l.take k) r j=true):okAt l r j=true:=by
 by_cases hj:j<k
 ·rwa [Qh1 hj] at h
 unfold okAt at h;rw[List.length_take] at h;have:decide (j<min k l.length)=false:=by simp;omega
 rw[this] at h;simp at h
theorem QdE :∀{n:Nat},allOk (l.take k) r n=true->allOk l r n=true
 |0,_=>rfl
 |n+1,h=>by
  unfold allOk at h ⊢
  rw[Bool.and_eq_true] at h ⊢
  exact⟨QdE h.1,Qii h.2⟩
theorem Qgb :∀{n:Nat},n<=k->partV (l.take k) r n=partV l r n
 |0,_=>rfl
 |1,h=>by unfold partV;rw[Qdr (by omega)]
 |n+2,h=>by unfold partV;rw[Qgb (by omega),Qdr (by omega)]
theorem Qhr (h1:1<=k) (h:(utfHead l).2<=k):utfHead (l.take k)=utfHead l:=by
 have e0:b0 (l.take k) 0=b0 l 0:=Qdr (by omega);unfold utfHead at h ⊢;rw[e0];have hp:=Qfz (sqRow (b0 l 0));by_cases g:allOk l (sqRow (b0 l 0)) (sqN (sqRow (b0 l 0)) - 1)=true
 ·rw[if_pos g] at h ⊢;simp only at h;rw[QgB (by omega),if_pos g,Qgb h]
 rw[if_neg g,if_neg (fun x=>g (QdE x))]
theorem QfK (h:i+1<k):unitAt enc (l.take k) i=unitAt enc l i:=by
 unfold unitAt;rw[Qdr (by omega),Qdr h]
theorem Qhe (h1:2<=k) (h:(unitHead enc l).2<=k):unitHead enc (l.take k)=unitHead enc l:=by
 have e0:unitAt enc (l.take k) 0=unitAt enc l 0:=QfK (by omega);unfold unitHead at h ⊢;dsimp only at h ⊢;rw[e0,List.length_take];by_cases hk:4<=k
 ·have e2:unitAt enc (l.take k) 2=unitAt enc l 2:=QfK (by omega);rw[e2];by_cases g:3<l.length
  ·have g':3<min k l.length:=by omega
   simp only[g,g']
  have g':¬3<min k l.length:=by omega
  simp only[g,g']
 have g':¬3<min k l.length:=by omega
 by_cases g:55296<=unitAt enc l 0/\unitAt enc l 0<=56319/\3<l.length/\56320<=unitAt enc l 2/\unitAt enc l 2<=57343
 ·rw[if_pos g] at h;exact absurd h hk
 rw[if_neg g,if_neg (fun x=>g' x.2.2.1)]
theorem QcA {x:Sg} (h:headSg enc l=some x) (hk:x.2<=k):headSg enc (l.take k)=some x:=by
 obtain⟨h1,h2⟩:=Qcx h;unfold headSg at h ⊢;have n0:¬l.length=0:=by omega
 have n0':¬(l.take k).length=0:=by rw[List.length_take];omega
 rw[if_neg n0] at h;rw[if_neg n0'];by_cases e0:enc=0
 ·rw[if_pos e0] at h ⊢;cases h
  rw[Qhr (by omega) hk]
 rw[if_neg e0] at h ⊢;by_cases e3:enc=3
 ·rw[if_pos e3] at h ⊢;cases h
  rw[Qdr (by omega)]
 rw[if_neg e3] at h ⊢;by_cases h2:l.length<2
 ·rw[if_pos h2] at h;cases h
 rw[if_neg h2] at h;cases h
 have hu:=QcJ enc l;have h2':¬(l.take k).length<2:=by rw[List.length_take];omega
 rw[if_neg h2',Qhe (by omega) hk]
theorem QoH (c:Int):sqN (sqRow c)<=4:=by
 have:=Qd5 (sqRow c);unfold sqN;omega
theorem Qfk (enc:Int) (l:Bytes) (k:Nat) (hk:4<=k):headSg enc (l.take k)=headSg enc l:=by
 cases hx:headSg enc l with
 |some x =>
  refine QcA hx ?_;unfold headSg at hx;split at hx
  ·cases hx
  split at hx
  ·cases hx
   unfold utfHead;split
   ·exact Nat.le_trans (QoH _) hk
   show 1<=k;omega
  split at hx
  ·cases hx;show 1<=k;omega
  split at hx
  ·cases hx
  cases hx
  unfold unitHead;dsimp only;(repeat' split)<;>simp<;>omega
 |none =>
  unfold headSg at hx ⊢;rw[List.length_take];by_cases n0:l.length=0
  ·rw[if_pos (by omega)]
  rw[if_neg n0] at hx;rw[if_neg (by omega)];by_cases e0:enc=0
  ·rw[if_pos e0] at hx;cases hx
  rw[if_neg e0] at hx ⊢;by_cases e3:enc=3
  ·rw[if_pos e3] at hx;cases hx
  rw[if_neg e3] at hx ⊢;by_cases h2:l.length<2
  ·rw[if_pos (by omega)]
  rw[if_neg h2] at hx;cases hx
theorem QcM (enc:Int) (l r:Bytes) (h:4<=l.length):headSg enc (l++r)=headSg enc l:=by
 rw[<-Qfk enc (l++r) 4 (Z6 _),<-Qfk enc l 4 (Z6 _),List.take_append_of_le_length h]
def szS (S:List Sg):Nat:=(S.map (fun x=>x.2)).sum
theorem Qbi (x:Sg) (S:List Sg):szS (x :: S)=x.2+szS S:=by simp [szS]
theorem Qah {x:Sg} {S:List Sg} (h:signs enc l=x :: S):headSg enc l=some x/\signs enc (l.drop x.2)=S:=by
 rw[QbE] at h;cases hx:headSg enc l with
 |none=>rw[hx] at h;cases h
 |some y=>rw[hx] at h;injection h with h1 h2;subst h1;exact⟨rfl,h2⟩
theorem QdP :∀{S1 S2:List Sg} {l:Bytes},signs enc l=S1++S2->signs enc (l.take (szS S1))=S1/\signs enc (l.drop (szS S1))=S2
 |[],S2,l,h=>by
  simp only[szS,List.map_nil,List.sum_nil,List.take_zero,List.drop_zero]
  exact⟨QaB enc,h⟩
 |x :: S1,S2,l,h=>by
  obtain⟨hx,hr⟩:=Qah (h:signs enc l=x :: (S1++S2))
  obtain⟨h1,h2⟩:=QdP hr
  rw[Qbi]
  constructor
  ·rw[Qap (QcA hx (by omega)),List.drop_take,Nat.add_sub_cancel_left,h1]
  rw[<-List.drop_drop];exact h2
theorem Qgv :∀{S1 S2:List Sg} {l r:Bytes},signs enc l=S1++S2->szS S1+4<=l.length->signs enc (l++r)=S1++signs enc ((l++r).drop (szS S1))
 |[],S2,l,r,_,_=>by simp [szS]
 |x :: S1,S2,l,r,h,hk=>by
  rw[Qbi] at hk ⊢
  obtain⟨hx,hr⟩:=Qah (h:signs enc l=x :: (S1++S2))
  have hx':headSg enc (l++r)=some x:=by rw[QcM _ _ _ (by omega)];exact hx
  rw[Qap hx',List.drop_append_of_le_length (by omega),Qgv hr (by rw[List.length_drop];omega),<-List.drop_append_of_le_length (by omega),List.drop_drop]
  rfl
theorem Qc3 (x:Sg):(singleA x).2.2=x.2:=by
 unfold singleA;(repeat' split)<;>rfl
theorem Qar (a:At) (A:List At):sizeA (a :: A)=a.2.2+sizeA A:=by simp [sizeA]
theorem Qa9 :∀(S:List Sg) (h:Nat) (A0 A1:List At),atomsF h S=A0++A1->(h=0\/A0≠[]) ->
  ∃S1 S2,S=S1++S2/\atomsF h S1=A0/\atomsF 0 S2=A1/\h+szS S1=sizeA A0/\∀T,T.head?=S2.head?->atomsF h (S1++T)=A0++atomsF 0 T
 |[],h,A0,A1,e,hc=>by
  unfold atomsF at e
  by_cases h0:0<h
  ·rw[if_pos h0] at e
   have hA:A0≠[]:=hc.resolve_left (by omega)
   obtain⟨a,A,rfl⟩:=List.exists_cons_of_ne_nil hA
   simp only[List.cons_append,List.cons.injEq] at e
   obtain⟨rfl,e2⟩:=e
   have e3:=List.append_eq_nil_iff.1 e2.symm
   obtain⟨rfl,rfl⟩:=e3
   refine⟨[],[],rfl,by simp [atomsF,h0],by simp [atomsF],by simp [szS,sizeA],?_⟩
   intro T hT
   have:T=[]:=by cases T with|nil=>rfl|cons _ _=>simp at hT
   subst this
   simp [atomsF,h0]
  rw[if_neg h0] at e
  have e3:=List.append_eq_nil_iff.1 e.symm
  obtain⟨rfl,rfl⟩:=e3
  have:h=0:=by omega
  subst this
  exact⟨[],[],rfl,by simp [atomsF],by simp [atomsF],by simp [szS,sizeA],fun T _=>by simp⟩
 |x :: r,h,A0,A1,e,hc=>by
  by_cases hA:A0=[]
  ·subst hA
   have h0:h=0:=hc.resolve_right (by simp)
   subst h0
   exact⟨[],x :: r,rfl,by simp [atomsF],by simpa using e,by simp [szS,sizeA],fun T _=>by simp⟩
  obtain⟨a,A,rfl⟩:=List.exists_cons_of_ne_nil hA
  rw[atomsF] at e
  by_cases hc1:0<h/\x.1=10
  ·rw[if_pos hc1] at e
   simp only[List.cons_append,List.cons.injEq] at e
   obtain⟨rfl,e2⟩:=e
   obtain⟨S1,S2,rfl,i2,i3,i4,i5⟩:=Qa9 r 0 A A1 e2 (.inl rfl)
   refine⟨x :: S1,S2,rfl,by rw[atomsF,if_pos hc1,i2],i3,by rw[Qbi,Qar];simp only;omega,?_⟩
   intro T hT
   rw[List.cons_append,atomsF,if_pos hc1,i5 T hT];rfl
  rw[if_neg hc1] at e
  by_cases h0:0<h
  ·rw[if_pos h0] at e
   simp only[List.cons_append,List.nil_append,List.cons.injEq] at e
   obtain⟨rfl,e2⟩:=e
   by_cases hA':A=[]
   ·subst hA'
    refine⟨[],x :: r,rfl,by simp [atomsF,h0],by rw[atomsF,if_neg (show ¬(0<0/\x.1=10) from fun q=>absurd q.1 (by decide)),if_neg (show ¬0<0 by decide)];simpa using e2,by simp [szS,sizeA],?_⟩
    intro T hT
    obtain⟨t,rfl⟩:∃t,T=x :: t:=by
     cases T with
     |nil=>simp at hT
     |cons y t=>simp at hT;exact⟨t,by rw[hT]⟩
    rw[List.nil_append,atomsF,if_neg hc1,if_pos h0,atomsF,if_neg (show ¬(0<0/\x.1=10) from fun q=>absurd q.1 (by decide)),if_neg (show ¬0<0 by decide)];simp
   by_cases h13:x.1=13
   ·rw[if_pos h13] at e2;obtain⟨S1,S2,rfl,i2,i3,i4,i5⟩:=Qa9 r x.2 A A1 e2 (.inr hA');refine⟨x :: S1,S2,rfl,by rw[atomsF,if_neg hc1,if_pos h0,if_pos h13,i2];rfl,i3,by rw[Qbi,Qar];simp only;omega,?_⟩;intro T hT;rw[List.cons_append,atomsF,if_neg hc1,if_pos h0,if_pos h13,i5 T hT];rfl
   rw[if_neg h13] at e2;obtain⟨a2,A2,rfl⟩:=List.exists_cons_of_ne_nil hA';simp only[List.cons_append,List.cons.injEq] at e2;obtain⟨rfl,e3⟩:=e2;obtain⟨S1,S2,rfl,i2,i3,i4,i5⟩:=Qa9 r 0 A2 A1 e3 (.inl rfl);refine⟨x :: S1,S2,rfl,by rw[atomsF,if_neg hc1,if_pos h0,if_neg h13,i2];rfl,i3,by rw[Qbi,Qar,Qar,Qc3];simp only;omega,?_⟩;intro T hT;rw[List.cons_append,atomsF,if_neg hc1,if_pos h0,if_neg h13,i5 T hT];rfl
  rw[if_neg h0,List.nil_append] at e;have hz:h=0:=by omega
  subst hz;by_cases h13:x.1=13
  ·rw[if_pos h13] at e;obtain⟨S1,S2,rfl,i2,i3,i4,i5⟩:=Qa9 r x.2 (a :: A) A1 e (.inr (by simp));refine⟨x :: S1,S2,rfl,by rw[atomsF,if_neg hc1,if_neg h0,if_pos h13,i2];rfl,i3,by rw[Qbi];omega,?_⟩;intro T hT;rw[List.cons_append,atomsF,if_neg hc1,if_neg h0,if_pos h13,i5 T hT];rfl
  rw[if_neg h13] at e;simp only[List.cons_append,List.cons.injEq] at e;obtain⟨rfl,e3⟩:=e;obtain⟨S1,S2,rfl,i2,i3,i4,i5⟩:=Qa9 r 0 A A1 e3 (.inl rfl);refine⟨x :: S1,S2,rfl,by rw[atomsF,if_neg hc1,if_neg h0,if_neg h13,i2];rfl,i3,by rw[Qbi,Qar,Qc3];omega,?_⟩;intro T hT;rw[List.cons_append,atomsF,if_neg hc1,if_neg h0,if_neg h13,i5 T hT];rfl
theorem Qn2 :∀{S1 S2:List Sg} {l:Bytes},signs enc l=S1++S2->szS S1<=l.length
 |[],_,_,_=>by simp [szS]
 |x :: S1,S2,l,h=>by
  obtain⟨hx,hr⟩:=Qah (h:signs enc l=x :: (S1++S2))
  have h1:=(QaU hx).2.2
  have h2:=Qn2 hr
  rw[List.length_drop] at h2
  rw[Qbi];omega
theorem QaE (h:A0 <+: atoms enc l):sizeA A0<=l.length:=by
 obtain⟨A1,hA⟩:=h;obtain⟨S1,S2,e1,e2,e3,e4,_⟩:=Qa9 (signs enc l) 0 A0 A1 hA.symm (.inl rfl);have:=Qn2 e1;omega
theorem QaC (h:A0 <+: atoms enc l):atoms enc (l.take (sizeA A0))=A0/\atoms enc l=A0++atoms enc (l.drop (sizeA A0)):=by
 obtain⟨A1,hA⟩:=h;obtain⟨S1,S2,e1,e2,e3,e4,_⟩:=Qa9 (signs enc l) 0 A0 A1 hA.symm (.inl rfl);obtain⟨c1,c2⟩:=QdP e1;rw[Nat.zero_add] at e4;rw[<-e4];refine⟨by rw[atoms,c1,e2],?_⟩;rw[<-hA,<-e3,<-c2];rfl
theorem Qen {r:Bytes} (h:A0 <+: atoms enc l) (hk:sizeA A0+4<=l.length):atoms enc (l++r)=A0++atoms enc ((l++r).drop (sizeA A0)):=by
 obtain⟨A1,hA⟩:=h;obtain⟨S1,S2,e1,e2,e3,e4,e5⟩:=Qa9 (signs enc l) 0 A0 A1 hA.symm (.inl rfl);obtain⟨c1,c2⟩:=QdP e1;rw[Nat.zero_add] at e4;rw[<-e4] at hk ⊢;have hs:=Qgv (r:=r) e1 hk;show atomsF 0 (signs enc (l++r))=_;rw[hs];refine e5 _ ?_
 have hd:headSg enc ((l++r).drop (szS S1))=headSg enc (l.drop (szS S1)):=by
  rw[List.drop_append_of_le_length (by omega)];exact QcM _ _ _ (by rw[List.length_drop];omega)
 rw[<-c2,QbE,QbE enc (l.drop (szS S1)),hd];cases headSg enc (l.drop (szS S1))<;>rfl
def partL (l:List UInt8) (f t:Int):List UInt8:=(l.take t.toNat).drop f.toNat
theorem QdR {l:List UInt8} {f t:Int} (h:(l.length:Int)<=f\/t<=0\/t<=f):partL l f t=[]:=by
 unfold partL;apply List.drop_eq_nil_of_le;rw[List.length_take];omega
theorem Qb8 (a b:List UInt8) (f t:Int):partL (a++b) f t=partL a f t++partL b (f - a.length) (t - a.length):=by
 unfold partL;rw[List.take_append,List.drop_append];congr 1;have e1:(t - (a.length:Int)).toNat=t.toNat - a.length:=by omega
 have e2:(f - (a.length:Int)).toNat=f.toNat - a.length:=by omega
 rw[e1,e2,List.length_take];by_cases h:a.length<=t.toNat
 ·rw[Nat.min_eq_right h]
 have:t.toNat - a.length=0:=by omega
 rw[this];simp
theorem QlJ (l:List UInt8) (t:Int) (h:(l.length:Int)<=t):partL l 0 t=l:=by
 unfold partL;rw[List.take_of_length_le (by omega)];simp
theorem Qcn (l:List UInt8) (f t:Int):(partL l f t).length<=l.length:=by
 unfold partL;rw[List.length_drop,List.length_take];omega
theorem Qcw (b:ByteArray) (i j:Nat) (f t:Int) (hi:i=f.toNat) (hj:j=min t.toNat b.size):(b.extract i j).data.toList=partL b.data.toList f t:=by
 rw[ByteArray.data_extract,Array.toList_extract,List.extract_eq_take_drop,hi,hj];unfold partL;rw[List.take_drop];have hl:b.data.toList.length=b.size:=rfl;by_cases h:f.toNat<=min t.toNat b.size
 ·rw[Nat.add_sub_cancel' h];congr 1;by_cases g:t.toNat<=b.size
  ·rw[Nat.min_eq_left g]
  rw[Nat.min_eq_right (by omega),List.take_of_length_le (by omega),List.take_of_length_le (by omega)]
 rw[Nat.sub_eq_zero_of_le (by omega),Nat.add_zero];rw[List.drop_eq_nil_of_le (by rw[List.length_take];omega),List.drop_eq_nil_of_le (by rw[List.length_take];omega)]
theorem Ql0 :∀(S:List Sg) (h:Nat),0<h->atomsF h S≠[]
 |[],h,h0=>by simp [atomsF,h0]
 |x :: r,h,h0=>by
  simp only[atomsF]
  split
  ·simp
  exact List.append_ne_nil_of_left_ne_nil (by simp) _
theorem QjZ (enc:Int) (l:Bytes) (h:2<=l.length):atoms enc l≠[]:=by
 unfold atoms signs;obtain⟨f,hf⟩:∃f,l.length=f+1:=⟨l.length - 1,by omega⟩;rw[hf]
 have hx:∃x,headSg enc l=some x:=by
  unfold headSg;rw[if_neg (by omega)];split
  ·exact⟨_,rfl⟩
  split
  ·exact⟨_,rfl⟩
  rw[if_neg (by omega)];exact⟨_,rfl⟩
 obtain⟨x,hx⟩:=hx
 have hb:1<=x.2:=by
  rw[<-Qev] at hx;cases hr:rd enc l with
  |none=>rw[hr] at hx;cases hx
  |some y =>
   rw[hr] at hx;cases hx
   exact (rd_bd hr).1
 unfold signsF;rw[hx];simp only[atomsF,Nat.lt_irrefl,false_and,if_false,List.nil_append];by_cases h13:x.1=13
 ·rw[if_pos h13];exact Ql0 (signsF enc f (l.drop x.2)) x.2 hb
 rw[if_neg h13];simp
theorem QhD (hl:2<=l.length) (h:A0=atoms enc l\/∃x,A0++[x] <+: atoms enc l/\1000<sizeA (A0++[x])):1<=sizeA A0:=by
 rcases h with rfl|⟨x,hx,hs⟩
 ·have h1:=QjZ enc l hl;cases hA:atoms enc l with
  |nil=>exact absurd hA h1
  |cons a A =>
   have:=(Qao enc l a (by rw[hA];simp)).2.2.2.2.2.2;rw[Qar];omega
 have:=(Qao enc l x (hx.subset (by simp))).2.2.2.2.2.2;rw[Qay] at hs;omega
end Vm
