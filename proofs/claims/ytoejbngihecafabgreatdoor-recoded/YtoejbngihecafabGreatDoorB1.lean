import Derived.Test.YtoejbngihecafabGreatDoorProg
namespace Vm
def sqUp (r:Nat):Int :=
 match r with
 |0=>127|1=>193|2=>223|3=>224|4=>236|5=>237|6=>239|7=>240|8=>243|9=>244|_=>255
def sqSize (r:Nat):Int :=
 match r with
 |0=>1|1=>2|2=>2|3=>3|4=>3|5=>3|6=>3|7=>4|8=>4|9=>4|_=>2
def sqBits (r:Nat):Int :=
 match r with
 |0=>127|1=>0|2=>31|3=>15|4=>15|5=>15|6=>15|7=>7|8=>7|9=>7|_=>0
def sqLeast (r:Nat):Int :=
 match r with
 |0=>0|1=>255|2=>128|3=>160|4=>128|5=>128|6=>128|7=>144|8=>128|9=>128|_=>255
def sqMost (r:Nat):Int :=
 match r with
 |0=>0|1=>0|2=>191|3=>191|4=>191|5=>159|6=>191|7=>191|8=>191|9=>143|_=>0
def sqRow (c:Int):Nat :=
 if c<=127 then 0 else if c<=193 then 1 else if c<=223 then 2 else if c<=224 then 3 else if c<=236 then 4 else if c<=237 then 5
 else if c<=239 then 6 else if c<=240 then 7 else if c<=243 then 8 else if c<=244 then 9 else 10
theorem sqRow_cases (c:Int):(c<=127/\sqRow c=0)\/(127<c/\c<=193/\sqRow c=1)\/(193<c/\c<=223/\sqRow c=2)\/(223<c/\c<=224/\sqRow c=3)\/(224<c/\c<=236/\sqRow c=4) \/
  (236<c/\c<=237/\sqRow c=5)\/(237<c/\c<=239/\sqRow c=6)\/(239<c/\c<=240/\sqRow c=7)\/(240<c/\c<=243/\sqRow c=8)\/(243<c/\c<=244/\sqRow c=9)\/(244<c/\sqRow c=10):=by
 unfold sqRow;(repeat' split)<;>omega
theorem sqRow_le (c:Int):sqRow c<=10:=by have:=sqRow_cases c;omega
theorem sqUp_all:sqUp 0=127/\sqUp 1=193/\sqUp 2=223/\sqUp 3=224/\sqUp 4=236/\sqUp 5=237/\sqUp 6=239/\sqUp 7=240/\sqUp 8=243/\sqUp 9=244/\sqUp 10=255:=⟨rfl,rfl,rfl,rfl,rfl,rfl,rfl,rfl,rfl,rfl,rfl⟩
theorem sqRow_lt {c:Int} {k:Nat} (hk:k<sqRow c):sqUp k<c:=by
 have h:=sqRow_cases c
 obtain⟨u0,u1,u2,u3,u4,u5,u6,u7,u8,u9,u10⟩:=sqUp_all
 have hk':k=0\/k=1\/k=2\/k=3\/k=4\/k=5\/k=6\/k=7\/k=8\/k=9:=by omega
 rcases hk' with rfl|rfl|rfl|rfl|rfl|rfl|rfl|rfl|rfl|rfl<;>omega
theorem sqRow_at {c:Int} (h0:c<=255):c<=sqUp (sqRow c):=by
 obtain⟨u0,u1,u2,u3,u4,u5,u6,u7,u8,u9,u10⟩:=sqUp_all
 rcases sqRow_cases c with ⟨a,h⟩|⟨_,a,h⟩|⟨_,a,h⟩|⟨_,a,h⟩|⟨_,a,h⟩|⟨_,a,h⟩|⟨_,a,h⟩|⟨_,a,h⟩|⟨_,a,h⟩|⟨_,a,h⟩|⟨_,h⟩<;>rw[h]<;>omega
theorem sqRow_of {c:Int} {k:Nat} (hk:k<=sqRow c) (h:c<=sqUp k):k=sqRow c:=by
 by_cases e:k=sqRow c
 ·exact e
 ·have:=sqRow_lt (show k<sqRow c by omega);omega
theorem sqUp_bd (k:Nat):0<=sqUp k/\sqUp k<=255:=by unfold sqUp;split<;>omega
abbrev Sg:=Int × Nat
abbrev Bytes:=List UInt8
def b0 (l:Bytes) (i:Nat):Int:=((l.getD i 0).toNat:Int)
def goesOnB (l m k c:Int):Bool:=if k=1 then decide (l<=c)&&decide (c<=m) else decide (128<=c)&&decide (c<=191)
def okAt (l:Bytes) (r k:Nat):Bool:=decide (k<l.length)&&goesOnB (sqLeast r) (sqMost r) k (b0 l k)
def allOk (l:Bytes) (r:Nat):Nat->Bool
 |0=>true
 |n+1=>allOk l r n&&okAt l r (n+1)
def partV (l:Bytes) (r:Nat):Nat->Int
 |0=>0
 |1=>b0 l 0%(sqBits r+1)
 |k+2=>64 * partV l r (k+1)+b0 l (k+1)%64
def sqN (r:Nat):Nat:=(sqSize r).toNat
def utfHead (l:Bytes):Sg :=
 if allOk l (sqRow (b0 l 0)) (sqN (sqRow (b0 l 0)) - 1) then (partV l (sqRow (b0 l 0)) (sqN (sqRow (b0 l 0))),sqN (sqRow (b0 l 0))) else (-1,1)
def unitAt (enc:Int) (l:Bytes) (i:Nat):Int :=
 if enc=1 then b0 l i+256 * b0 l (i+1) else 256 * b0 l i+b0 l (i+1)
def unitHead (enc:Int) (l:Bytes):Sg :=
 let u:=unitAt enc l 0
 let v:=unitAt enc l 2
 if 55296<=u/\u<=56319/\3<l.length/\56320<=v/\v<=57343 then (65536+1024 * (u - 55296)+(v - 56320),4)
 else if 55296<=u/\u<=57343 then (-1,2) else (u,2)
def headSg (enc:Int) (l:Bytes):Option Sg :=
 if l.length=0 then none
 else if enc=0 then some (utfHead l)
 else if enc=3 then some (b0 l 0,1)
 else if l.length<2 then none
 else some (unitHead enc l)
def signsF (enc:Int):Nat->Bytes->List Sg
 |0,_=>[]
 |f+1,l=>match headSg enc l with
  |none=>[]
  |some x=>x :: signsF enc f (l.drop x.2)
def signs (enc:Int) (l:Bytes):List Sg:=signsF enc l.length l
theorem sqSize_bd (r:Nat):1<=sqSize r/\sqSize r<=4:=by unfold sqSize;split<;>omega
theorem sqN_pos (r:Nat):1<=sqN r:=by have:=sqSize_bd r;unfold sqN;omega
theorem sqN_le (r:Nat):sqN r<=4:=by have:=sqSize_bd r;unfold sqN;omega
theorem sqN_cast (r:Nat):sqSize r=(sqN r:Int):=by have:=sqSize_bd r;unfold sqN;omega
theorem sqBits_bd (r:Nat):0<=sqBits r/\sqBits r<=127:=by unfold sqBits;split<;>omega
theorem utfHead_size (l:Bytes):1<=(utfHead l).2:=by
 unfold utfHead;split
 ·exact sqN_pos _
 ·exact Nat.le_refl _
theorem unitHead_size (enc:Int) (l:Bytes):2<=(unitHead enc l).2:=by
 unfold unitHead;dsimp only;(repeat' split)<;>simp
theorem headSg_size {enc:Int} {l:Bytes} {x:Sg} (h:headSg enc l=some x):1<=x.2/\0<l.length:=by
 unfold headSg at h
 split at h
 ·cases h
 ·split at h
  ·cases h;exact⟨utfHead_size l,by omega⟩
  ·split at h
   ·cases h;exact⟨Nat.le_refl _,by omega⟩
   ·split at h
    ·cases h
    ·cases h;exact⟨Nat.le_trans (by decide) (unitHead_size enc l),by omega⟩
theorem signsF_enough (enc:Int):∀(f g:Nat) (l:Bytes),l.length<=f->l.length<=g->signsF enc f l=signsF enc g l
 |0,0,_,_,_=>rfl
 |0,g+1,l,h,_=>by
  cases l with
  |nil=>simp [signsF,headSg]
  |cons a r=>simp at h
 |f+1,0,l,_,h=>by
  cases l with
  |nil=>simp [signsF,headSg]
  |cons a r=>simp at h
 |f+1,g+1,l,hf,hg=>by
  simp only[signsF]
  cases hx:headSg enc l with
  |none=>rfl
  |some x =>
   obtain⟨h1,h2⟩:=headSg_size hx
   have hl:(l.drop x.2).length<=l.length - 1:=by rw[List.length_drop];omega
   simp only
   rw[signsF_enough enc f g (l.drop x.2) (by omega) (by omega)]
theorem signs_step (enc:Int) (l:Bytes):signs enc l=match headSg enc l with|none=>[]|some x=>x :: signs enc (l.drop x.2):=by
 cases l with
 |nil=>simp [signs,signsF,headSg]
 |cons a r =>
  show signsF enc (r.length+1) (a :: r)=_
  simp only[signsF]
  cases hx:headSg enc (a :: r) with
  |none=>rfl
  |some x =>
   obtain⟨h1,h2⟩:=headSg_size hx
   simp only[signs]
   rw[signsF_enough enc r.length _ _ (by rw[List.length_drop];simp;omega) (Nat.le_refl _)]
theorem signs_nil (enc:Int):signs enc []=[]:=by simp [signs,signsF]
theorem signs_some {enc:Int} {l:Bytes} {x:Sg} (h:headSg enc l=some x):signs enc l=x :: signs enc (l.drop x.2):=by rw[signs_step,h]
theorem signs_none {enc:Int} {l:Bytes} (h:headSg enc l=none):signs enc l=[]:=by rw[signs_step,h]
theorem snoc_pre {α:Type} (pre r:List α) (x:α):pre++[x] <+: pre++x :: r:=⟨r,by simp⟩
theorem sg_next {enc:Int} {bl:Bytes} {k:Nat} {pre:List Sg} {x:Sg} (hs:signs enc bl=pre++signs enc (bl.drop k)) (hx:headSg enc (bl.drop k)=some x) :
  pre++[x] <+: signs enc bl/\signs enc bl=(pre++[x])++signs enc (bl.drop (k+x.2)):=by
 have:=signs_some hx
 rw[List.drop_drop] at this
 rw[hs,this]
 exact⟨snoc_pre _ _ _,by simp⟩
theorem sg_end {enc:Int} {bl:Bytes} {k:Nat} {pre:List Sg} (hs:signs enc bl=pre++signs enc (bl.drop k)) (hx:headSg enc (bl.drop k)=none):signs enc bl=pre:=by
 rw[hs,signs_none hx];simp
theorem b0_drop (l:Bytes) (k i:Nat):b0 (l.drop k) i=b0 l (k+i):=by simp [b0,List.getD]
theorem b0_bd (l:Bytes) (i:Nat):0<=b0 l i/\b0 l i<=255:=by
 unfold b0;have:=(l.getD i 0).toNat_lt;omega
theorem b0_byte (b:ByteArray) (k:Nat) (h:k<b.size):b0 b.data.toList k=(b[k].toNat:Int):=by
 unfold b0
 have:b.data.toList.getD k 0=b[k]:=by
  rw[List.getD_eq_getElem?_getD,List.getElem?_eq_getElem (by simpa using h)];rfl
 rw[this]
theorem len_drop (b:ByteArray) (k:Nat):(b.data.toList.drop k).length=b.size - k:=by rw[List.length_drop];rfl
theorem latin_some (b:ByteArray) (k:Nat) (h:k<b.size):headSg 3 (b.data.toList.drop k)=some ((b[k].toNat:Int),1):=by
 have e:=len_drop b k
 unfold headSg
 rw[if_neg (by omega),if_neg (by decide),if_pos rfl,b0_drop,Nat.add_zero,b0_byte b k h]
theorem any_none (enc:Int) (b:ByteArray) (k:Nat) (h:b.size<=k):headSg enc (b.data.toList.drop k)=none:=by
 have e:=len_drop b k
 unfold headSg
 rw[if_pos (by omega)]
theorem allOk_false {l:Bytes} {r n k:Nat} (hk:1<=k) (hn:k<=n) (h:okAt l r k=false):allOk l r n=false:=by
 induction n with
 |zero=>omega
 |succ n ih =>
  by_cases e:k=n+1
  ·subst e;simp [allOk,h]
  ·simp [allOk,ih (by omega)]
theorem partV_bd (l:Bytes) (r:Nat):∀k,k<=4->0<=partV l r k/\partV l r k<=33554431:=by
 have h1:0<=partV l r 1/\partV l r 1<=127:=by
  have:=sqBits_bd r
  simp only[partV]
  have e1:=Int.emod_nonneg (b0 l 0) (b:=sqBits r+1) (by omega)
  have e2:=Int.emod_lt_of_pos (b0 l 0) (b:=sqBits r+1) (by omega)
  omega
 have h2:partV l r 2=64 * partV l r 1+b0 l 1%64:=rfl
 have h3:partV l r 3=64 * partV l r 2+b0 l 2%64:=rfl
 have h4:partV l r 4=64 * partV l r 3+b0 l 3%64:=rfl
 intro k hk
 have:k=0\/k=1\/k=2\/k=3\/k=4:=by omega
 rcases this with rfl|rfl|rfl|rfl|rfl
 ·simp [partV]
 all_goals omega
theorem utf_some (b:ByteArray) (k:Nat) (h:k<b.size):headSg 0 (b.data.toList.drop k)=some (utfHead (b.data.toList.drop k)):=by
 have e:=len_drop b k
 unfold headSg
 rw[if_neg (by omega),if_pos rfl]
theorem okAt_end {b:ByteArray} {k j r:Nat} (h:b.size<=k+j):okAt (b.data.toList.drop k) r j=false:=by
 have e:=len_drop b k
 simp [okAt,show ¬j<b.size - k by omega,e]
theorem okAt_in {b:ByteArray} {k j r:Nat} (h:k+j<b.size):okAt (b.data.toList.drop k) r j=goesOnB (sqLeast r) (sqMost r) j (b[k+j].toNat:Int):=by
 have e:=len_drop b k
 unfold okAt
 rw[b0_drop,b0_byte b (k+j) h,e]
 simp [show j<b.size - k by omega]
theorem utfHead_bad {l:Bytes} {r j:Nat} (hr:sqRow (b0 l 0)=r) (h1:1<=j) (h2:j<sqN r) (h:okAt l r j=false):utfHead l=(-1,1):=by
 unfold utfHead;rw[hr,allOk_false h1 (show j<=sqN r - 1 by omega) h];rfl
theorem utfHead_good {l:Bytes} {r:Nat} (hr:sqRow (b0 l 0)=r) (h:allOk l r (sqN r - 1)=true):utfHead l=(partV l r (sqN r),sqN r):=by
 unfold utfHead;rw[hr,h];rfl
theorem allOk_succ {l:Bytes} {r j:Nat} (h1:1<=j) (h:allOk l r (j - 1)=true) (h2:okAt l r j=true):allOk l r j=true:=by
 obtain⟨i,rfl⟩:∃i,j=i+1:=⟨j - 1,by omega⟩
 simp only[Nat.add_sub_cancel] at h
 simp [allOk,h,h2]
theorem partV_succ (l:Bytes) (r j:Nat) (h1:1<=j):partV l r (j+1)=64 * partV l r j+b0 l j%64:=by
 obtain⟨i,rfl⟩:∃i,j=i+1:=⟨j - 1,by omega⟩
 rfl
theorem sqBits_cases (r:Nat):sqBits r=127\/sqBits r=31\/sqBits r=15\/sqBits r=7\/sqBits r=0:=by unfold sqBits;split<;>simp
def unitO (enc:Int) (b:ByteArray) (i:Nat):Int:=if i+1<b.size then unitAt enc b.data.toList i else -1
theorem unitAt_bd (enc:Int) (l:Bytes) (i:Nat):0<=unitAt enc l i/\unitAt enc l i<=65535:=by
 have h1:=b0_bd l i
 have h2:=b0_bd l (i+1)
 unfold unitAt;split<;>omega
theorem unitO_bd (enc:Int) (b:ByteArray) (i:Nat):-1<=unitO enc b i/\unitO enc b i<=65535:=by
 have:=unitAt_bd enc b.data.toList i
 unfold unitO;split<;>omega
theorem unitAt_1 (l:Bytes) (i:Nat):unitAt 1 l i=b0 l i+256 * b0 l (i+1):=by simp [unitAt]
theorem unitAt_2 (l:Bytes) (i:Nat):unitAt 2 l i=256 * b0 l i+b0 l (i+1):=by simp [unitAt]
def aloneI (u:Int):Int:=if 55296<=u/\u<=57343 then -1 else u
def isPair (u v:Int):Prop:=(55296<=u/\u<=56319)/\(56320<=v/\v<=57343)
theorem unitAt_drop (enc:Int) (l:Bytes) (k i:Nat):unitAt enc (l.drop k) i=unitAt enc l (k+i):=by
 unfold unitAt;simp only[b0_drop,Nat.add_assoc]
theorem unit_lone {enc:Int} {b:ByteArray} {i:Nat} (he:enc=1\/enc=2) (h:i+1<b.size) (hp:¬isPair (unitO enc b i) (unitO enc b (i+2))) :
  headSg enc (b.data.toList.drop i)=some (aloneI (unitO enc b i),2):=by
 have e:=len_drop b i
 have hu:unitO enc b i=unitAt enc b.data.toList i:=by unfold unitO;rw[if_pos h]
 unfold headSg
 rw[if_neg (by omega),if_neg (by omega),if_neg (by omega),if_neg (by omega)]
 unfold unitHead
 dsimp only
 rw[unitAt_drop,unitAt_drop,Nat.add_zero,e,<-hu]
 rw[if_neg]
 ·unfold aloneI;split<;>rfl
 ·rintro ⟨h1,h2,h3,h4,h5⟩
  apply hp
  unfold isPair
  have hv:unitO enc b (i+2)=unitAt enc b.data.toList (i+2):=by unfold unitO;rw[if_pos (by omega)]
  rw[hv]
  exact⟨⟨h1,h2⟩,h4,h5⟩
theorem unit_pair {enc:Int} {b:ByteArray} {i:Nat} (he:enc=1\/enc=2) (h:i+1<b.size) (hp:isPair (unitO enc b i) (unitO enc b (i+2))) :
  headSg enc (b.data.toList.drop i)=some (65536+1024 * (unitO enc b i - 55296)+(unitO enc b (i+2) - 56320),4)/\i+3<b.size:=by
 have e:=len_drop b i
 have h3:i+3<b.size:=by
  by_cases x:i+3<b.size
  ·exact x
  ·have:unitO enc b (i+2) = -1:=by unfold unitO;rw[if_neg (by omega)]
   unfold isPair at hp;omega
 have hu:unitO enc b i=unitAt enc b.data.toList i:=by unfold unitO;rw[if_pos h]
 have hv:unitO enc b (i+2)=unitAt enc b.data.toList (i+2):=by unfold unitO;rw[if_pos (by omega)]
 refine⟨?_,h3⟩
 unfold headSg
 rw[if_neg (by omega),if_neg (by omega),if_neg (by omega),if_neg (by omega)]
 unfold unitHead
 dsimp only
 rw[unitAt_drop,unitAt_drop,Nat.add_zero,e,<-hu,<-hv,if_pos]
 unfold isPair at hp
 omega
theorem unit_none {enc:Int} {b:ByteArray} {i:Nat} (he:enc=1\/enc=2) (h:b.size<=i+1):headSg enc (b.data.toList.drop i)=none:=by
 have e:=len_drop b i
 unfold headSg
 by_cases x:(b.data.toList.drop i).length=0
 ·rw[if_pos x]
 ·rw[if_neg x,if_neg (by omega),if_neg (by omega),if_pos (by omega)]
abbrev At:=Int × Int × Nat
def singleA (x:Sg):At:=if x.1 = -1 then (4,65533,x.2) else if x.1=10 then (0,10,x.2) else (3,x.1,x.2)
def atomsF:Nat->List Sg->List At
 |h,[]=>if 0<h then [(2,10,h)] else []
 |h,x :: r=>if 0<h/\x.1=10 then (1,10,x.2+h) :: atomsF 0 r
  else (if 0<h then [(2,10,h)] else [])++(if x.1=13 then atomsF x.2 r else singleA x :: atomsF 0 r)
def atoms (enc:Int) (l:Bytes):List At:=atomsF 0 (signs enc l)
def Told (pre:List Sg) (out:List At) (h:Nat):Prop:=∀rest,atomsF 0 (pre++rest)=out++atomsF h rest
theorem Told.nil:Told [] [] 0:=fun _=>by simp
theorem Told.crlf {pre:List Sg} {out:List At} {h:Nat} {x:Sg} (t:Told pre out h) (h0:0<h) (hx:x.1=10):Told (pre++[x]) (out++[(1,10,x.2+h)]) 0:=fun rest=>by
 have:=t (x :: rest)
 simp only[atomsF,h0,hx,and_self,if_true] at this
 simpa using this
theorem Told.cr {pre:List Sg} {out:List At} {h:Nat} {x:Sg} (t:Told pre out h) (h0:h=0) (hx:x.1=13):Told (pre++[x]) out x.2:=fun rest=>by
 subst h0
 have:=t (x :: rest)
 simp [atomsF,hx] at this
 simpa using this
theorem Told.one {pre:List Sg} {out:List At} {h:Nat} {x:Sg} (t:Told pre out h) (h0:h=0) (hx:x.1≠13):Told (pre++[x]) (out++[singleA x]) 0:=fun rest=>by
 subst h0
 have:=t (x :: rest)
 simp [atomsF,hx] at this
 simpa using this
theorem Told.cr2 {pre:List Sg} {out:List At} {h:Nat} {x:Sg} (t:Told pre out h) (h0:0<h) (hx:x.1=13):Told (pre++[x]) (out++[(2,10,h)]) x.2:=fun rest=>by
 have:=t (x :: rest)
 simp [atomsF,hx,h0] at this
 simpa using this
theorem Told.one2 {pre:List Sg} {out:List At} {h:Nat} {x:Sg} (t:Told pre out h) (h0:0<h) (hx:x.1≠13) (hx2:x.1≠10):Told (pre++[x]) (out++[(2,10,h)]++[singleA x]) 0:=fun rest=>by
 have:=t (x :: rest)
 simp [atomsF,hx,hx2,h0] at this
 simpa using this
theorem Told.pre {pre all:List Sg} {out:List At} {h:Nat} (t:Told pre out h) (hp:pre <+: all):out <+: atomsF 0 all:=by
 obtain⟨r,rfl⟩:=hp
 rw[t r]
 exact⟨_,rfl⟩
theorem Told.pre_cr {pre all:List Sg} {out:List At} {h:Nat} {x:Sg} (t:Told pre out h) (h0:0<h) (hx:x.1≠10) (hp:pre++[x] <+: all):out++[(2,10,h)] <+: atomsF 0 all:=by
 obtain⟨r,rfl⟩:=hp
 have:=t (x :: r)
 simp only[atomsF,h0,hx,and_false,if_false,if_true] at this
 rw[List.append_assoc,List.singleton_append,this]
 exact⟨if x.1=13 then atomsF x.2 r else singleA x :: atomsF 0 r,by simp⟩
theorem Told.all {all:List Sg} {out:List At} {h:Nat} (t:Told all out h):atomsF 0 all=out++(if 0<h then [(2,10,h)] else []):=by
 have:=t []
 simpa [atomsF] using this
end Vm
namespace Vm
theorem headSg_le {enc:Int} {l:Bytes} {x:Sg} (h:headSg enc l=some x):1<=x.2/\x.2<=4/\x.2<=l.length:=by
 unfold headSg at h
 split at h
 ·cases h
 ·split at h
  ·cases h
   unfold utfHead
   split
   ·rename_i _ _ hok
    have h1:=sqN_pos (sqRow (b0 l 0))
    have h2:=sqN_le (sqRow (b0 l 0))
    refine⟨h1,h2,?_⟩
    by_cases e:sqN (sqRow (b0 l 0))=1
    ·show sqN _<=_;omega
    ·obtain⟨n,hn⟩:∃n,sqN (sqRow (b0 l 0))=n+2:=⟨sqN (sqRow (b0 l 0)) - 2,by omega⟩
     rw[hn] at hok
     simp only[allOk,show n+2 - 1=n+1 from rfl,Bool.and_eq_true] at hok
     have:=hok.2
     simp only[okAt,Bool.and_eq_true,decide_eq_true_eq] at this
     show sqN _<=_
     omega
   ·show 1<=1/\1<=4/\1<=l.length;omega
  ·split at h
   ·cases h;show 1<=1/\1<=4/\1<=l.length;omega
   ·split at h
    ·cases h
    ·cases h
     unfold unitHead
     dsimp only
     split
     ·show 1<=4/\4<=4/\4<=l.length;omega
     ·split
      ·show 1<=2/\2<=4/\2<=l.length;omega
      ·show 1<=2/\2<=4/\2<=l.length;omega
theorem signsF_le (enc:Int):∀(f:Nat) (l:Bytes) (x:Sg),x∈signsF enc f l->1<=x.2/\x.2<=4
 |0,_,_,h=>by simp [signsF] at h
 |f+1,l,x,h=>by
  simp only[signsF] at h
  cases hx:headSg enc l with
  |none=>rw[hx] at h;simp at h
  |some y =>
   rw[hx] at h
   simp only[List.mem_cons] at h
   rcases h with rfl|h
   ·exact⟨(headSg_le hx).1,(headSg_le hx).2.1⟩
   ·exact signsF_le enc f _ x h
theorem signs_le {enc:Int} {l:Bytes} {x:Sg} {pre:List Sg} (h:pre++[x] <+: signs enc l):1<=x.2/\x.2<=4 :=
 signsF_le enc _ l x (h.subset (by simp))
def utfL (n:Int):List Int :=
 if n<128 then [n] else if n<2048 then [192+n / 64,128+n%64]
 else if n<65536 then [224+n / 4096,128+n / 64%64,128+n%64]
 else [240+n / 262144,128+n / 4096%64,128+n / 64%64,128+n%64]
def utfLen (n:Int):Nat:=if n<128 then 1 else if n<2048 then 2 else if n<65536 then 3 else 4
theorem utfL_length (n:Int):(utfL n).length=utfLen n:=by unfold utfL utfLen;(repeat' split)<;>rfl
def validB (n:Int):Bool:=(decide (0<=n)&&decide (n<=55295)) || (decide (57344<=n)&&decide (n<=1114111))
end Vm
namespace Vm
def rk (c:Int):Nat:=if c<128 then 1 else if c<192 then 0 else if c<224 then 2 else if c<240 then 3 else if c<248 then 4 else 0
def rn0 (c:Int):Int:=if c<128 then c else if c<224 then c - 192 else if c<240 then c - 224 else c - 240
def contB (l:Bytes) (j:Nat):Bool:=decide (j<l.length)&&(decide (128<=b0 l j)&&decide (b0 l j<192))
def rok (l:Bytes):Nat->Bool
 |0=>true
 |n+1=>rok l n&&contB l (n+1)
def rpart (l:Bytes):Nat->Int
 |0=>0
 |1=>rn0 (b0 l 0)
 |k+2=>64 * rpart l (k+1)+b0 l (k+1) - 128
def utfRef (l:Bytes):Int × Nat :=
 if rk (b0 l 0)=0 then (0,0)
 else if rok l (rk (b0 l 0) - 1)=false then (0,0)
 else if validB (rpart l (rk (b0 l 0)))=false then (0,0)
 else if utfLen (rpart l (rk (b0 l 0)))=rk (b0 l 0) then (rpart l (rk (b0 l 0)),rk (b0 l 0)) else (0,0)
theorem rpart_succ (l:Bytes) (j:Nat) (h:1<=j):rpart l (j+1)=64 * rpart l j+b0 l j - 128:=by
 obtain⟨i,rfl⟩:∃i,j=i+1:=⟨j - 1,by omega⟩
 rfl
end Vm
namespace Vm
def refSg (l:Bytes):Sg:=if (utfRef l).2=0 then (-1,1) else utfRef l
theorem ref_none {l:Bytes} (h:utfRef l=(0,0)):refSg l=(-1,1):=by simp [refSg,h]
theorem ref_some {l:Bytes} {n:Int} {k:Nat} (hk:k≠0) (h:utfRef l=(n,k)):refSg l=(n,k):=by simp [refSg,h,hk]
theorem ok1 (l:Bytes) (r:Nat):allOk l r 1=true↔1<l.length/\sqLeast r<=b0 l 1/\b0 l 1<=sqMost r:=by
 simp [allOk,okAt,goesOnB]
theorem ok2 (l:Bytes) (r:Nat):allOk l r 2=true↔(1<l.length/\sqLeast r<=b0 l 1/\b0 l 1<=sqMost r)/\(2<l.length/\128<=b0 l 2/\b0 l 2<=191):=by
 simp [allOk,okAt,goesOnB]
theorem ok3 (l:Bytes) (r:Nat):allOk l r 3=true↔((1<l.length/\sqLeast r<=b0 l 1/\b0 l 1<=sqMost r)/\(2<l.length/\128<=b0 l 2/\b0 l 2<=191))/\(3<l.length/\128<=b0 l 3/\b0 l 3<=191):=by
 simp [allOk,okAt,goesOnB]
theorem rok1 (l:Bytes):rok l 1=true↔1<l.length/\128<=b0 l 1/\b0 l 1<192:=by simp [rok,contB]
theorem rok2 (l:Bytes):rok l 2=true↔(1<l.length/\128<=b0 l 1/\b0 l 1<192)/\(2<l.length/\128<=b0 l 2/\b0 l 2<192):=by simp [rok,contB]
theorem rok3 (l:Bytes):rok l 3=true↔((1<l.length/\128<=b0 l 1/\b0 l 1<192)/\(2<l.length/\128<=b0 l 2/\b0 l 2<192))/\(3<l.length/\128<=b0 l 3/\b0 l 3<192):=by simp [rok,contB]
theorem validB_iff (n:Int):validB n=true↔(0<=n/\n<=55295)\/(57344<=n/\n<=1114111):=by simp [validB]
theorem utfLen_cases (n:Int):(n<128/\utfLen n=1)\/(128<=n/\n<2048/\utfLen n=2)\/(2048<=n/\n<65536/\utfLen n=3)\/(65536<=n/\utfLen n=4):=by
 unfold utfLen;(repeat' split)<;>omega
theorem utfRef_some {l:Bytes} {k:Nat} (hk:rk (b0 l 0)=k) (h0:k≠0) (h1:rok l (k - 1)=true) (h2:validB (rpart l k)=true) (h3:utfLen (rpart l k)=k):utfRef l=(rpart l k,k):=by
 subst hk;unfold utfRef;rw[if_neg h0,if_neg (by rw[h1];decide),if_neg (by rw[h2];decide),if_pos h3]
theorem utfRef_none {l:Bytes} {k:Nat} (hk:rk (b0 l 0)=k) (h:¬(rok l (k - 1)=true/\validB (rpart l k)=true/\utfLen (rpart l k)=k)):utfRef l=(0,0):=by
 subst hk;unfold utfRef
 split
 ·rfl
 ·split
  ·rfl
  ·split
   ·rfl
   ·split
    ·rename_i a b c d
     exact absurd ⟨by simpa using b,by simpa using c,d⟩ h
    ·rfl
theorem rk_cases (c:Int):(c<128/\rk c=1)\/(128<=c/\c<192/\rk c=0)\/(192<=c/\c<224/\rk c=2)\/(224<=c/\c<240/\rk c=3)\/(240<=c/\c<248/\rk c=4)\/(248<=c/\rk c=0):=by
 unfold rk;(repeat' split)<;>omega
theorem rn0_cases (c:Int):(c<128/\rn0 c=c)\/(128<=c/\c<224/\rn0 c=c - 192)\/(224<=c/\c<240/\rn0 c=c - 224)\/(240<=c/\rn0 c=c - 240):=by
 unfold rn0;(repeat' split)<;>omega
theorem head_of {l:Bytes} {r k:Nat} (hr:sqRow (b0 l 0)=r) (hn:sqN r=k) (hk:rk (b0 l 0)=k) (h0:k≠0)
  (hiff:allOk l r (k - 1)=true↔(rok l (k - 1)=true/\validB (rpart l k)=true/\utfLen (rpart l k)=k)) (hv:allOk l r (k - 1)=true->partV l r k=rpart l k):utfHead l=refSg l:=by
 cases h:allOk l r (k - 1)
 ·rw[ref_none (utfRef_none hk (fun x=>by rw[hiff.2 x] at h;cases h))]
  unfold utfHead;rw[hr,hn,h];rfl
 ·obtain⟨a,b,c⟩:=hiff.1 h
  rw[ref_some h0 (utfRef_some hk h0 a b c),utfHead_good hr (by rw[hn];exact h),hn,hv h]
theorem head_no {l:Bytes} {r k:Nat} (hr:sqRow (b0 l 0)=r) (hn:allOk l r (sqN r - 1)=false) (hk:rk (b0 l 0)=k)
  (hno:¬(rok l (k - 1)=true/\validB (rpart l k)=true/\utfLen (rpart l k)=k)):utfHead l=refSg l:=by
 rw[ref_none (utfRef_none hk hno)]
 unfold utfHead;rw[hr,hn];rfl
theorem head_ref (l:Bytes):utfHead l=refSg l:=by
 have hb:=b0_bd l 0
 have hb1:=b0_bd l 1
 have hb2:=b0_bd l 2
 have hb3:=b0_bd l 3
 have p2:rpart l 2=64 * rpart l 1+b0 l 1 - 128:=rfl
 have p3:rpart l 3=64 * rpart l 2+b0 l 2 - 128:=rfl
 have p4:rpart l 4=64 * rpart l 3+b0 l 3 - 128:=rfl
 have p1:rpart l 1=rn0 (b0 l 0):=rfl
 have q0:=rn0_cases (b0 l 0)
 have k0:=rk_cases (b0 l 0)
 rcases sqRow_cases (b0 l 0) with ⟨a,h⟩|⟨a',a,h⟩|⟨a',a,h⟩|⟨a',a,h⟩|⟨a',a,h⟩|⟨a',a,h⟩|⟨a',a,h⟩|⟨a',a,h⟩|⟨a',a,h⟩|⟨a',a,h⟩|⟨a',h⟩
 ·refine head_of (k:=1) h rfl (by omega) (by decide) ?_ ?_
  ·have e4:=utfLen_cases (rpart l 1)
   have:=validB_iff (rpart l 1)
   exact⟨fun _=>⟨rfl,this.2 (by omega),by omega⟩,fun _=>rfl⟩
  ·intro _
   show b0 l 0%(sqBits 0+1)=_
   rw[show sqBits 0=127 from rfl];omega
 ·have hno:allOk l 1 (sqN 1 - 1)=false:=by
   cases e:allOk l 1 (sqN 1 - 1)
   ·rfl
   ·have:=(ok1 l 1).1 e
    rw[show sqLeast 1=255 from rfl,show sqMost 1=0 from rfl] at this
    omega
  rcases k0 with k|k|k|k|k|k
  ·omega
  ·exact head_no h hno k.2.2 (fun x=>by have:=x.2.2;have:=utfLen_cases (rpart l 0);omega)
  ·refine head_no h hno k.2.2 (fun x=>?_)
   have:=(rok1 l).1 x.1
   have:=utfLen_cases (rpart l 2)
   omega
  ·omega
  ·omega
  ·omega
 ·refine head_of (k:=2) h rfl (by omega) (by decide) ?_ ?_
  ·have e1:=ok1 l 2
   have e2:=rok1 l
   have e3:=validB_iff (rpart l 2)
   have e4:=utfLen_cases (rpart l 2)
   rw[show sqLeast 2=128 from rfl,show sqMost 2=191 from rfl] at e1
   constructor
   ·intro x;have:=e1.1 x;exact⟨e2.2 (by omega),e3.2 (by omega),by omega⟩
   ·rintro ⟨x,y,z⟩;have:=e2.1 x;exact e1.2 (by omega)
  ·intro x
   have e1:=(ok1 l 2).1 x
   rw[show sqLeast 2=128 from rfl,show sqMost 2=191 from rfl] at e1
   show 64 * (b0 l 0%(sqBits 2+1))+b0 l 1%64=_
   rw[show sqBits 2=31 from rfl];omega
 ·refine head_of (k:=3) h rfl (by omega) (by decide) ?_ ?_
  ·have e1:=ok2 l 3
   have e2:=rok2 l
   have e3:=validB_iff (rpart l 3)
   have e4:=utfLen_cases (rpart l 3)
   rw[show sqLeast 3=160 from rfl,show sqMost 3=191 from rfl] at e1
   constructor
   ·intro x;have:=e1.1 x;exact⟨e2.2 (by omega),e3.2 (by omega),by omega⟩
   ·rintro ⟨x,y,z⟩;have:=e2.1 x;have:=e3.1 y;exact e1.2 (by omega)
  ·intro x
   have e1:=(ok2 l 3).1 x
   rw[show sqLeast 3=160 from rfl,show sqMost 3=191 from rfl] at e1
   show 64 * (64 * (b0 l 0%(sqBits 3+1))+b0 l 1%64)+b0 l 2%64=_
   rw[show sqBits 3=15 from rfl];omega
 ·refine head_of (k:=3) h rfl (by omega) (by decide) ?_ ?_
  ·have e1:=ok2 l 4
   have e2:=rok2 l
   have e3:=validB_iff (rpart l 3)
   have e4:=utfLen_cases (rpart l 3)
   rw[show sqLeast 4=128 from rfl,show sqMost 4=191 from rfl] at e1
   constructor
   ·intro x;have:=e1.1 x;exact⟨e2.2 (by omega),e3.2 (by omega),by omega⟩
   ·rintro ⟨x,y,z⟩;have:=e2.1 x;have:=e3.1 y;exact e1.2 (by omega)
  ·intro x
   have e1:=(ok2 l 4).1 x
   rw[show sqLeast 4=128 from rfl,show sqMost 4=191 from rfl] at e1
   show 64 * (64 * (b0 l 0%(sqBits 4+1))+b0 l 1%64)+b0 l 2%64=_
   rw[show sqBits 4=15 from rfl];omega
 ·refine head_of (k:=3) h rfl (by omega) (by decide) ?_ ?_
  ·have e1:=ok2 l 5
   have e2:=rok2 l
   have e3:=validB_iff (rpart l 3)
   have e4:=utfLen_cases (rpart l 3)
   rw[show sqLeast 5=128 from rfl,show sqMost 5=159 from rfl] at e1
   constructor
   ·intro x;have:=e1.1 x;exact⟨e2.2 (by omega),e3.2 (by omega),by omega⟩
   ·rintro ⟨x,y,z⟩;have:=e2.1 x;have:=e3.1 y;exact e1.2 (by omega)
  ·intro x
   have e1:=(ok2 l 5).1 x
   rw[show sqLeast 5=128 from rfl,show sqMost 5=159 from rfl] at e1
   show 64 * (64 * (b0 l 0%(sqBits 5+1))+b0 l 1%64)+b0 l 2%64=_
   rw[show sqBits 5=15 from rfl];omega
 ·refine head_of (k:=3) h rfl (by omega) (by decide) ?_ ?_
  ·have e1:=ok2 l 6
   have e2:=rok2 l
   have e3:=validB_iff (rpart l 3)
   have e4:=utfLen_cases (rpart l 3)
   rw[show sqLeast 6=128 from rfl,show sqMost 6=191 from rfl] at e1
   constructor
   ·intro x;have:=e1.1 x;exact⟨e2.2 (by omega),e3.2 (by omega),by omega⟩
   ·rintro ⟨x,y,z⟩;have:=e2.1 x;have:=e3.1 y;exact e1.2 (by omega)
  ·intro x
   have e1:=(ok2 l 6).1 x
   rw[show sqLeast 6=128 from rfl,show sqMost 6=191 from rfl] at e1
   show 64 * (64 * (b0 l 0%(sqBits 6+1))+b0 l 1%64)+b0 l 2%64=_
   rw[show sqBits 6=15 from rfl];omega
 ·refine head_of (k:=4) h rfl (by omega) (by decide) ?_ ?_
  ·have e1:=ok3 l 7
   have e2:=rok3 l
   have e3:=validB_iff (rpart l 4)
   have e4:=utfLen_cases (rpart l 4)
   rw[show sqLeast 7=144 from rfl,show sqMost 7=191 from rfl] at e1
   constructor
   ·intro x;have:=e1.1 x;exact⟨e2.2 (by omega),e3.2 (by omega),by omega⟩
   ·rintro ⟨x,y,z⟩;have:=e2.1 x;have:=e3.1 y;exact e1.2 (by omega)
  ·intro x
   have e1:=(ok3 l 7).1 x
   rw[show sqLeast 7=144 from rfl,show sqMost 7=191 from rfl] at e1
   show 64 * (64 * (64 * (b0 l 0%(sqBits 7+1))+b0 l 1%64)+b0 l 2%64)+b0 l 3%64=_
   rw[show sqBits 7=7 from rfl];omega
 ·refine head_of (k:=4) h rfl (by omega) (by decide) ?_ ?_
  ·have e1:=ok3 l 8
   have e2:=rok3 l
   have e3:=validB_iff (rpart l 4)
   have e4:=utfLen_cases (rpart l 4)
   rw[show sqLeast 8=128 from rfl,show sqMost 8=191 from rfl] at e1
   constructor
   ·intro x;have:=e1.1 x;exact⟨e2.2 (by omega),e3.2 (by omega),by omega⟩
   ·rintro ⟨x,y,z⟩;have:=e2.1 x;have:=e3.1 y;exact e1.2 (by omega)
  ·intro x
   have e1:=(ok3 l 8).1 x
   rw[show sqLeast 8=128 from rfl,show sqMost 8=191 from rfl] at e1
   show 64 * (64 * (64 * (b0 l 0%(sqBits 8+1))+b0 l 1%64)+b0 l 2%64)+b0 l 3%64=_
   rw[show sqBits 8=7 from rfl];omega
 ·refine head_of (k:=4) h rfl (by omega) (by decide) ?_ ?_
  ·have e1:=ok3 l 9
   have e2:=rok3 l
   have e3:=validB_iff (rpart l 4)
   have e4:=utfLen_cases (rpart l 4)
   rw[show sqLeast 9=128 from rfl,show sqMost 9=143 from rfl] at e1
   constructor
   ·intro x;have:=e1.1 x;exact⟨e2.2 (by omega),e3.2 (by omega),by omega⟩
   ·rintro ⟨x,y,z⟩;have:=e2.1 x;have:=e3.1 y;exact e1.2 (by omega)
  ·intro x
   have e1:=(ok3 l 9).1 x
   rw[show sqLeast 9=128 from rfl,show sqMost 9=143 from rfl] at e1
   show 64 * (64 * (64 * (b0 l 0%(sqBits 9+1))+b0 l 1%64)+b0 l 2%64)+b0 l 3%64=_
   rw[show sqBits 9=7 from rfl];omega
 ·have hno:allOk l 10 (sqN 10 - 1)=false:=by
   cases e:allOk l 10 (sqN 10 - 1)
   ·rfl
   ·have:=(ok1 l 10).1 e
    rw[show sqLeast 10=255 from rfl,show sqMost 10=0 from rfl] at this
    omega
  rcases k0 with k|k|k|k|k|k
  ·omega
  ·omega
  ·omega
  ·omega
  ·refine head_no h hno k.2.2 (fun x=>?_)
   have:=(rok3 l).1 x.1
   have:=(validB_iff (rpart l 4)).1 x.2.1
   omega
  ·exact head_no h hno k.2 (fun x=>by have:=x.2.2;have:=utfLen_cases (rpart l 0);omega)
end Vm
namespace Vm
def rd (enc:Int) (l:Bytes):Option (Int × Bool × Nat) :=
 if l.length=0 then none
 else if enc=3 then some (b0 l 0,false,1)
 else if enc=0 then (if (utfRef l).2=0 then some (0,true,1) else some ((utfRef l).1,false,(utfRef l).2))
 else if l.length<2 then none
 else if 55296<=unitAt enc l 0/\unitAt enc l 0<=56319/\3<l.length/\56320<=unitAt enc l 2/\unitAt enc l 2<=57343 then some (65536+1024 * (unitAt enc l 0 - 55296)+unitAt enc l 2 - 56320,false,4)
 else some (unitAt enc l 0,decide (55296<=unitAt enc l 0)&&decide (unitAt enc l 0<=57343),2)
def sgOf (x:Int × Bool × Nat):Sg:=(if x.2.1 then -1 else x.1,x.2.2)
theorem rd_head (enc:Int) (l:Bytes):(rd enc l).map sgOf=headSg enc l:=by
 unfold rd headSg
 by_cases h0:l.length=0
 ·rw[if_pos h0,if_pos h0];rfl
 ·rw[if_neg h0,if_neg h0]
  by_cases h3:enc=3
  ·subst h3;rfl
  ·rw[if_neg h3]
   by_cases hu:enc=0
   ·rw[if_pos hu,if_pos hu,head_ref]
    unfold refSg
    generalize utfRef l=u
    split
    ·rfl
    ·simp [sgOf]
   ·rw[if_neg hu,if_neg hu,if_neg h3]
    by_cases h2:l.length<2
    ·rw[if_pos h2,if_pos h2];rfl
    ·rw[if_neg h2,if_neg h2]
     unfold unitHead
     dsimp only
     by_cases hp:55296<=unitAt enc l 0/\unitAt enc l 0<=56319/\3<l.length/\56320<=unitAt enc l 2/\unitAt enc l 2<=57343
     ·rw[if_pos hp,if_pos hp]
      show some ((65536+1024 * (unitAt enc l 0 - 55296)+unitAt enc l 2 - 56320:Int),4)=_
      congr 2
      omega
     ·rw[if_neg hp,if_neg hp]
      by_cases hs:55296<=unitAt enc l 0/\unitAt enc l 0<=57343
      ·rw[if_pos hs];simp [sgOf,hs.1,hs.2]
      ·rw[if_neg hs]
       have:(decide (55296<=unitAt enc l 0)&&decide (unitAt enc l 0<=57343))=false:=by
        cases e:(decide (55296<=unitAt enc l 0)&&decide (unitAt enc l 0<=57343))
        ·rfl
        ·simp at e;exact absurd e hs
       simp [sgOf,this]
end Vm
namespace Vm
abbrev RA:=Int × Bool × Int × Int × Int
def RaOk (a:RA) (x:At) (p:Nat):Prop :=
 a.2.2.2.1=p/\a.2.2.2.2=(p:Int)+x.2.2/\a.2.1=decide (x.1=4)/\a.2.2.1=(if x.1<=2 then x.1+1 else 0)/\(x.1≠4->a.1=x.2.1)/\0<=x.1/\x.1<=4/\0<=a.1/\a.1<=1114111
def Reads:List RA->List At->Nat->Prop
 |[],[],_=>True
 |a :: L,x :: A,p=>RaOk a x p/\Reads L A (p+x.2.2)
 |_,_,_=>False
def sizeA (A:List At):Nat:=(A.map (fun x=>x.2.2)).sum
theorem sizeA_snoc (A:List At) (x:At):sizeA (A++[x])=sizeA A+x.2.2:=by simp [sizeA]
def NoCr (A:List At):Prop:=∀B x,A=B++[x]->x.1≠2
end Vm
namespace Vm
theorem utfRef_valid (l:Bytes) (h:(utfRef l).2≠0):validB (utfRef l).1=true/\utfLen (utfRef l).1=(utfRef l).2:=by
 unfold utfRef at h ⊢
 generalize rok l (rk (b0 l 0) - 1)=R at *
 generalize rpart l (rk (b0 l 0))=N at *
 generalize rk (b0 l 0)=K at *
 by_cases c1:K=0
 ·rw[if_pos c1] at h;simp at h
 ·rw[if_neg c1] at h ⊢
  by_cases c2:R=false
  ·rw[if_pos c2] at h;simp at h
  ·rw[if_neg c2] at h ⊢
   by_cases c3:validB N=false
   ·rw[if_pos c3] at h;simp at h
   ·rw[if_neg c3] at h ⊢
    by_cases c4:utfLen N=K
    ·rw[if_pos c4];exact⟨by simpa using c3,c4⟩
    ·rw[if_neg c4] at h;simp at h
theorem rd_what {enc:Int} {l:Bytes} {x:Int × Bool × Nat} (h:rd enc l=some x):(x.2.1=true->x.1≠10/\x.1≠13)/\(x.2.1=false->0<=x.1):=by
 unfold rd at h
 by_cases h0:l.length=0
 ·rw[if_pos h0] at h;cases h
 ·rw[if_neg h0] at h
  by_cases h3:enc=3
  ·rw[if_pos h3] at h
   simp only[Option.some.injEq] at h;subst h
   exact⟨fun e=>by simp at e,fun _=>(b0_bd l 0).1⟩
  ·rw[if_neg h3] at h
   by_cases hu:enc=0
   ·rw[if_pos hu] at h
    have hv:=utfRef_valid l
    generalize utfRef l=u at *
    by_cases hk:u.2=0
    ·rw[if_pos hk] at h
     simp only[Option.some.injEq] at h;subst h
     exact⟨fun _=>by simp,fun e=>by simp at e⟩
    ·rw[if_neg hk] at h
     simp only[Option.some.injEq] at h;subst h
     have:=(validB_iff u.1).1 (hv hk).1
     exact⟨fun e=>by simp at e,fun _=>by simp only;omega⟩
   ·rw[if_neg hu] at h
    have hb:=unitAt_bd enc l 0
    generalize unitAt enc l 0=u at *
    generalize unitAt enc l 2=v at *
    by_cases h2:l.length<2
    ·rw[if_pos h2] at h;cases h
    ·rw[if_neg h2] at h
     by_cases hp:55296<=u/\u<=56319/\3<l.length/\56320<=v/\v<=57343
     ·rw[if_pos hp] at h
      simp only[Option.some.injEq] at h;subst h
      exact⟨fun e=>by simp at e,fun _=>by simp only;omega⟩
     ·rw[if_neg hp] at h
      simp only[Option.some.injEq] at h;subst h
      refine⟨fun e=>?_,fun _=>hb.1⟩
      simp only[Bool.and_eq_true,decide_eq_true_eq] at e
      constructor<;>(simp only;omega)
theorem rd_le {enc:Int} {l:Bytes} {x:Int × Bool × Nat} (h:rd enc l=some x) (he:x.2.1=false):x.1<=1114111:=by
 unfold rd at h
 by_cases h0:l.length=0
 ·rw[if_pos h0] at h;cases h
 ·rw[if_neg h0] at h
  by_cases h3:enc=3
  ·rw[if_pos h3] at h
   simp only[Option.some.injEq] at h;subst h
   have:=(b0_bd l 0).2
   simp only;omega
  ·rw[if_neg h3] at h
   by_cases hu:enc=0
   ·rw[if_pos hu] at h
    have hv:=utfRef_valid l
    generalize utfRef l=u at *
    by_cases hk:u.2=0
    ·rw[if_pos hk] at h
     simp only[Option.some.injEq] at h;subst h
     simp at he
    ·rw[if_neg hk] at h
     simp only[Option.some.injEq] at h;subst h
     have:=(validB_iff u.1).1 (hv hk).1
     simp only;omega
   ·rw[if_neg hu] at h
    have hb:=unitAt_bd enc l 0
    generalize unitAt enc l 0=u at *
    generalize unitAt enc l 2=v at *
    by_cases h2:l.length<2
    ·rw[if_pos h2] at h;cases h
    ·rw[if_neg h2] at h
     by_cases hp:55296<=u/\u<=56319/\3<l.length/\56320<=v/\v<=57343
     ·rw[if_pos hp] at h
      simp only[Option.some.injEq] at h;subst h
      simp only;omega
     ·rw[if_neg hp] at h
      simp only[Option.some.injEq] at h;subst h
      simp only;omega
theorem rd_bd {enc:Int} {l:Bytes} {x:Int × Bool × Nat} (h:rd enc l=some x):1<=x.2.2/\x.2.2<=4/\x.2.2<=l.length:=by
 have:=rd_head enc l
 rw[h] at this
 exact headSg_le this.symm
def RS (enc:Int) (bs:Bytes) (k:Nat) (L:List RA):Prop :=
 ∃pre outA h L0,signs enc bs=pre++signs enc (bs.drop k)/\Told pre outA h/\Reads L0 outA 0/\sizeA outA+h=k/\(h=0->NoCr outA) /\
  L=L0++(if 0<h then [(10,false,3,((k:Int) - h),(k:Int))] else [])/\L.length<=k
end Vm
namespace Vm
def chA (x:At):Int:=x.2.1
def textL (A:List At):List Int:=A.flatMap (fun x=>utfL (chA x))
def lenA (x:At):Nat:=utfLen (chA x)
def unA (x:At):Nat:=if 65535<chA x then 2 else 1
def AtOk (x:At):Prop:=0<=x.1/\x.1<=4/\(x.1=4->x.2.1=65533)/\(x.1<=2->x.2.1=10)/\0<=x.2.1/\x.2.1<=1114111/\1<=x.2.2/\x.2.2<=8
theorem atok_mk {x:At} (h1:0<=x.1) (h2:x.1<=4) (h3:x.1=4->x.2.1=65533) (h4:x.1<=2->x.2.1=10) (h5:0<=x.2.1) (h6:x.2.1<=1114111) (h7:1<=x.2.2) (h8:x.2.2<=8):AtOk x:=⟨h1,h2,h3,h4,h5,h6,h7,h8⟩
theorem singleA_ok {x:Sg} (hc:-1<=x.1/\x.1<=1114111) (hn:1<=x.2/\x.2<=4):AtOk (singleA x):=by
 unfold singleA
 split
 ·exact atok_mk (by simp) (by simp) (fun h=>by first|rfl|simp at h) (fun h=>by first|rfl|simp at h) (by simp only;omega) (by simp only;omega) (by simp only;omega) (by simp only;omega)
 ·split
  ·exact atok_mk (by simp) (by simp) (fun h=>by first|rfl|simp at h) (fun h=>by first|rfl|simp at h) (by simp only;omega) (by simp only;omega) (by simp only;omega) (by simp only;omega)
  ·exact atok_mk (by simp) (by simp) (fun h=>by first|rfl|simp at h) (fun h=>by first|rfl|simp at h) (by simp only;omega) (by simp only;omega) (by simp only;omega) (by simp only;omega)
theorem atomsF_ok:∀(S:List Sg) (h:Nat),h<=4->(∀x∈S,(-1<=x.1/\x.1<=1114111)/\1<=x.2/\x.2<=4)->∀a∈atomsF h S,AtOk a
 |[],h,h4,_,a,ha=>by
  simp only[atomsF] at ha
  split at ha
  ·simp only[List.mem_singleton] at ha;subst ha;exact atok_mk (by simp) (by simp) (fun h=>by first|rfl|simp at h) (fun h=>by first|rfl|simp at h) (by simp only;omega) (by simp only;omega) (by simp only;omega) (by simp only;omega)
  ·simp at ha
 |x :: r,h,h4,hS,a,ha=>by
  have hx:=hS x (by simp)
  have hr:∀y∈r,(-1<=y.1/\y.1<=1114111)/\1<=y.2/\y.2<=4:=fun y hy=>hS y (by simp [hy])
  simp only[atomsF] at ha
  split at ha
  ·simp only[List.mem_cons] at ha
   rcases ha with rfl|ha
   ·exact atok_mk (by simp) (by simp) (fun h=>by first|rfl|simp at h) (fun h=>by first|rfl|simp at h) (by simp only;omega) (by simp only;omega) (by simp only;omega) (by simp only;omega)
   ·exact atomsF_ok r 0 (by omega) hr a ha
  ·simp only[List.mem_append] at ha
   rcases ha with ha|ha
   ·split at ha
    ·simp only[List.mem_singleton] at ha;subst ha;exact atok_mk (by simp) (by simp) (fun h=>by first|rfl|simp at h) (fun h=>by first|rfl|simp at h) (by simp only;omega) (by simp only;omega) (by simp only;omega) (by simp only;omega)
    ·simp at ha
   ·split at ha
    ·exact atomsF_ok r x.2 hx.2.2 hr a ha
    ·simp only[List.mem_cons] at ha
     rcases ha with rfl|ha
     ·exact singleA_ok hx.1 hx.2
     ·exact atomsF_ok r 0 (by omega) hr a ha
theorem headSg_ch {enc:Int} {l:Bytes} {x:Sg} (h:headSg enc l=some x):-1<=x.1/\x.1<=1114111:=by
 rw[<-rd_head] at h
 cases hr:rd enc l with
 |none=>rw[hr] at h;cases h
 |some y =>
  rw[hr] at h
  simp only[Option.map_some,Option.some.injEq] at h
  subst h
  unfold sgOf
  cases hy:y.2.1
  ·have h0:=(rd_what hr).2 hy
   have h1:y.1<=1114111:=rd_le hr hy
   simp only[Bool.false_eq_true,if_false];omega
  ·simp
theorem signsF_ch (enc:Int):∀(f:Nat) (l:Bytes) (x:Sg),x∈signsF enc f l->-1<=x.1/\x.1<=1114111
 |0,_,_,h=>by simp [signsF] at h
 |f+1,l,x,h=>by
  simp only[signsF] at h
  cases hx:headSg enc l with
  |none=>rw[hx] at h;simp at h
  |some y =>
   rw[hx] at h
   simp only[List.mem_cons] at h
   rcases h with rfl|h
   ·exact headSg_ch hx
   ·exact signsF_ch enc f _ x h
theorem atoms_ok (enc:Int) (l:Bytes):∀a∈atoms enc l,AtOk a :=
 atomsF_ok _ 0 (by omega) (fun x hx=>⟨signsF_ch enc _ l x hx,signsF_le enc _ l x hx⟩)
end Vm
namespace Vm
theorem rd_valid {enc:Int} {l:Bytes} {x:Int × Bool × Nat} (h:rd enc l=some x) (he:x.2.1=false):validB x.1=true:=by
 rw[validB_iff]
 unfold rd at h
 by_cases h0:l.length=0
 ·rw[if_pos h0] at h;cases h
 ·rw[if_neg h0] at h
  by_cases h3:enc=3
  ·rw[if_pos h3] at h
   simp only[Option.some.injEq] at h;subst h
   have:=b0_bd l 0
   simp only;omega
  ·rw[if_neg h3] at h
   by_cases hu:enc=0
   ·rw[if_pos hu] at h
    have hv:=utfRef_valid l
    generalize utfRef l=u at *
    by_cases hk:u.2=0
    ·rw[if_pos hk] at h
     simp only[Option.some.injEq] at h;subst h
     simp at he
    ·rw[if_neg hk] at h
     simp only[Option.some.injEq] at h;subst h
     exact (validB_iff u.1).1 (hv hk).1
   ·rw[if_neg hu] at h
    have hb:=unitAt_bd enc l 0
    generalize unitAt enc l 0=u at *
    generalize unitAt enc l 2=v at *
    by_cases h2:l.length<2
    ·rw[if_pos h2] at h;cases h
    ·rw[if_neg h2] at h
     by_cases hp:55296<=u/\u<=56319/\3<l.length/\56320<=v/\v<=57343
     ·rw[if_pos hp] at h
      simp only[Option.some.injEq] at h;subst h
      simp only;omega
     ·rw[if_neg hp] at h
      simp only[Option.some.injEq] at h;subst h
      simp only[Bool.and_eq_false_iff,decide_eq_false_iff_not] at he
      simp only;omega
def SgOk (x:Sg):Prop:=x.1 = -1\/validB x.1=true
theorem headSg_ok {enc:Int} {l:Bytes} {x:Sg} (h:headSg enc l=some x):SgOk x:=by
 rw[<-rd_head] at h
 cases hr:rd enc l with
 |none=>rw[hr] at h;cases h
 |some y =>
  rw[hr] at h
  simp only[Option.map_some,Option.some.injEq] at h
  subst h
  unfold sgOf SgOk
  cases hy:y.2.1
  ·exact .inr (by simpa using rd_valid hr hy)
  ·exact .inl (by simp)
theorem signsF_ok (enc:Int):∀(f:Nat) (l:Bytes) (x:Sg),x∈signsF enc f l->SgOk x
 |0,_,_,h=>by simp [signsF] at h
 |f+1,l,x,h=>by
  simp only[signsF] at h
  cases hx:headSg enc l with
  |none=>rw[hx] at h;simp at h
  |some y =>
   rw[hx] at h
   simp only[List.mem_cons] at h
   rcases h with rfl|h
   ·exact headSg_ok hx
   ·exact signsF_ok enc f _ x h
def ChOk (a:At):Prop:=validB (chA a)=true/\chA a≠13
theorem single_ch {x:Sg} (h:SgOk x) (h13:¬x.1=13):ChOk (singleA x):=by
 unfold singleA ChOk chA
 split
 ·exact⟨rfl,by simp⟩
 ·rename_i h1
  split
  ·exact⟨rfl,by simp⟩
  ·rcases h with h|h
   ·exact absurd h h1
   ·exact⟨h,h13⟩
theorem atomsF_ch:∀(S:List Sg) (h:Nat),(∀x∈S,SgOk x)->∀a∈atomsF h S,ChOk a
 |[],h,_,a,ha=>by
  simp only[atomsF] at ha
  split at ha
  ·simp only[List.mem_singleton] at ha;subst ha;exact⟨rfl,by simp [chA]⟩
  ·simp at ha
 |x :: r,h,hS,a,ha=>by
  have hx:=hS x (by simp)
  have hr:∀y∈r,SgOk y:=fun y hy=>hS y (by simp [hy])
  simp only[atomsF] at ha
  split at ha
  ·simp only[List.mem_cons] at ha
   rcases ha with rfl|ha
   ·exact⟨rfl,by simp [chA]⟩
   ·exact atomsF_ch r 0 hr a ha
  ·simp only[List.mem_append] at ha
   rcases ha with ha|ha
   ·split at ha
    ·simp only[List.mem_singleton] at ha;subst ha;exact⟨rfl,by simp [chA]⟩
    ·simp at ha
   ·split at ha
    ·exact atomsF_ch r x.2 hr a ha
    ·rename_i h13
     simp only[List.mem_cons] at ha
     rcases ha with rfl|ha
     ·exact single_ch hx h13
     ·exact atomsF_ch r 0 hr a ha
theorem atoms_ch (enc:Int) (l:Bytes):∀a∈atoms enc l,ChOk a:=atomsF_ch _ 0 (fun x hx=>signsF_ok enc _ l x hx)
end Vm
namespace Vm
theorem signsF_len (enc:Int):∀(f:Nat) (l:Bytes),(signsF enc f l).length<=f
 |0,_=>by simp [signsF]
 |f+1,l=>by
  simp only[signsF]
  split
  ·simp
  ·rename_i x _
   have:=signsF_len enc f (l.drop x.2)
   rw[List.length_cons];omega
theorem atomsF_len:∀(S:List Sg) (h:Nat),(atomsF h S).length<=S.length+if 0<h then 1 else 0
 |[],h=>by
  simp only[atomsF]
  split<;>simp
 |x :: r,h=>by
  have i0:=atomsF_len r 0
  have ix:=atomsF_len r x.2
  simp only[Nat.lt_irrefl,if_false,Nat.add_zero] at i0
  have ix':(atomsF x.2 r).length<=r.length+1:=Nat.le_trans ix (by split<;>omega)
  simp only[atomsF]
  by_cases c1:0<h/\x.1=10
  ·rw[if_pos c1,if_pos c1.1,List.length_cons,List.length_cons];omega
  ·rw[if_neg c1,List.length_append,List.length_cons]
   have a:(if 0<h then [((2:Int),(10:Int),h)] else ([]:List At)).length=if 0<h then 1 else 0:=by split<;>rfl
   rw[a]
   by_cases c2:x.1=13
   ·rw[if_pos c2];omega
   ·rw[if_neg c2,List.length_cons];omega
theorem atoms_len (enc:Int) (l:Bytes):(atoms enc l).length<=l.length:=by
 have h:=atomsF_len (signs enc l) 0
 have k:=signsF_len enc l.length l
 simp only[Nat.lt_irrefl,if_false,Nat.add_zero] at h
 exact Nat.le_trans h k
end Vm
namespace Vm
theorem b0_take {l:Bytes} {k i:Nat} (h:i<k):b0 (l.take k) i=b0 l i:=by
 simp [b0,List.getD,h]
theorem okAt_take {l:Bytes} {r k j:Nat} (h:j<k):okAt (l.take k) r j=okAt l r j:=by
 unfold okAt
 rw[b0_take h,List.length_take]
 congr 1
 by_cases g:j<l.length
 ·simp only[g,decide_true,decide_eq_true_eq];omega
 ·simp only[g,decide_false,decide_eq_false_iff_not];omega
theorem allOk_take {l:Bytes} {r k:Nat}:∀{n:Nat},n<k->allOk (l.take k) r n=allOk l r n
 |0,_=>rfl
 |n+1,h=>by
  unfold allOk
  rw[allOk_take (by omega),okAt_take h]
theorem okAt_of_take {l:Bytes} {r k j:Nat} (h:okAt (l.take k) r j=true):okAt l r j=true:=by
 by_cases hj:j<k
 ·rwa [okAt_take hj] at h
 ·unfold okAt at h
  rw[List.length_take] at h
  have:decide (j<min k l.length)=false:=by simp;omega
  rw[this] at h;simp at h
theorem allOk_of_take {l:Bytes} {r k:Nat}:∀{n:Nat},allOk (l.take k) r n=true->allOk l r n=true
 |0,_=>rfl
 |n+1,h=>by
  unfold allOk at h ⊢
  rw[Bool.and_eq_true] at h ⊢
  exact⟨allOk_of_take h.1,okAt_of_take h.2⟩
theorem partV_take {l:Bytes} {r k:Nat}:∀{n:Nat},n<=k->partV (l.take k) r n=partV l r n
 |0,_=>rfl
 |1,h=>by unfold partV;rw[b0_take (by omega)]
 |n+2,h=>by unfold partV;rw[partV_take (by omega),b0_take (by omega)]
theorem utfHead_take {l:Bytes} {k:Nat} (h1:1<=k) (h:(utfHead l).2<=k):utfHead (l.take k)=utfHead l:=by
 have e0:b0 (l.take k) 0=b0 l 0:=b0_take (by omega)
 unfold utfHead at h ⊢
 rw[e0]
 have hp:=sqN_pos (sqRow (b0 l 0))
 by_cases g:allOk l (sqRow (b0 l 0)) (sqN (sqRow (b0 l 0)) - 1)=true
 ·rw[if_pos g] at h ⊢
  simp only at h
  rw[allOk_take (by omega),if_pos g,partV_take h]
 ·rw[if_neg g,if_neg (fun x=>g (allOk_of_take x))]
theorem unitAt_take {enc:Int} {l:Bytes} {k i:Nat} (h:i+1<k):unitAt enc (l.take k) i=unitAt enc l i:=by
 unfold unitAt;rw[b0_take (by omega),b0_take h]
theorem unitHead_take {enc:Int} {l:Bytes} {k:Nat} (h1:2<=k) (h:(unitHead enc l).2<=k):unitHead enc (l.take k)=unitHead enc l:=by
 have e0:unitAt enc (l.take k) 0=unitAt enc l 0:=unitAt_take (by omega)
 unfold unitHead at h ⊢
 dsimp only at h ⊢
 rw[e0,List.length_take]
 by_cases hk:4<=k
 ·have e2:unitAt enc (l.take k) 2=unitAt enc l 2:=unitAt_take (by omega)
  rw[e2]
  by_cases g:3<l.length
  ·have g':3<min k l.length:=by omega
   simp only[g,g']
  ·have g':¬3<min k l.length:=by omega
   simp only[g,g']
 ·have g':¬3<min k l.length:=by omega
  by_cases g:55296<=unitAt enc l 0/\unitAt enc l 0<=56319/\3<l.length/\56320<=unitAt enc l 2/\unitAt enc l 2<=57343
  ·rw[if_pos g] at h
   exact absurd h hk
  ·rw[if_neg g,if_neg (fun x=>g' x.2.2.1)]
theorem headSg_take {enc:Int} {l:Bytes} {x:Sg} {k:Nat} (h:headSg enc l=some x) (hk:x.2<=k):headSg enc (l.take k)=some x:=by
 obtain⟨h1,h2⟩:=headSg_size h
 unfold headSg at h ⊢
 have n0:¬l.length=0:=by omega
 have n0':¬(l.take k).length=0:=by rw[List.length_take];omega
 rw[if_neg n0] at h
 rw[if_neg n0']
 by_cases e0:enc=0
 ·rw[if_pos e0] at h ⊢
  cases h
  rw[utfHead_take (by omega) hk]
 ·rw[if_neg e0] at h ⊢
  by_cases e3:enc=3
  ·rw[if_pos e3] at h ⊢
   cases h
   rw[b0_take (by omega)]
  ·rw[if_neg e3] at h ⊢
   by_cases h2:l.length<2
   ·rw[if_pos h2] at h;cases h
   ·rw[if_neg h2] at h
    cases h
    have hu:=unitHead_size enc l
    have h2':¬(l.take k).length<2:=by rw[List.length_take];omega
    rw[if_neg h2',unitHead_take (by omega) hk]
theorem sqN_le4 (c:Int):sqN (sqRow c)<=4:=by
 have:=sqSize_bd (sqRow c);unfold sqN;omega
theorem headSg_four (enc:Int) (l:Bytes) (k:Nat) (hk:4<=k):headSg enc (l.take k)=headSg enc l:=by
 cases hx:headSg enc l with
 |some x =>
  refine headSg_take hx ?_
  unfold headSg at hx
  split at hx
  ·cases hx
  ·split at hx
   ·cases hx
    unfold utfHead
    split
    ·exact Nat.le_trans (sqN_le4 _) hk
    ·show 1<=k;omega
   ·split at hx
    ·cases hx;show 1<=k;omega
    ·split at hx
     ·cases hx
     ·cases hx
      unfold unitHead
      dsimp only
      (repeat' split)<;>simp<;>omega
 |none =>
  unfold headSg at hx ⊢
  rw[List.length_take]
  by_cases n0:l.length=0
  ·rw[if_pos (by omega)]
  ·rw[if_neg n0] at hx
   rw[if_neg (by omega)]
   by_cases e0:enc=0
   ·rw[if_pos e0] at hx;cases hx
   ·rw[if_neg e0] at hx ⊢
    by_cases e3:enc=3
    ·rw[if_pos e3] at hx;cases hx
    ·rw[if_neg e3] at hx ⊢
     by_cases h2:l.length<2
     ·rw[if_pos (by omega)]
     ·rw[if_neg h2] at hx;cases hx
theorem headSg_more (enc:Int) (l r:Bytes) (h:4<=l.length):headSg enc (l++r)=headSg enc l:=by
 rw[<-headSg_four enc (l++r) 4 (Nat.le_refl _),<-headSg_four enc l 4 (Nat.le_refl _),List.take_append_of_le_length h]
def szS (S:List Sg):Nat:=(S.map (fun x=>x.2)).sum
theorem szS_cons (x:Sg) (S:List Sg):szS (x :: S)=x.2+szS S:=by simp [szS]
theorem head_of_signs {enc:Int} {l:Bytes} {x:Sg} {S:List Sg} (h:signs enc l=x :: S):headSg enc l=some x/\signs enc (l.drop x.2)=S:=by
 rw[signs_step] at h
 cases hx:headSg enc l with
 |none=>rw[hx] at h;cases h
 |some y=>rw[hx] at h;injection h with h1 h2;subst h1;exact⟨rfl,h2⟩
theorem signs_cut {enc:Int}:∀{S1 S2:List Sg} {l:Bytes},signs enc l=S1++S2->signs enc (l.take (szS S1))=S1/\signs enc (l.drop (szS S1))=S2
 |[],S2,l,h=>by
  simp only[szS,List.map_nil,List.sum_nil,List.take_zero,List.drop_zero]
  exact⟨signs_nil enc,h⟩
 |x :: S1,S2,l,h=>by
  obtain⟨hx,hr⟩:=head_of_signs (h:signs enc l=x :: (S1++S2))
  obtain⟨h1,h2⟩:=signs_cut hr
  rw[szS_cons]
  constructor
  ·rw[signs_some (headSg_take hx (by omega)),List.drop_take,Nat.add_sub_cancel_left,h1]
  ·rw[<-List.drop_drop];exact h2
theorem signs_more {enc:Int}:∀{S1 S2:List Sg} {l r:Bytes},signs enc l=S1++S2->szS S1+4<=l.length->signs enc (l++r)=S1++signs enc ((l++r).drop (szS S1))
 |[],S2,l,r,_,_=>by simp [szS]
 |x :: S1,S2,l,r,h,hk=>by
  rw[szS_cons] at hk ⊢
  obtain⟨hx,hr⟩:=head_of_signs (h:signs enc l=x :: (S1++S2))
  have hx':headSg enc (l++r)=some x:=by rw[headSg_more _ _ _ (by omega)];exact hx
  rw[signs_some hx',List.drop_append_of_le_length (by omega),signs_more hr (by rw[List.length_drop];omega),<-List.drop_append_of_le_length (by omega),List.drop_drop]
  rfl
theorem singleA_size (x:Sg):(singleA x).2.2=x.2:=by
 unfold singleA;(repeat' split)<;>rfl
theorem sizeA_cons (a:At) (A:List At):sizeA (a :: A)=a.2.2+sizeA A:=by simp [sizeA]
theorem atomsF_cut:∀(S:List Sg) (h:Nat) (A0 A1:List At),atomsF h S=A0++A1->(h=0\/A0≠[]) ->
  ∃S1 S2,S=S1++S2/\atomsF h S1=A0/\atomsF 0 S2=A1/\h+szS S1=sizeA A0/\∀T,T.head?=S2.head?->atomsF h (S1++T)=A0++atomsF 0 T
 |[],h,A0,A1,e,hc=>by
  unfold atomsF at e
  by_cases h0:0<h
  ·rw[if_pos h0] at e
   have hA:A0≠[]:=hc.resolve_left (by omega)
   obtain⟨a,A,rfl⟩:=List.exists_cons_of_ne_nil hA
   simp only[List.cons_append,List.cons.injEq] at e
   obtain⟨rfl,e2⟩:=e
   have e3:=List.append_eq_nil_iff.1 e2.symm
   obtain⟨rfl,rfl⟩:=e3
   refine⟨[],[],rfl,by simp [atomsF,h0],by simp [atomsF],by simp [szS,sizeA],?_⟩
   intro T hT
   have:T=[]:=by cases T with|nil=>rfl|cons _ _=>simp at hT
   subst this
   simp [atomsF,h0]
  ·rw[if_neg h0] at e
   have e3:=List.append_eq_nil_iff.1 e.symm
   obtain⟨rfl,rfl⟩:=e3
   have:h=0:=by omega
   subst this
   exact⟨[],[],rfl,by simp [atomsF],by simp [atomsF],by simp [szS,sizeA],fun T _=>by simp⟩
 |x :: r,h,A0,A1,e,hc=>by
  by_cases hA:A0=[]
  ·subst hA
   have h0:h=0:=hc.resolve_right (by simp)
   subst h0
   exact⟨[],x :: r,rfl,by simp [atomsF],by simpa using e,by simp [szS,sizeA],fun T _=>by simp⟩
  ·obtain⟨a,A,rfl⟩:=List.exists_cons_of_ne_nil hA
   rw[atomsF] at e
   by_cases hc1:0<h/\x.1=10
   ·rw[if_pos hc1] at e
    simp only[List.cons_append,List.cons.injEq] at e
    obtain⟨rfl,e2⟩:=e
    obtain⟨S1,S2,rfl,i2,i3,i4,i5⟩:=atomsF_cut r 0 A A1 e2 (.inl rfl)
    refine⟨x :: S1,S2,rfl,by rw[atomsF,if_pos hc1,i2],i3,by rw[szS_cons,sizeA_cons];simp only;omega,?_⟩
    intro T hT
    rw[List.cons_append,atomsF,if_pos hc1,i5 T hT];rfl
   ·rw[if_neg hc1] at e
    by_cases h0:0<h
    ·rw[if_pos h0] at e
     simp only[List.cons_append,List.nil_append,List.cons.injEq] at e
     obtain⟨rfl,e2⟩:=e
     by_cases hA':A=[]
     ·subst hA'
      refine⟨[],x :: r,rfl,by simp [atomsF,h0],by rw[atomsF,if_neg (show ¬(0<0/\x.1=10) from fun q=>absurd q.1 (by decide)),if_neg (show ¬0<0 by decide)];simpa using e2,by simp [szS,sizeA],?_⟩
      intro T hT
      obtain⟨t,rfl⟩:∃t,T=x :: t:=by
       cases T with
       |nil=>simp at hT
       |cons y t=>simp at hT;exact⟨t,by rw[hT]⟩
      rw[List.nil_append,atomsF,if_neg hc1,if_pos h0,atomsF,if_neg (show ¬(0<0/\x.1=10) from fun q=>absurd q.1 (by decide)),if_neg (show ¬0<0 by decide)];simp
     ·by_cases h13:x.1=13
      ·rw[if_pos h13] at e2
       obtain⟨S1,S2,rfl,i2,i3,i4,i5⟩:=atomsF_cut r x.2 A A1 e2 (.inr hA')
       refine⟨x :: S1,S2,rfl,by rw[atomsF,if_neg hc1,if_pos h0,if_pos h13,i2];rfl,i3,by rw[szS_cons,sizeA_cons];simp only;omega,?_⟩
       intro T hT
       rw[List.cons_append,atomsF,if_neg hc1,if_pos h0,if_pos h13,i5 T hT];rfl
      ·rw[if_neg h13] at e2
       obtain⟨a2,A2,rfl⟩:=List.exists_cons_of_ne_nil hA'
       simp only[List.cons_append,List.cons.injEq] at e2
       obtain⟨rfl,e3⟩:=e2
       obtain⟨S1,S2,rfl,i2,i3,i4,i5⟩:=atomsF_cut r 0 A2 A1 e3 (.inl rfl)
       refine⟨x :: S1,S2,rfl,by rw[atomsF,if_neg hc1,if_pos h0,if_neg h13,i2];rfl,i3,by rw[szS_cons,sizeA_cons,sizeA_cons,singleA_size];simp only;omega,?_⟩
       intro T hT
       rw[List.cons_append,atomsF,if_neg hc1,if_pos h0,if_neg h13,i5 T hT];rfl
    ·rw[if_neg h0,List.nil_append] at e
     have hz:h=0:=by omega
     subst hz
     by_cases h13:x.1=13
     ·rw[if_pos h13] at e
      obtain⟨S1,S2,rfl,i2,i3,i4,i5⟩:=atomsF_cut r x.2 (a :: A) A1 e (.inr (by simp))
      refine⟨x :: S1,S2,rfl,by rw[atomsF,if_neg hc1,if_neg h0,if_pos h13,i2];rfl,i3,by rw[szS_cons];omega,?_⟩
      intro T hT
      rw[List.cons_append,atomsF,if_neg hc1,if_neg h0,if_pos h13,i5 T hT];rfl
     ·rw[if_neg h13] at e
      simp only[List.cons_append,List.cons.injEq] at e
      obtain⟨rfl,e3⟩:=e
      obtain⟨S1,S2,rfl,i2,i3,i4,i5⟩:=atomsF_cut r 0 A A1 e3 (.inl rfl)
      refine⟨x :: S1,S2,rfl,by rw[atomsF,if_neg hc1,if_neg h0,if_neg h13,i2];rfl,i3,by rw[szS_cons,sizeA_cons,singleA_size];omega,?_⟩
      intro T hT
      rw[List.cons_append,atomsF,if_neg hc1,if_neg h0,if_neg h13,i5 T hT];rfl
theorem szS_le {enc:Int}:∀{S1 S2:List Sg} {l:Bytes},signs enc l=S1++S2->szS S1<=l.length
 |[],_,_,_=>by simp [szS]
 |x :: S1,S2,l,h=>by
  obtain⟨hx,hr⟩:=head_of_signs (h:signs enc l=x :: (S1++S2))
  have h1:=(headSg_le hx).2.2
  have h2:=szS_le hr
  rw[List.length_drop] at h2
  rw[szS_cons];omega
theorem sizeA_le {enc:Int} {l:Bytes} {A0:List At} (h:A0 <+: atoms enc l):sizeA A0<=l.length:=by
 obtain⟨A1,hA⟩:=h
 obtain⟨S1,S2,e1,e2,e3,e4,_⟩:=atomsF_cut (signs enc l) 0 A0 A1 hA.symm (.inl rfl)
 have:=szS_le e1
 omega
theorem atoms_cut {enc:Int} {l:Bytes} {A0:List At} (h:A0 <+: atoms enc l):atoms enc (l.take (sizeA A0))=A0/\atoms enc l=A0++atoms enc (l.drop (sizeA A0)):=by
 obtain⟨A1,hA⟩:=h
 obtain⟨S1,S2,e1,e2,e3,e4,_⟩:=atomsF_cut (signs enc l) 0 A0 A1 hA.symm (.inl rfl)
 obtain⟨c1,c2⟩:=signs_cut e1
 rw[Nat.zero_add] at e4
 rw[<-e4]
 refine⟨by rw[atoms,c1,e2],?_⟩
 rw[<-hA,<-e3,<-c2];rfl
theorem atoms_more {enc:Int} {l r:Bytes} {A0:List At} (h:A0 <+: atoms enc l) (hk:sizeA A0+4<=l.length):atoms enc (l++r)=A0++atoms enc ((l++r).drop (sizeA A0)):=by
 obtain⟨A1,hA⟩:=h
 obtain⟨S1,S2,e1,e2,e3,e4,e5⟩:=atomsF_cut (signs enc l) 0 A0 A1 hA.symm (.inl rfl)
 obtain⟨c1,c2⟩:=signs_cut e1
 rw[Nat.zero_add] at e4
 rw[<-e4] at hk ⊢
 have hs:=signs_more (r:=r) e1 hk
 show atomsF 0 (signs enc (l++r))=_
 rw[hs]
 refine e5 _ ?_
 have hd:headSg enc ((l++r).drop (szS S1))=headSg enc (l.drop (szS S1)):=by
  rw[List.drop_append_of_le_length (by omega)]
  exact headSg_more _ _ _ (by rw[List.length_drop];omega)
 rw[<-c2,signs_step,signs_step enc (l.drop (szS S1)),hd]
 cases headSg enc (l.drop (szS S1))<;>rfl
end Vm
namespace Vm
def partL (l:List UInt8) (f t:Int):List UInt8:=(l.take t.toNat).drop f.toNat
theorem partL_out {l:List UInt8} {f t:Int} (h:(l.length:Int)<=f\/t<=0\/t<=f):partL l f t=[]:=by
 unfold partL
 apply List.drop_eq_nil_of_le
 rw[List.length_take];omega
theorem partL_append (a b:List UInt8) (f t:Int):partL (a++b) f t=partL a f t++partL b (f - a.length) (t - a.length):=by
 unfold partL
 rw[List.take_append,List.drop_append]
 congr 1
 have e1:(t - (a.length:Int)).toNat=t.toNat - a.length:=by omega
 have e2:(f - (a.length:Int)).toNat=f.toNat - a.length:=by omega
 rw[e1,e2,List.length_take]
 by_cases h:a.length<=t.toNat
 ·rw[Nat.min_eq_right h]
 ·have:t.toNat - a.length=0:=by omega
  rw[this];simp
theorem partL_all (l:List UInt8) (t:Int) (h:(l.length:Int)<=t):partL l 0 t=l:=by
 unfold partL
 rw[List.take_of_length_le (by omega)];simp
theorem partL_len (l:List UInt8) (f t:Int):(partL l f t).length<=l.length:=by
 unfold partL
 rw[List.length_drop,List.length_take];omega
theorem partL_extract (b:ByteArray) (i j:Nat) (f t:Int) (hi:i=f.toNat) (hj:j=min t.toNat b.size):(b.extract i j).data.toList=partL b.data.toList f t:=by
 rw[ByteArray.data_extract,Array.toList_extract,List.extract_eq_take_drop,hi,hj]
 unfold partL
 rw[List.take_drop]
 have hl:b.data.toList.length=b.size:=rfl
 by_cases h:f.toNat<=min t.toNat b.size
 ·rw[Nat.add_sub_cancel' h]
  congr 1
  by_cases g:t.toNat<=b.size
  ·rw[Nat.min_eq_left g]
  ·rw[Nat.min_eq_right (by omega),List.take_of_length_le (by omega),List.take_of_length_le (by omega)]
 ·rw[Nat.sub_eq_zero_of_le (by omega),Nat.add_zero]
  rw[List.drop_eq_nil_of_le (by rw[List.length_take];omega),List.drop_eq_nil_of_le (by rw[List.length_take];omega)]
end Vm
namespace Vm
theorem atomsF_ne:∀(S:List Sg) (h:Nat),0<h->atomsF h S≠[]
 |[],h,h0=>by simp [atomsF,h0]
 |x :: r,h,h0=>by
  simp only[atomsF]
  split
  ·simp
  ·exact List.append_ne_nil_of_left_ne_nil (by simp) _
theorem atoms_ne (enc:Int) (l:Bytes) (h:2<=l.length):atoms enc l≠[]:=by
 unfold atoms signs
 obtain⟨f,hf⟩:∃f,l.length=f+1:=⟨l.length - 1,by omega⟩
 rw[hf]
 have hx:∃x,headSg enc l=some x:=by
  unfold headSg
  rw[if_neg (by omega)]
  split
  ·exact⟨_,rfl⟩
  ·split
   ·exact⟨_,rfl⟩
   ·rw[if_neg (by omega)];exact⟨_,rfl⟩
 obtain⟨x,hx⟩:=hx
 have hb:1<=x.2:=by
  rw[<-rd_head] at hx
  cases hr:rd enc l with
  |none=>rw[hr] at hx;cases hx
  |some y =>
   rw[hr] at hx
   cases hx
   exact (rd_bd hr).1
 unfold signsF
 rw[hx]
 simp only[atomsF,Nat.lt_irrefl,false_and,if_false,List.nil_append]
 by_cases h13:x.1=13
 ·rw[if_pos h13]
  exact atomsF_ne (signsF enc f (l.drop x.2)) x.2 hb
 ·rw[if_neg h13]
  simp
theorem sizeA_pos {enc:Int} {l:Bytes} {A0:List At} (hl:2<=l.length) (h:A0=atoms enc l\/∃x,A0++[x] <+: atoms enc l/\1000<sizeA (A0++[x])):1<=sizeA A0:=by
 rcases h with rfl|⟨x,hx,hs⟩
 ·have h1:=atoms_ne enc l hl
  cases hA:atoms enc l with
  |nil=>exact absurd hA h1
  |cons a A =>
   have:=(atoms_ok enc l a (by rw[hA];simp)).2.2.2.2.2.2
   rw[sizeA_cons];omega
 ·have:=(atoms_ok enc l x (hx.subset (by simp))).2.2.2.2.2.2
  rw[sizeA_snoc] at hs
  omega
end Vm
