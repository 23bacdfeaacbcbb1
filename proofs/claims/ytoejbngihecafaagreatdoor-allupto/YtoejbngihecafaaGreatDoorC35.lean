import Derived.Deep.RegionLaw
import Derived.Lib.SliceRun
import Derived.Test.YtoejbngihecafaaGreatDoorC33
import Derived.Test.YtoejbngihecafaaGreatDoorC34
import Derived.Test.YtoejbngihecafaaGreatDoorC0
set_option maxRecDepth 100000
set_option maxHeartbeats 1000000
open Go.Proofs.Tryz
namespace Vm
variable {enc k:Int}
theorem QiY {n:Int} (he:enc=1\/enc=2):(wrL enc n).length%2=0:=by
 unfold wrL;rw[if_neg (by omega),if_neg (by omega)];split
 ·rw[List.length_append,Qas,Qas]
 rw[Qas]
theorem Qm9 (he:enc=1\/enc=2):(endL enc k).length%2=0:=by
 have h1:=QiY (n:=13) he;have h2:=QiY (n:=10) he;unfold endL;split
 ·exact h2
 split
 ·exact h1
 rw[List.length_append];omega
theorem Qk1 (h0:0<=enc) (h3:enc<=3) (A:List At):Wh enc (nb (typL enc k A)):=by
 have hc:enc=0\/enc=3\/(enc=1\/enc=2):=by omega
 rcases hc with h|h|he
 ·exact .inl h
 ·exact .inr (.inl h)
 right;right;rw[Qca]
 induction A with
 |nil=>rfl
 |cons x A ih =>
  have e:typL enc k (x :: A)=typA enc k x++typL enc k A:=rfl;rw[e,List.length_append]
  have:(typA enc k x).length%2=0:=by
   unfold typA;split
   ·exact Qm9 he
   exact QiY he
  omega
theorem Qhl (enc k:Int):∀(A:List At),(typL enc k A).length<=8 * A.length
 |[]=>by simp [typL]
 |x :: A=>by
  have ih:=Qhl enc k A
  have e:typL enc k (x :: A)=typA enc k x++typL enc k A:=rfl
  have h1:=Qfm enc k
  have h2:=QeK enc x.2.1
  have:(typA enc k x).length<=8:=by
   unfold typA;split
   ·exact h1
   omega
  rw[e,List.length_append,List.length_cons];omega
end Vm
namespace Go.Proofs.YtoejbngihecafaaGreatDoor
open Go.RowKit
theorem S4.out2 {w0 w:World} {enc:Int} {mark:Bool} {tv:Value} {tail:ByteArray} (h:S4 w0 enc mark tv tail w) (k:Kp) (n:Option Nd) (s:ByteArray) {X:World} (hX:X=(((w.setCell ⟨w0.heap.size+1,0,none⟩ (.int .i64 k.enc)).setCell ⟨w0.heap.size+1,1,none⟩ (.bool k.mark)).setCell ⟨w0.heap.size+1,2,none⟩ (trv n)).setCell ⟨w0.heap.size+1,3,none⟩ (.string s)) :
  X.cell? ⟨w0.heap.size+1,0,none⟩=some (.int .i64 k.enc)/\X.cell? ⟨w0.heap.size+1,1,none⟩=some (.bool k.mark)/\X.cell? ⟨w0.heap.size+1,2,none⟩=some (trv n)/\X.cell? ⟨w0.heap.size+1,3,none⟩=some (.string s)/\Below w0.heap.size w0 X/\∀{R:List (Cn × ByteArray)},CtOk w k n R s->CtOk X k n R s:=by
 obtain⟨r0,r1,r2,r3,_⟩:=h.rs
 obtain⟨a,b,c,d,tn,ty⟩:=QdZ (.int .i64 k.enc) (.bool k.mark) (trv n) (.string s) r0 r1 r2 r3 hX
 refine⟨a,b,c,d,QbK h.low (by omega) tn,fun ht=>⟨ht.tr.tn2 ?_ tn,ht.bytes,ht.atoms,ht.gd,ht.h0,ht.h3⟩⟩
 have hty:tyAt w (w0.heap.size+1)=some 91:=by unfold tyAt;rw[h.r]
 unfold NoNd;rw[hty];exact⟨by decide,by decide⟩
theorem Qgx (k:Kp) (n:Option Nd) (R:List (Cn × ByteArray)) (tail:ByteArray) (on:Bool) (w:World) (ht:Tabs w) (hc:CtOk w k n R tail) (hs:k.body.size<=274877906944) :
  Calls prog 104 #[ctv k n tail,.bool on] w fun e w'=>∃n' R',e=.returned (ctv (markK k on) n' tail)/\CtOk w' (markK k on) n' R' tail/\Below w.heap.size w w':=by
 have H0:=Z1 (S4.start w k.enc on (trv n) tail)
 have hc1:CtOk w ⟨k.enc,on,k.body⟩ n R tail:=⟨hc.tr,hc.bytes,hc.atoms,hc.gd,hc.h0,hc.h3⟩
 have HST:=Z1 (QfV ⟨k.enc,on,k.body⟩ n R tail _ (ht.below H0.o.low) (hc1.low H0.o.low) hs)
 have hkk:stl ⟨k.enc,on,k.body⟩=markK k on:=rfl
 rw[hkk] at HST
 unfold ctv at *
 generalize markK k on=k' at *
 clear hc1 hc ht hkk hs
 go_enter func104,ntmps104
 go_wp2_with fail
 refine HST.o.mono ?_
 rintro e w1 ⟨n',R',rfl,hc1,hb1⟩
 have H1:=Z1 (H0.o.step hb1)
 have HC1:=Z1 hc1
 have hst:=fun (X:World) (a:Addr) (hc:X.cell? a=some .nilIface) (hf:X.frozen? a=false)=>Qaq n' hc hf
 clear hb1 hc1 H0 HST
 obtain⟨r0,r1,r2,r3,rf⟩:=H1.o.rs
 have z1:=Z3 r0
 go_wp2_with fail
 obtain⟨a0,a1,a2,a3,hlo,hco⟩:=H1.o.out2 k' n' tail rfl
 exact bodyPost_ret (v:=.agg #[.int .i64 k'.enc,.bool k'.mark,trv n',.string tail]) (by simp [results,Tryz.results104,go_sem,a0,a1,a2,a3]) rfl ⟨n',R',rfl,hco HC1.o,hlo⟩
theorem QhA (k:Kp) (n:Option Nd) (R:List (Cn × ByteArray)) (tail:ByteArray) (a b:Nat) (text:ByteArray) (w:World) (ht:TabW w) (hc:CtOk w k n R tail) (hab:a<=b) (hv:(Vm.signs 0 text.data.toList).all (fun x=>x.1 != -1)=true) (hs:k.body.size+8 * text.size<=274877906944) :
  Calls prog 66 #[ctv k n tail,.int .i64 (Vm.sizeA (k.A.take a)),.int .i64 (Vm.sizeA (k.A.take b)),.string text] w fun e w'=>∃n' R',e=.returned (ctv (replK k a b (Vm.nb (Vm.typL k.enc (Vm.endingOf (Vm.cntK k.A 0) (Vm.cntK k.A 1) (Vm.cntK k.A 2)) (Vm.atoms 0 text.data.toList)))) n' tail)/\CtOk w' (replK k a b (Vm.nb (Vm.typL k.enc (Vm.endingOf (Vm.cntK k.A 0) (Vm.cntK k.A 1) (Vm.cntK k.A 2)) (Vm.atoms 0 text.data.toList)))) n' R' tail/\Below w.heap.size w w':=by
 have h0:=hc.h0
 have h3:=hc.h3
 have H0:=Z1 (S4.start w k.enc k.mark (trv n) tail)
 have HT:=Z1 ht
 have HC:=Z1 hc
 have hlens:=hc.lens
 have hsA:=hc.sizeA
 have hlA:=Vm.Qau (Vm.Qao k.enc k.L)
 have hsm:(cnOf k.A).Small:=Qbr (by rw[hsA];omega) (by have:Vm.sizeA (Vm.atoms k.enc k.L)=Vm.sizeA k.A:=rfl;have h2:(Vm.atoms k.enc k.L).length=k.A.length:=rfl;omega)
 have hen:(cnOf k.A).ending=Vm.endingOf (Vm.cntK k.A 0) (Vm.cntK k.A 1) (Vm.cntK k.A 2):=rfl
 obtain⟨kd,hkd⟩:∃kd,kd=Vm.endingOf (Vm.cntK k.A 0) (Vm.cntK k.A 1) (Vm.cntK k.A 2):=⟨_,rfl⟩
 have hkd0:0<=kd/\kd<=2:=by rw[hkd];unfold Vm.endingOf;constructor<;>(repeat' split)<;>decide
 rw[<-hkd] at hen ⊢
 have HE:=Z1 (fun X=>Qgu (cnOf k.A) X hsm)
 rw[hen] at HE
 have HKD:=Z1 hkd
 clear hkd hen hsm
 have hat:=hc.atoms
 generalize hW:((w.alloc (.cells #[.int .i64 k.enc,.bool k.mark,trv n,.string tail] 91)).alloc (.cells #[.int .i64 0,.bool false,.nilIface,.string ⟨#[]⟩] 91))=W at H0
 have HCX:=Z1 (fun (x:Bl W)=>(HC.o.low (H0.o.step x.2).low).tr.counts)
 rw[<-hat] at HCX
 have HEX:=Z1 (fun (x:Bl W)=>HE.o x.val)
 have HTX:=Z1 (fun (x:Bl W)=>Qmr k.enc kd text x.val (HT.o.below (H0.o.step x.2).low) h0 h3 hkd0.1 hkd0.2 (by omega) hv)
 have q0:∀x:Bl W,x.val.cell? ⟨w.heap.size,0,none⟩=some (.int .i64 k.enc):=fun x=>(H0.o.step x.2).cs.1
 have q2:∀x:Bl W,x.val.cell? ⟨w.heap.size,2,none⟩=some (trv n):=fun x=>(H0.o.step x.2).cs.2.2.1
 have hmo:prog.follows Departure.mixedOrders=true:=by kernel_rfl
 generalize hcv:(cnOf k.A).val=cv at *
 generalize htx:strOfNums (Vm.typL k.enc kd (Vm.atoms 0 text.data.toList))=tx at *
 have HTXE:=Z1 htx
 unfold ctv
 clear ht hc hcv htx hlA
 go_enter func66,ntmps66
 go_wp2_with fail
 clear hW
 refine Qai hmo (by kernel_rfl) ?_
 repeat (go_big_quiet_step (first|(go_at_call 55;refine Calls.bl_of (HCX.o _))|(go_at_call 57;refine Calls.bl_of (HEX.o _))|(go_at_call 97;refine Calls.bl_of (HTX.o _))|fail))
 refine wpQuiet_nil ?_
 intro _ hw'
 obtain⟨x5,hx5⟩:=hw'
 subst hx5
 have H5:=Z1 (H0.o.step x5.2)
 clear q0 q2 HCX HEX HTX HE H0
 obtain⟨c0,c1,c2,c3⟩:=H5.o.cs
 obtain⟨r0,r1,r2,r3,rf⟩:=H5.o.rs
 have fc:=fun j=>Lib.frozen_of_heap H5.o.c j
 have z0:=Z3 c0
 have z1:=Z3 r0
 have hC5:=HC.o.low H5.o.low
 obtain⟨e1,e2,ew,ea,et⟩:=hC5.row
 have hpa:k.A.take a <+: k.A:=List.take_prefix ..
 have hpb:k.A.take b <+: k.A:=List.take_prefix ..
 have htl:tx.size<=8 * text.size:=by
  rw[<-HTXE.o];have h0:(strOfNums (Vm.typL k.enc kd (Vm.atoms 0 text.data.toList))).size=(Vm.typL k.enc kd (Vm.atoms 0 text.data.toList)).length:=by simp [strOfNums,ByteArray.size]
  have h1:=Vm.Qhl k.enc kd (Vm.atoms 0 text.data.toList);have h2:=Vm.QbH 0 text.data.toList;have h3:text.data.toList.length=text.size:=rfl;omega
 have htb:tx.data.toList=Vm.nb (Vm.typL k.enc kd (Vm.atoms 0 text.data.toList)):=by rw[<-HTXE.o];rfl
 have hfg:Vm.sizeA (k.A.take a)<=Vm.sizeA (k.A.take b):=by
  have:k.A.take a <+: k.A.take b:=List.take_prefix_take_left hab;obtain⟨D,hD⟩:=this;rw[<-hD,Vm.sizeA_append'];omega
 have HSP:=Z1 (Qgz k.enc n R (Vm.sizeA (k.A.take a)) (Vm.sizeA (k.A.take b)) tx x5.val (HT.o.tabs.below H5.o.low) hC5.tr h0 h3 (by omega) hC5.gd hfg ea ⟨k.A.take a,by rw[ea,<-hat];exact hpa,rfl⟩ ⟨k.A.take b,by rw[ea,<-hat];exact hpb,rfl⟩ (by rw[htb];exact Vm.Qk1 h0 h3 _))
 have hfl:Vm.sizeA (k.A.take a)<=(rowB R).length:=by rw[<-hsA];obtain⟨D,hD⟩:=hpa;have:=congrArg Vm.sizeA hD;rw[Vm.sizeA_append'] at this;omega
 have hgl:Vm.sizeA (k.A.take b)<=(rowB R).length:=by rw[<-hsA];obtain⟨D,hD⟩:=hpb;have:=congrArg Vm.sizeA hD;rw[Vm.sizeA_append'] at this;omega
 have hbody:k.L.take (Vm.sizeA (k.A.take a))++(Vm.nb (Vm.typL k.enc kd (Vm.atoms 0 text.data.toList))++k.L.drop (Vm.sizeA (k.A.take b)))=((rowB R).take (Vm.sizeA (k.A.take a))++(tx.data.toList++(rowB R).drop (Vm.sizeA (k.A.take b))))++tail.data.toList:=by
  rw[htb,hC5.bytes,List.take_append_of_le_length hfl,List.drop_append_of_le_length hgl];simp only[List.append_assoc]
 have hwh:Vm.Wh k.enc ((rowB R).take (Vm.sizeA (k.A.take a))++(tx.data.toList++(rowB R).drop (Vm.sizeA (k.A.take b)))):=by
  have wa:Vm.Wh k.enc ((rowB R).take (Vm.sizeA (k.A.take a))):=Vm.QcR (by rw[ea,<-hat];exact hpa);have wb:Vm.Wh k.enc ((rowB R).take (Vm.sizeA (k.A.take b))):=Vm.QcR (by rw[ea,<-hat];exact hpb);have wp:Vm.Wh k.enc tx.data.toList:=by rw[htb];exact Vm.Qk1 h0 h3 _
  have wd:Vm.Wh k.enc ((rowB R).drop (Vm.sizeA (k.A.take b))):=by
   unfold Vm.Wh at wb ew ⊢;rw[List.length_take] at wb;rw[List.length_drop];omega
  exact wa.append (wp.append wd)
 obtain⟨k1,hk1⟩:∃k1:Kp,k1=⟨k.enc,k.mark,ofL (k.L.take (Vm.sizeA (k.A.take a))++(Vm.nb (Vm.typL k.enc kd (Vm.atoms 0 text.data.toList))++k.L.drop (Vm.sizeA (k.A.take b))))⟩:=⟨_,rfl⟩
 have HK1:=Z1 hk1
 have hrk:replK k a b (Vm.nb (Vm.typL k.enc kd (Vm.atoms 0 text.data.toList)))=stl k1:=by rw[hk1];rfl
 have HRK:=Z1 hrk
 have hk1e:k1.enc=k.enc:=by rw[hk1]
 have hk1m:k1.mark=k.mark:=by rw[hk1]
 have hk1s:k1.body.size<=274877906944:=by
  rw[hk1];show (ofL _).size<=_;rw[QjT,hbody,List.length_append,List.length_append,List.length_append,List.length_take,List.length_drop];have h1:tx.data.toList.length=tx.size:=rfl;have h2:tail.data.toList.length=tail.size:=rfl;omega
 have HCK:=Z1 (fun X n' R' (h1:TrAt X k.enc n' R') (h2:rowB R'=(rowB R).take (Vm.sizeA (k.A.take a))++(tx.data.toList++(rowB R).drop (Vm.sizeA (k.A.take b)))) (h4:rowA k.enc R'=Vm.atoms k.enc ((rowB R).take (Vm.sizeA (k.A.take a))++(tx.data.toList++(rowB R).drop (Vm.sizeA (k.A.take b))))) (h5:Gd R')=>(show CtOk X k1 n' R' tail from by
  rw[hk1]
  exact CtOk.mk' (k:=⟨k.enc,k.mark,_⟩) h1 (by show ofL _=ofL _;rw[hbody]) h2 h4 h5 h0 h3 hwh et))
 clear hfg hrk hk1 hbody hwh htb hpa hpb e1 e2 ew ea et hC5 htl hfl hgl hlens hsA hat hs
 generalize Vm.sizeA (k.A.take a)=fa at *
 generalize Vm.sizeA (k.A.take b)=gb at *
 generalize (rowB R).take fa++(tx.data.toList++(rowB R).drop gb)=bd at *
 go_wp2_with fail
 refine HSP.o.mono ?_
 rintro e w6 ⟨t',R',rfl,htr,hrb,hra,hgd,hb6⟩
 have H6:=Z1 (H5.o.step hb6)
 clear c0 c1 c2 c3 r0 r1 r2 r3 rf z0 z1 hb6 HSP H5 fc
 obtain⟨c0,c1,c2,c3⟩:=H6.o.cs
 have fc:=fun j=>Lib.frozen_of_heap H6.o.c j
 have z0:=Z3 c0
 have hst2:=Qaq t' c2 (fc 2)
 have H7:=Z1 (H6.o.root2 t')
 have HC7:=Z1 (HCK.o _ t' R' (H6.o.trs htr 2 (trv t')) hrb hra hgd)
 have HS7:=Z1 (QfV k1 t' R' tail _ (H6.o.tabs HT.o.tabs 2 (trv t')) HC7.o hk1s)
 obtain⟨d0,d1,d2,d3⟩:=H7.o.cs
 have z7:=Z3 d0
 unfold ctv at HS7
 rw[hk1e,hk1m] at HS7
 clear H6 htr hrb hra hgd HCK
 go_wp2_with fail
 refine HS7.o.mono ?_
 rintro e w8 ⟨n',R8,rfl,hc8,hb8⟩
 have H8:=Z1 (H7.o.step hb8)
 have HC8:=Z1 hc8
 have hst8:=fun (X:World) (a:Addr) (hc:X.cell? a=some .nilIface) (hf:X.frozen? a=false)=>Qaq n' hc hf
 clear hb8 hc8 H7 HS7 HC7 d0 d1 d2 d3 z7 c0 c1 c2 c3 fc z0 hst2
 obtain⟨r0,r1,r2,r3,rf⟩:=H8.o.rs
 have z1:=Z3 r0
 generalize hsk:stl k1=k8 at *
 go_wp2_with fail
 obtain⟨a0,a1,a2,a3,hlo,hco⟩:=H8.o.out2 k8 n' tail rfl
 refine bodyPost_ret (v:=.agg #[.int .i64 k8.enc,.bool k8.mark,trv n',.string tail]) (by simp [results,Tryz.results66,go_sem,a0,a1,a2,a3]) rfl ⟨n',R8,?_,?_,hlo⟩
 ·rw[HRK.o]
 rw[HRK.o];exact hco HC8.o
structure He where
 k:Kp
 n:Option Nd
 R:List (Cn × ByteArray)
 tail:ByteArray
def He.cells (e:He):List Value:=[.int .i64 e.k.enc,.bool e.k.mark,trv e.n,.string e.tail]
def hcells (l:List He):List Value:=l.flatMap He.cells
theorem Qak (l:List He):(hcells l).length=l.length * 4:=by
 induction l with
 |nil=>rfl
 |cons e l ih =>
  have:hcells (e :: l)=e.cells++hcells l:=rfl;rw[this,List.length_append,ih,List.length_cons];have:e.cells.length=4:=rfl;omega
theorem QaR (a b:List He):hcells (a++b)=hcells a++hcells b:=by simp [hcells]
structure Hrow (w:World) (g cap:Nat) (l:List He):Prop where
 cs:∃cur,w.heap[g]?=some (.cells cur 91 (0,0))/\cur.size=cap * 4/\cur.toList.take (l.length * 4)=hcells l
 le:l.length<=cap
 mx:cap<=9223372036854775807
theorem Qcb {g:Nat} {t:TypeId} {fz:Nat × Nat}:∀(vs:List Value) (o:Nat) (w:World) (cur:Array Value),w.heap[g]?=some (.cells cur t fz)->o+vs.length<=cur.size ->
  (w.setCells g o vs).heap[g]?=some (.cells (cur.toList.take o++vs++cur.toList.drop (o+vs.length)).toArray t fz)
 |[],o,w,cur,h,_=>by
  rw[List.append_nil]
  show w.heap[g]?=_
  rw[h];simp
 |v :: vs,o,w,cur,h,hl=>by
  rw[List.length_cons] at hl
  have h1:(w.setCell ⟨g,o,none⟩ v).heap[g]?=some (.cells (cur.setIfInBounds o v) t fz):=by
   show (w.heap.modify g _)[g]?=_;rw[Array.getElem?_modify,if_pos rfl,h];rfl
  have ih:=Qcb vs (o+1) _ _ h1 (by simp;omega);show ((w.setCell ⟨g,o,none⟩ v).setCells g (o+1) vs).heap[g]?=_;rw[ih];congr 2;apply congrArg List.toArray;have e1:(cur.setIfInBounds o v).toList=cur.toList.set o v:=by simp
  have hol:o<cur.toList.length:=by rw[Array.length_toList];omega
  have l1:(cur.toList.take o++[v]).length=o+1:=by rw[List.length_append,List.length_take,List.length_singleton];omega
  have e2:(cur.toList.set o v).take (o+1)=cur.toList.take o++[v]:=by
   have:cur.toList.set o v=(cur.toList.take o++[v])++cur.toList.drop (o+1):=by
    rw[List.set_eq_take_append_cons_drop,if_pos hol];simp
   rw[this,<-l1,List.take_left]
  have e3:(cur.toList.set o v).drop (o+1+vs.length)=cur.toList.drop (o+(v :: vs).length):=by
   rw[List.drop_set_of_lt (by omega),List.length_cons];congr 1;omega
  rw[e1,e2,e3];simp
theorem QcF (g:Nat):∀(vs:List Value) (o:Nat) (w:World),Tn g w (w.setCells g o vs)
 |[],_,w=>Tn.refl g w
 |v :: vs,o,w=>((Tn.refl g w).setCell v).trans (QcF g vs (o+1) _)
theorem Qhs (e:He):∀u∈e.cells,u.oneCell'=true:=by
 intro u hu;have:u=.int .i64 e.k.enc\/u=.bool e.k.mark\/u=trv e.n\/u=.string e.tail:=by simpa [He.cells] using hu
 rcases this with rfl|rfl|rfl|rfl
 ·rfl
 ·rfl
 ·rcases Qd2 e.n with h|⟨k,v,h⟩<;>rw[h]<;>rfl
 rfl
theorem Qkc (l:List He):∀u∈hcells l,u.oneCell'=true:=by
 intro u hu;simp only[hcells,List.mem_flatMap] at hu;obtain⟨e,_,hu⟩:=hu;exact Qhs e u hu
theorem QhL (W:World) (g cap n:Nat) (ty:TypeId) {cur:Array Value} (hg:W.heap[g]?=some (.cells cur 91 (0,0))) (hcs:cur.size=cap * 4) (hn:n<cap) :
  (Builtin.clear_ #[106] ty #[.slice (some ⟨g,n * 4,none⟩) 1 (cap - n)]).run prog W=.ok (.tuple #[]) (W.setCells g (n * 4) [.int .i64 0,.bool false,.nilIface,.string ⟨#[]⟩]):=by
 have hst:=run_storeCells_cells (P:=prog) g (n * 4) [.int .i64 0,.bool false,.nilIface,.string ⟨#[]⟩] 0 W (fun j hj=>by
   have hj:j<4:=hj
   rw[Lib.cell_of_heap hg,Array.getElem?_eq_getElem (by omega)];rfl) (fun j _=>Lib.frozen_of_heap hg _) (by intro v hv;simp at hv;rcases hv with rfl|rfl|rfl|rfl<;>rfl)
 simp only[Nat.add_zero] at hst
 have hzc:(Builtin.zeroCells (Value.agg #[.int .i64 0,.bool false,.nilIface,.string ⟨#[]⟩]).cells 1).toList=[.int .i64 0,.bool false,.nilIface,.string ⟨#[]⟩]:=by kernel_rfl
 simp [Builtin.clear_,run_underlying underlying106,hzc,hst]
theorem QoK :∃i,prog.info? 91=some i/\i.size=4:=by
 have h:(prog.info? 91).map (·.size)=some 4:=by kernel_rfl
 cases hi:prog.info? 91 with
 |none=>rw[hi] at h;cases h
 |some i=>rw[hi] at h;exact⟨i,rfl,Option.some.inj h⟩
theorem QeE (g cap:Nat) (lA lB:List He) (x:He) (w:World) (h:Hrow w g cap (lA++x :: lB)) :
  Calls prog 96 #[.slice (some ⟨g,0,none⟩) (lA++x :: lB).length cap,.int .i64 lA.length,.int .i64 ((lA.length:Int)+1)] w fun e w'=>e=.returned (.slice (some ⟨g,0,none⟩) (lA++lB).length cap)/\Hrow w' g cap (lA++lB)/\Tn g w w':=by
 obtain⟨⟨cur,hg,hcs,htk⟩,hle,hmx⟩:=h
 have hn:(lA++x :: lB).length=lA.length+1+lB.length:=by rw[List.length_append,List.length_cons];omega
 rw[hn] at hle htk ⊢
 have hz:g<w.heap.size:=Z4 hg
 have hcell:∀j u,(hcells lB)[j]?=some u->w.drew.cell? ⟨g,(lA.length+1) * 4+j,none⟩=some u:=by
  intro j u hj;show w.cell? ⟨g,(lA.length+1) * 4+j,none⟩=some u;rw[Lib.cell_of_heap hg,<-hj]
  have hjl:j<lB.length * 4:=by
   have:=(List.getElem?_eq_some_iff.1 hj).1;rwa [Qak] at this
  have e1:cur[(lA.length+1) * 4+j]?=(cur.toList.take ((lA.length+1+lB.length) * 4))[(lA.length+1) * 4+j]?:=by
   rw[List.getElem?_take_of_lt (by omega),Array.getElem?_toList]
  rw[e1,htk,QaR,List.getElem?_append_right (by rw[Qak];omega),Qak];have e2:hcells (x :: lB)=x.cells++hcells lB:=rfl;rw[e2,List.getElem?_append_right (by show 4<=_;omega)];congr 1;show _ - 4=_;omega
 obtain⟨i,hi⟩:∃i,i=lA.length:=⟨_,rfl⟩
 obtain⟨m,hm⟩:∃m,m=lB.length:=⟨_,rfl⟩
 obtain⟨A,hA,hsrc⟩:∃A:Addr,(if cap=i+1 then some (⟨g,0,none⟩:Addr) else some ⟨g,(i+1) * 4,none⟩)=some A/\Hid (∀t u,(hcells lB)[t]?=some u->w.drew.cell? (A.add t)=some u):=by
  by_cases hq:cap=i+1
  ·refine⟨⟨g,0,none⟩,by simp [hq],fun t u hu=>?_⟩;have h0:(hcells lB).length=0:=by rw[Qak];omega
   rw[List.length_eq_zero_iff.1 h0] at hu;simp at hu
  refine⟨⟨g,(i+1) * 4,none⟩,by simp [hq],fun t u hu=>?_⟩;rw[Addr.add_lit,hi];exact hcell t u hu
 have s1:Hid ((hcells lB).length=m * 4):=by show (hcells lB).length=m * 4;rw[Qak,hm]
 have s2:Hid (∀u∈hcells lB,u.oneCell'=true):=Qkc lB
 have hall:∀t,t<cap * 4->(w.cell? ⟨g,t,none⟩).isSome=true/\w.frozen? ⟨g,t,none⟩=false:=fun t ht=>by
  refine⟨?_,Lib.frozen_of_heap hg t⟩;rw[Lib.cell_of_heap hg,Array.getElem?_eq_getElem (by omega)];rfl
 have s3:Hid (∀t,t<(hcells lB).length->(w.drew.cell? ⟨g,0+i * 4+t,none⟩).isSome=true/\w.drew.frozen? ⟨g,0+i * 4+t,none⟩=false):=fun t ht=>by
  rw[Qak] at ht;exact hall _ (by omega)
 obtain⟨W1,hW1⟩:∃W1,W1=w.drew.setCells g (0+i * 4) (hcells lB):=⟨_,rfl⟩
 have hg1:W1.heap[g]?=some (.cells (cur.toList.take (0+i * 4)++hcells lB++cur.toList.drop (0+i * 4+(hcells lB).length)).toArray 91 (0,0)):=by
  rw[hW1];exact Qcb (hcells lB) (0+i * 4) w.drew cur hg (by rw[Qak];omega)
 have hcl:=fun ty=>QhL W1 g cap (i+m) ty hg1 (by
  rw[Qak,List.size_toArray,List.length_append,List.length_append,List.length_take,List.length_drop,Qak,Array.length_toList];omega) (by omega)
 obtain⟨ii,hii1,hii2⟩:=QoK
 have hg2:(W1.setCells g ((i+m) * 4) [.int .i64 0,.bool false,.nilIface,.string ⟨#[]⟩]).heap[g]?=_:=Qcb [.int .i64 0,.bool false,.nilIface,.string ⟨#[]⟩] ((i+m) * 4) W1 _ hg1 (by
  have h4:([.int .i64 0,.bool false,.nilIface,.string ⟨#[]⟩]:List Value).length=4:=rfl;simp only[List.size_toArray,List.length_append,List.length_take,List.length_drop,Qak,Array.length_toList,h4]
  omega)
 have hfin:Hrow (W1.setCells g ((i+m) * 4) [.int .i64 0,.bool false,.nilIface,.string ⟨#[]⟩]) g cap (lA++lB):=by
  have hl0:(cur.toList.take (0+i * 4)).length=i * 4:=by rw[List.length_take,Array.length_toList];omega
  refine⟨⟨_,hg2,?_,?_⟩,by rw[List.length_append];omega,hmx⟩
  ·simp only[List.size_toArray,List.length_append,List.length_take,List.length_drop,Qak,List.length_cons,List.length_nil,Array.length_toList];omega
  have e1:(lA++lB).length * 4=(i+m) * 4:=by rw[List.length_append,hi,hm]
  rw[e1]
  have e2:cur.toList.take (0+i * 4)=hcells lA:=by
   have h1:(hcells (lA++x :: lB)).take (i * 4)=hcells lA:=by
    have e:i * 4=(hcells lA).length:=by rw[Qak];omega
    rw[QaR,e,List.take_left]
   have h2:cur.toList.take (i * 4)=(cur.toList.take ((lA.length+1+lB.length) * 4)).take (i * 4):=by
    have hmn:min (i * 4) ((lA.length+1+lB.length) * 4)=i * 4:=by omega
    rw[List.take_take,hmn]
   rw[Nat.zero_add,h2,htk,h1]
  have e3:(hcells lA++hcells lB).length=(i+m) * 4:=by rw[List.length_append,Qak,Qak];omega
  simp only[e2];rw[List.append_assoc,List.append_assoc];rw[List.take_append_of_le_length (by rw[List.length_take];simp only[List.length_append,Qak,List.length_drop,Array.length_toList] at *;omega)];rw[List.take_take,Nat.min_self,<-List.append_assoc,<-e3,List.take_left,QaR]
 have htn:Tn g w (W1.setCells g ((i+m) * 4) [.int .i64 0,.bool false,.nilIface,.string ⟨#[]⟩]):=by
  have h2:Tn g W1 (W1.setCells g ((i+m) * 4) [.int .i64 0,.bool false,.nilIface,.string ⟨#[]⟩]):=QcF g _ _ _;refine Tn.trans ?_ h2;rw[hW1];have h1:Tn g w w.drew:=⟨rfl,rfl,rfl,Z6 _,fun _ _ _=>rfl⟩;exact h1.trans (QcF g _ _ _)
 have HF:=Z1 hfin
 have HTN:=Z1 htn
 have hW:Hid (W1=w.drew.setCells g (0+i * 4) (hcells lB)):=hW1
 have hic:i<=cap:=by omega
 have hjc:i+1<=cap:=by omega
 have hin:i<=i+1+m:=by omega
 have hcI:(i:Int)+1+(m:Int)<=(cap:Int):=by omega
 have hcI1:(i:Int)+1<=(i:Int)+1+(m:Int):=by omega
 have hcI2:(0:Int)<=(i:Int)+1:=by omega
 have hcI3:(i:Int)<=(i:Int)+1:=by omega
 have hcI4:(0:Int)<=(i:Int)+1+(m:Int):=by omega
 have hin1:i+1<=i+1+m:=by omega
 have e5:(lA++lB).length=i+m:=by rw[List.length_append,hi,hm]
 rw[e5,<-hi,<-hm]
 clear hW1 hg1 hg2 hfin htn hall hcell htk hg hi hm hn e5
 have hmo:prog.follows Departure.mixedOrders=true:=by kernel_rfl
 go_enter func96,ntmps96
 go_wp2_with fail
 go_region_law_o (refine step_append_room rfl (.tmp 22) (.tmp 25) 106 rfl 91 ii 4 underlying106 hii1 hii2 g 0 i cap (by simp [Act.eval,Act.put]) A m (cap - (i+1)) (hcells lB) (by simp [Act.eval,Act.put]) s1 hsrc s2 (by omega) s3 ?_;rw[<-hW])
 have hsub:i+1+m - (i+m)=1:=by omega
 have hcI5:(0:Int)<=(i:Int)+(m:Int):=by omega
 have hcI6:(i:Int)+(m:Int)<=(i:Int)+1+(m:Int):=by omega
 have hne5:¬cap=i+m:=by omega
 have hle6:i+m<=i+1+m:=by omega
 go_wp2_with fail
 go_ret
 exact⟨rfl,HF.o,HTN.o⟩
end Go.Proofs.YtoejbngihecafaaGreatDoor
