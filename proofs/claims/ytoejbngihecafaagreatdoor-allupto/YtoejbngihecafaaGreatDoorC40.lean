import Derived.Test.YtoejbngihecafaaGreatDoorC4
import Derived.Test.YtoejbngihecafaaGreatDoorC39
import Derived.Test.YtoejbngihecafaaGreatDoorC29
import Derived.Test.YtoejbngihecafaaGreatDoorC0
set_option maxRecDepth 100000
set_option maxHeartbeats 1000000
open Go.Proofs.Tryz
namespace Vm
variable {enc k:Int}
theorem Qj4 (h0:0<=enc) (h3:enc<=3) {l:Bytes} {x:At} {A:List At} (hA:atoms enc l=x :: A) (hx:x.1<=2):l.take x.2.2=nb (endL enc x.1)/\x.2.1=10/\x.2.2=(endL enc x.1).length:=by
 have w10:=wr_us h0 h3 (n:=10) (.inl rfl);have w13:=wr_us h0 h3 (n:=13) (.inr rfl);have hs:=QbC h0 h3 l;rw[hA,List.flatMap_cons] at hs;have hsh:=QcN h0 h3 l x (by rw[hA];simp);rcases hsh with rfl|rfl|rfl|⟨e1,e2,e3,e4⟩|⟨e1,_⟩
 ·obtain⟨g1,g2⟩:=Qah hs;exact⟨(QaO h0 h3 g1 (by decide)).1,rfl,by rw[Qe8 h0 h3];rfl⟩
 ·obtain⟨g1,g2⟩:=Qah hs;have b1:=(QaO h0 h3 g1 (by decide)).1;obtain⟨g3,g4⟩:=Qah g2;have b2:=(QaO h0 h3 g3 (by decide)).1;refine⟨?_,rfl,by rw[Qe8 h0 h3];rfl⟩;show l.take (us enc+us enc)=nb (wrL enc 13++wrL enc 10);rw[Qbd,<-b1,<-b2,List.take_add]
 ·obtain⟨g1,g2⟩:=Qah hs;exact⟨(QaO h0 h3 g1 (by decide)).1,rfl,by rw[Qe8 h0 h3];rfl⟩
 ·omega
 omega
theorem Qn6 (h0:0<=enc) (h3:enc<=3):∀(A:List At) (l:Bytes),atoms enc l=A->(∀x∈A,x.1<=2->x.1=k)->reB enc k A l=l.take (sizeA A)/\A.map (reA enc k)=A:=by
 intro A
 induction A with
 |nil=>intro l _ _;exact⟨by simp [reB,sizeA],rfl⟩
 |cons x A ih =>
  intro l hA hk;obtain⟨hA',_,_⟩:=Qde hA;obtain⟨i1,i2⟩:=ih (l.drop x.2.2) hA' (fun y hy=>hk y (by simp [hy]));constructor
  ·show (if x.1<=2 then nb (endL enc k) else l.take x.2.2)++reB enc k A (l.drop x.2.2)=_;rw[i1,Qar,List.take_add];congr 1;split
   ·next h=>rw[(Qj4 h0 h3 hA h).1,hk x (by simp) h]
   rfl
  rw[List.map_cons,i2];congr 1;unfold reA;split
  ·next h =>
   obtain⟨_,e1,e2⟩:=Qj4 h0 h3 hA h;have e0:=hk x (by simp) h;obtain⟨a,b,c⟩:=x;simp only at e0 e1 e2;subst e0;subst e1;rw[e2]
  rfl
theorem QcZ (x:At) (A:List At) (j:Int):cntK (x :: A) j=(if x.1=j then 1 else 0)+cntK A j:=by
 unfold cntK;by_cases h:x.1=j
 ·rw[List.filter_cons_of_pos (by simp [h]),if_pos h,List.length_cons];omega
 rw[List.filter_cons_of_neg (by simp [h]),if_neg h];omega
theorem QlP (k0:0<=k) (k2:k<=2):∀(A:List At),(∀x∈A,0<=x.1)->(cntK A 0+cntK A 1+cntK A 2=cntK A k↔∀x∈A,x.1<=2->x.1=k):=by
 have hle:∀A:List At,cntK A k<=cntK A 0+cntK A 1+cntK A 2:=fun A=>by
  have:k=0\/k=1\/k=2:=by omega
  rcases this with rfl|rfl|rfl<;>omega
 intro A
 induction A with
 |nil=>intro _;simp [cntK]
 |cons x A ih =>
  intro hp;have ih:=ih (fun y hy=>hp y (by simp [hy]));have hx:=hp x (by simp);have hl:=hle A;rw[QcZ,QcZ,QcZ,QcZ];have hc:x.1=0\/x.1=1\/x.1=2\/2<x.1:=by omega
  have hkc:k=0\/k=1\/k=2:=by omega
  constructor
  ·intro h y hy hy2;rcases List.mem_cons.1 hy with rfl|hy
   ·(repeat' split at h)<;>omega
   refine ih.1 ?_ y hy hy2;(repeat' split at h)<;>omega
  intro h;have h1:=ih.2 (fun y hy=>h y (by simp [hy]));have h2:=h x (by simp);rcases hc with q|q|q|q
  ·have:=h2 (by omega);rw[q] at this;subst this;simp [q];omega
  ·have:=h2 (by omega);rw[q] at this;subst this;simp [q];omega
  ·have:=h2 (by omega);rw[q] at this;subst this;simp [q];omega
  rw[if_neg (by omega),if_neg (by omega),if_neg (by omega),if_neg (by omega)];omega
theorem Qoa (enc k:Int) (A2:List At) (l2:Bytes):∀(A1:List At) (l1:Bytes),sizeA A1=l1.length->reB enc k (A1++A2) (l1++l2)=reB enc k A1 l1++reB enc k A2 l2:=by
 intro A1
 induction A1 with
 |nil =>
  intro l1 h;obtain rfl:l1=[]:=List.length_eq_zero_iff.1 h.symm;rfl
 |cons x A ih =>
  intro l1 h;rw[Qar] at h;show (if x.1<=2 then nb (endL enc k) else (l1++l2).take x.2.2)++reB enc k (A++A2) ((l1++l2).drop x.2.2)=((if x.1<=2 then nb (endL enc k) else l1.take x.2.2)++reB enc k A (l1.drop x.2.2))++_;rw[List.drop_append_of_le_length (by omega),List.take_append_of_le_length (by omega),ih (l1.drop x.2.2) (by rw[List.length_drop];omega),List.append_assoc]
end Vm
namespace Go.Proofs.YtoejbngihecafaaGreatDoor
open Go.RowKit
variable {enc k:Int}
def reR (enc k:Int) (R:List (Cn × ByteArray)):List UInt8:=Vm.reB enc k (rowA enc R) (rowB R)
theorem Qgw {R T:List (Cn × ByteArray)} (hR:∀x∈R,LeafOk enc x):reR enc k (R++T)=reR enc k R++reR enc k T:=by
 unfold reR;rw[Qaw,Qaf,Vm.Qoa _ _ _ _ _ _ (Qae hR)]
theorem QmM (enc:Int) (R:List (Cn × ByteArray)):∀x∈rowA enc R,0<=x.1:=by
 intro x hx;simp only[rowA,List.mem_flatMap] at hx;obtain⟨y,_,hy⟩:=hx;exact (Vm.Qao enc _ x hy).1
theorem QjN (h0:0<=enc) (h3:enc<=3):∀(R:List (Cn × ByteArray)),(∀x∈R,LeafOk enc x)->(∀x∈rowA enc R,x.1<=2->x.1=k)->reR enc k R=rowB R/\(rowA enc R).map (Vm.reA enc k)=rowA enc R:=by
 intro R
 induction R with
 |nil=>intro _ _;exact⟨rfl,rfl⟩
 |cons x R ih =>
  intro hl hk;have e1:x :: R=[x]++R:=rfl;have eA:rowA enc [x]=Vm.atoms enc x.2.data.toList:=by simp [rowA]
  have eB:rowB [x]=x.2.data.toList:=by simp [rowB]
  rw[e1] at hk hl ⊢;rw[Qaw] at hk;obtain⟨i1,i2⟩:=ih (fun y hy=>hl y (by simp [hy])) (fun y hy=>hk y (by simp [hy]));have hx:=hl x (by simp);obtain⟨j1,j2⟩:=Vm.Qn6 (k:=k) h0 h3 (Vm.atoms enc x.2.data.toList) x.2.data.toList rfl (fun y hy=>hk y (by rw[eA];simp [hy]));rw[hx.2,List.take_of_length_le (show x.2.data.toList.length<=x.2.size from Z6 _)] at j1;refine⟨?_,?_⟩
  ·rw[Qgw (fun y hy=>by simp at hy;subst hy;exact hx),i1,Qaf];congr 1;unfold reR;rw[eA,eB];exact j1
  rw[Qaw,List.map_append,i2,eA,j2]
def Nd.rf:Nd->Nat
 |.leaf _ _ _=>200
 |.inner _ _ _ _ _=>207
theorem QeG (f : Nat) (v : Value) (w : World) : (method (f + 1) 184 v "vellum/atoms.reended").run prog w = .ok (200, v) w := by kernel_rfl
theorem QdM (f : Nat) (v : Value) (w : World) : (method (f + 1) 215 v "vellum/atoms.reended").run prog w = .ok (207, v) w := by kernel_rfl
theorem QcS (n : Nd) (f : Nat) (v : Value) (w : World) : (method (f + 1) n.ty v "vellum/atoms.reended").run prog w = .ok (n.rf, v) w := by
 cases n
 ·exact QeG f v w
 exact QdM f v w
theorem Qfr (n:Nd) (args:Array Value) (w:World):(callFunc n.rf args).run prog w=.ok (.enter n.rf args) w:=by
 cases n
 ·exact enters_of func200 (by kernel_rfl) rfl args w
 exact enters_of func207 (by kernel_rfl) rfl args w
def Ree (enc k:Int) (n:Nd):Prop:=∀(w:World),TabW w->n.In w ->
 Calls prog n.rf #[.pointer (some ⟨n.blk,0,none⟩),.int .i64 enc,.int .i64 k,.int .i64 1000] w fun e w'=>∃t R',e=.returned (.agg #[trv t])/\TrAt w' enc t R'/\rowB R'=reR enc k n.row/\rowA enc R'=(rowA enc n.row).map (Vm.reA enc k)/\R'.length<=9 * (rowB n.row).length+n.row.length/\(Gd n.row->Gd R')/\Below w.heap.size w w'
def Cn.endsK (c:Cn) (k:Int):Nat:=if k=0 then c.lf else if k=1 then c.crlf else c.cr
theorem QhT {A:List Vm.At} (k0:0<=k) (k2:k<=2):(cnOf A).endsK k=Vm.cntK A k:=by
 have:k=0\/k=1\/k=2:=by omega
 rcases this with rfl|rfl|rfl<;>rfl
theorem QmY (enc k:Int) (B:Nat) (c:Cn) (s:ByteArray) (h0:0<=enc) (h3:enc<=3) (k0:0<=k) (k2:k<=2) (ho:(Nd.leaf B c s).Ok) (hl:∀x∈(Nd.leaf B c s).row,LeafOk enc x) (hs:s.size<=68719476736):Ree enc k (Nd.leaf B c s):=by
 intro w ht hin;have hlf:LeafOk enc (c,s):=hl (c,s) (by simp [Nd.row]);have hcn:c=cnOf (Vm.atoms enc s.data.toList):=hlf.1;have hwh:Vm.Wh enc s.data.toList:=Vm.wh_of (hlf.2.trans rfl);have hsz2:Vm.sizeA (Vm.atoms enc s.data.toList)=s.size:=hlf.2
 have hln:(Vm.atoms enc s.data.toList).length<=s.size:=by
  have h1:=Vm.Qau (Vm.Qao enc s.data.toList);omega
 have hsm:c.Small:=by rw[hcn];exact Qbr (by omega) (by omega)
 have H0:=Z1 (UpI.start hin);have hmo:prog.follows Departure.mixedOrders=true:=by kernel_rfl
 have hdis:c.lf+c.crlf+c.cr=c.endsK k↔∀x∈Vm.atoms enc s.data.toList,x.1<=2->x.1=k:=by
  rw[hcn,QhT k0 k2];exact Vm.QlP k0 k2 _ (fun x hx=>(Vm.Qao enc _ x hx).1)
 have HDIS:=Z1 hdis;have HL:=Z1 (fun W=>Qa3 c W hsm);have HIN:=Z1 hin;have eA:rowA enc (Nd.leaf B c s).row=Vm.atoms enc s.data.toList:=by simp [rowA,Nd.row]
 have eB:rowB (Nd.leaf B c s).row=s.data.toList:=by simp [rowB,Nd.row]
 have HRS:=Z1 (fun h=>QjN (k:=k) h0 h3 (Nd.leaf B c s).row hl (by rw[eA];exact h));have eR:reR enc k (Nd.leaf B c s).row=Vm.reB enc k (Vm.atoms enc s.data.toList) s.data.toList:=by unfold reR;rw[eA,eB]
 have hr8:=Vm.Qe3 enc k (Vm.atoms enc s.data.toList) s.data.toList;rw[show s.data.toList.length=s.size from rfl] at hr8
 have hs9:(ofL (Vm.reB enc k (Vm.atoms enc s.data.toList) s.data.toList)).size<=9 * s.size:=by
  show (Vm.reB enc k (Vm.atoms enc s.data.toList) s.data.toList).length<=_;omega
 have HWH:=Z1 (Qmy h0 h3 k0 k2 hwh);have HRA:=Z1 (Vm.Qe6 h0 h3 k0 k2 hwh);have HT:=Z1 ht;have HHL:=Z1 hl;have HE:=Z1 (And.intro eA (And.intro eB eR));clear hin hdis hcn hsm hwh ht hlf hsz2 hl eA eB eR;obtain⟨wq,hwq⟩:∃wq,wq=w.alloc (.cells #[.nilIface] 89):=⟨_,rfl⟩;rw[<-hwq] at H0;have HWQ:=Z1 hwq;clear hwq
 have q:∀(x:Bl wq) (j:Nat),x.val.cell? ⟨B,j,none⟩=(#[.int .i64 c.body,.int .i64 c.bytes,.int .i64 c.chars,.int .i64 c.units,.int .i64 c.esc,.int .i64 c.lf,.int .i64 c.crlf,.int .i64 c.cr,.int .i64 0,.string s]:Array Value)[j]?:=fun x j=>by
  rw[Lib.cell_of_heap (H0.o.step x.2).nd]
 have q0:=fun x=>q x 0;have q1:=fun x=>q x 1;have q2:=fun x=>q x 2;have q3:=fun x=>q x 3;have q4:=fun x=>q x 4;have q5:=fun x=>q x 5;have q6:=fun x=>q x 6;have q7:=fun x=>q x 7;have hkc:k=0\/k=1\/k=2:=by omega
 clear q;obtain⟨m,hm⟩:∃m,m=c.endsK k:=⟨_,rfl⟩;rw[<-hm] at HDIS;have HM:=Z1 hm;show Calls prog 200 #[.pointer (some ⟨B,0,none⟩),.int .i64 enc,.int .i64 k,.int .i64 1000] w _;rcases hkc with rfl|rfl|rfl
 all_goals
  go_enter func200,ntmps200;go_wp2_with fail;rw[<-HWQ.o];refine Qai hmo (by kernel_rfl) ?_
  repeat (go_big_quiet_step (first|(exact Calls.bl_of (HL.o _))|fail))
  refine wpQuiet_nil ?_;intro _ hw';obtain⟨x5,hx5⟩:=hw';subst hx5;have H5:=Z1 (H0.o.step x5.2);clear q0 q1 q2 q3 q4 q5 q6 q7 H0 HWQ;generalize x5.val=w5 at *;have c9:w5.cell? ⟨B,9,none⟩=some (.string s):=by rw[Lib.cell_of_heap H5.o.nd];rfl
  have r0:=C0 H5.o.res;have rf:w5.frozen? ⟨w.heap.size,0,none⟩=false:=Lib.frozen_of_heap H5.o.res 0;have z9:=Z3 c9;have z0:=Z3 r0
  have hBw:B≠w.heap.size:=fun e=>by
   have:=Z4 HIN.o;omega
  by_cases hsame:c.lf+c.crlf+c.cr=m
  ·have hx:=HDIS.o.1 hsame;have hm':=HM.o;simp only[Cn.endsK,Int.reduceEq,↓reduceIte] at hm';rw[hm'] at hsame;have hq:∀(a b:Int),a=b->(a==b)=true:=fun a b e=>by simp [e]
   have hcond:=hq ((c.lf:Int)+(c.crlf:Int)+(c.cr:Int)) _ (by have:=congrArg (fun n:Nat=>(n:Int)) hsame;simpa using this);rw[hcond];obtain⟨u1,u2,u3,u4⟩:=H5.o.put (some (Nd.leaf B c s));have HU3:=Z1 u3;have HU4:=Z1 (u4 (TrAt.one H5.o.nd ho HHL.o));simp only[trv,Nd.ty,Nd.blk] at u1 u2;have HX:=Z1 (HRS.o hx);clear u3 u4 hx hm hm' hsame hcond hq;go_wp2_with fail;refine bodyPost_ret (v:=.agg #[.iface 184 (.pointer (some ⟨B,0,none⟩))]) (by simp [results,Tryz.results200,go_sem,u2]) rfl ⟨some (Nd.leaf B c s),_,rfl,HU4.o,HX.o.1.symm,HX.o.2.symm,by omega,fun h=>h,HU3.o⟩
  have hm':=HM.o;simp only[Cn.endsK,Int.reduceEq,↓reduceIte] at hm';rw[hm'] at hsame;have hq:∀(a b:Int),a≠b->(a==b)=false:=fun a b e=>by simp [e]
  have hcond:=hq ((c.lf:Int)+(c.crlf:Int)+(c.cr:Int)) _ (fun e=>hsame (by have e2:((c.lf+c.crlf+c.cr:Nat):Int)=_:=e;exact Int.ofNat_inj.1 e2));rw[hcond];have HTB:=Z1 (fun W (h:UpI w (Nd.leaf B c s) W)=>HT.o.below h.low);clear hm hm' hsame hcond hq;go_wp2_with fail;refine (Qi1 enc _ s w5 (HTB.o _ H5.o) h0 h3 (by decide) (by decide) (by omega)).mono ?_;rintro e w6 ⟨rfl,hb6⟩;have H6:=Z1 (H5.o.step hb6);clear hb6 H5 c9 r0 rf z9 z0;go_wp2_with fail;refine (Qip enc _ w6 (HTB.o _ H6.o).tabs (by omega) h0 h3 HWH.o).mono ?_;rintro e w7 ⟨t7,R7,rfl,htr7,hrb7,hra7,hln7,hgd7,hb7⟩;have H7:=Z1 (H6.o.step hb7);obtain⟨u1,u2,u3,u4⟩:=H7.o.put t7;have HU3:=Z1 u3;have HU4:=Z1 (u4 htr7);clear u3 u4 hb7 htr7 H6;generalize htv:trv t7=tv at *;have HTV:=Z1 htv;clear htv;go_wp2_with fail;refine bodyPost_ret (v:=.agg #[tv]) (by simp [results,Tryz.results200,go_sem,u2]) rfl ⟨t7,R7,by rw[HTV.o],HU4.o,by rw[HE.o.2.2];exact hrb7,by rw[HE.o.1,hra7];exact HRA.o,?_,fun _=>hgd7,HU3.o⟩;rw[HE.o.2.1];have e1:s.data.toList.length=s.size:=rfl;omega
theorem Qmq (enc k:Int) (B:Nat) (c:Cn) (lv:Nat) (l r:Nd) (h0:0<=enc) (h3:enc<=3) (k0:0<=k) (k2:k<=2) (ho:(Nd.inner B c lv l r).Ok) (hl:∀x∈(Nd.inner B c lv l r).row,LeafOk enc x) (hs:(rowB (Nd.inner B c lv l r).row).length<=68719476736) (hln:(Nd.inner B c lv l r).row.length<=68719476736) (ihl:Ree enc k l) (ihr:Ree enc k r):Ree enc k (Nd.inner B c lv l r):=by
 intro w ht hin;have e0:(Nd.inner B c lv l r).row=l.row++r.row:=rfl;have hcn:c=cnOf (rowA enc (Nd.inner B c lv l r).row):=Nd.cn_row enc ho hl;have hszA:Vm.sizeA (rowA enc (Nd.inner B c lv l r).row)=(rowB (Nd.inner B c lv l r).row).length:=Qae hl;have hlnA:=Vm.Qau (Qa4 enc (Nd.inner B c lv l r).row);have hsm:c.Small:=by rw[hcn];exact Qbr (by omega) (by omega)
 have H0:=Z1 (UpI.start hin);have hmo:prog.follows Departure.mixedOrders=true:=by kernel_rfl
 have hdis:c.lf+c.crlf+c.cr=c.endsK k↔∀x∈rowA enc (Nd.inner B c lv l r).row,x.1<=2->x.1=k:=by
  have hpos:=QmM enc (Nd.inner B c lv l r).row;clear hs hln hin H0 hszA hlnA hl e0;generalize rowA enc (Nd.inner B c lv l r).row=A at hcn hpos ⊢;rw[hcn,QhT k0 k2];exact Vm.QlP k0 k2 A hpos
 have HDIS:=Z1 hdis;have HL:=Z1 (fun W=>Qa3 c W hsm);have HIN:=Z1 hin;have HRS:=Z1 (QjN (k:=k) h0 h3 (Nd.inner B c lv l r).row hl);have HT:=Z1 ht;have HHL:=Z1 hl;have HIL:=Z1 ihl;have HIR:=Z1 ihr;have hll:∀x∈l.row,LeafOk enc x:=fun x hx=>hl x (by rw[e0];simp [hx]);have HRR:=Z1 (Qgw (k:=k) (T:=r.row) hll)
 have hrl:(reR enc k l.row).length<=9 * (rowB l.row).length/\(reR enc k r.row).length<=9 * (rowB r.row).length:=by
  have a1:=Vm.Qe3 enc k (rowA enc l.row) (rowB l.row);have a2:=Vm.Qe3 enc k (rowA enc r.row) (rowB r.row);have b1:=Vm.Qau (Qa4 enc l.row);have b2:=Vm.Qau (Qa4 enc r.row);have d1:Vm.sizeA (rowA enc l.row)=(rowB l.row).length:=Qae hll;have d2:Vm.sizeA (rowA enc r.row)=(rowB r.row).length:=Qae (fun x hx=>hl x (by rw[e0];simp [hx]));unfold reR;omega
 obtain⟨hrl1,hrl2⟩:=hrl;have hs':=hs;have hln':=hln;rw[e0,Qaf,List.length_append] at hs';rw[e0,List.length_append] at hln';have hm1:=QcS l 362;have hm2:=QcS r 362;have he1:=Qfr l;have he2:=Qfr r;clear hin hdis hcn hsm ht hl hll ihl ihr hszA hlnA;obtain⟨wq,hwq⟩:∃wq,wq=w.alloc (.cells #[.nilIface] 89):=⟨_,rfl⟩;rw[<-hwq] at H0;have HWQ:=Z1 hwq;clear hwq
 have q:∀(x:Bl wq) (j:Nat),x.val.cell? ⟨B,j,none⟩=(#[.int .i64 c.body,.int .i64 c.bytes,.int .i64 c.chars,.int .i64 c.units,.int .i64 c.esc,.int .i64 c.lf,.int .i64 c.crlf,.int .i64 c.cr,.int .i64 lv,l.val,r.val]:Array Value)[j]?:=fun x j=>by
  rw[Lib.cell_of_heap (H0.o.step x.2).nd.1]
 have q0:=fun x=>q x 0;have q1:=fun x=>q x 1;have q2:=fun x=>q x 2;have q3:=fun x=>q x 3;have q4:=fun x=>q x 4;have q5:=fun x=>q x 5;have q6:=fun x=>q x 6;have q7:=fun x=>q x 7;have hkc:k=0\/k=1\/k=2:=by omega
 clear q;obtain⟨m,hm⟩:∃m,m=c.endsK k:=⟨_,rfl⟩;rw[<-hm] at HDIS;have HM:=Z1 hm;have hBw:=Z4 HIN.o.1;show Calls prog 207 #[.pointer (some ⟨B,0,none⟩),.int .i64 enc,.int .i64 k,.int .i64 1000] w _;rcases hkc with rfl|rfl|rfl
 all_goals
  go_enter func207,ntmps207;go_wp2_with fail;rw[<-HWQ.o];refine Qai hmo (by kernel_rfl) ?_
  repeat (go_big_quiet_step (first|(exact Calls.bl_of (HL.o _))|fail))
  refine wpQuiet_nil ?_;intro _ hw';obtain⟨x5,hx5⟩:=hw';subst hx5;have H5:=Z1 (H0.o.step x5.2);clear q0 q1 q2 q3 q4 q5 q6 q7 H0 HWQ;generalize x5.val=w5 at *;obtain⟨p9,p10⟩:=Qal H5.o.nd;have r0:=C0 H5.o.res;have rf:w5.frozen? ⟨w.heap.size,0,none⟩=false:=Lib.frozen_of_heap H5.o.res 0;have z9:=Z3 p9;have z0:=Z3 r0;by_cases hsame:c.lf+c.crlf+c.cr=m
  ·have hx:=HDIS.o.1 hsame;have hm':=HM.o;simp only[Cn.endsK,Int.reduceEq,↓reduceIte] at hm';rw[hm'] at hsame;have hq:∀(a b:Int),a=b->(a==b)=true:=fun a b e=>by simp [e]
   have hcond:=hq ((c.lf:Int)+(c.crlf:Int)+(c.cr:Int)) _ (by have:=congrArg (fun n:Nat=>(n:Int)) hsame;simpa using this);rw[hcond];obtain⟨u1,u2,u3,u4⟩:=H5.o.put (some (Nd.inner B c lv l r));have HU3:=Z1 u3;have HU4:=Z1 (u4 (TrAt.one H5.o.nd ho HHL.o));simp only[trv,Nd.ty,Nd.blk] at u1 u2;have HX:=Z1 (HRS.o hx);clear u3 u4 hx hm hm' hsame hcond hq hm1 hm2 he1 he2;go_wp2_with fail;refine bodyPost_ret (v:=.agg #[.iface 215 (.pointer (some ⟨B,0,none⟩))]) (by simp [results,Tryz.results207,go_sem,u2]) rfl ⟨some (Nd.inner B c lv l r),_,rfl,HU4.o,HX.o.1.symm,HX.o.2.symm,by omega,fun h=>h,HU3.o⟩
  have hm':=HM.o;simp only[Cn.endsK,Int.reduceEq,↓reduceIte] at hm';rw[hm'] at hsame;have hq:∀(a b:Int),a≠b->(a==b)=false:=fun a b e=>by simp [e]
  have hcond:=hq ((c.lf:Int)+(c.crlf:Int)+(c.cr:Int)) _ (fun e=>hsame (by have e2:((c.lf+c.crlf+c.cr:Nat):Int)=_:=e;exact Int.ofNat_inj.1 e2));rw[hcond];have HTB:=Z1 (fun W (h:UpR w W)=>HT.o.below h.low);have HNN:=Z1 (fun X (hX:UpR w X)=>Nd.low hX.low HIN.o);have HS:=Z1 (show w5.cell? ⟨B,9,none⟩=some (.iface l.ty (.pointer (some ⟨l.blk,0,none⟩)))/\w5.cell? ⟨B,10,none⟩=some (.iface r.ty (.pointer (some ⟨r.blk,0,none⟩)))/\UpR w w5 from ⟨p9,p10,H5.o.r⟩);have hSd:=Qex HS.o;clear hm hm' hsame hcond hq H5 r0 rf z9 z0 HDIS HM HRS HL HIN;go_wp2_with fail
  go_region_held3 (fun w'=>w'.cell? ⟨B,9,none⟩=some (.iface l.ty (.pointer (some ⟨l.blk,0,none⟩)))/\w'.cell? ⟨B,10,none⟩=some (.iface r.ty (.pointer (some ⟨r.blk,0,none⟩)))/\UpR w w')
   (first|with_reducible assumption|with_reducible exact HS.o|with_reducible exact Qex HS.o|with_reducible exact Qmf hS3 hBw t3|fail)
   (first
    |(have _hq:=htr2;go_at_call 82;refine (QbG enc t1 t2 R1 R2 _ (htr1.low hb2) htr2 (by rw[hrb1,hrb2];omega) (by omega)).mono ?_;rintro e w8 ⟨t3,R3,hj⟩;obtain rfl:=hj.val;have hS3:=QcU (by assumption) hj.below;obtain⟨x1,x2,x3,x4⟩:=(Up_r hS3).put t3)
    |(have _hq:=htr1;refine (HIR.o _ (HTB.o _ (Up_r (by assumption))) (HNN.o _ (Up_r (by assumption))).2.2).mono ?_;rintro e w7 ⟨t2,R2,rfl,htr2,hrb2,hra2,hln2,hgd2,hb2⟩;have hS2:=QcU (by assumption) hb2)
    |(refine (HIL.o _ (HTB.o _ (Up_r (by assumption))) (HNN.o _ (Up_r (by assumption))).2.1).mono ?_;rintro e w6 ⟨t1,R1,rfl,htr1,hrb1,hra1,hln1,hgd1,hb1⟩;have hS1:=QcU (by assumption) hb1)
    |fail)
  have HX:=Z1 (x4 hj.at_);have HL:=Z1 x3.low;have HJ:=Z1 hj;clear hj x4 x3 hS2 hS3 hSd HS HIR HIL hm1 hm2 he1 he2 p9 p10 x1;go_wp2_with fail;refine bodyPost_ret (v:=.agg #[trv t3]) (by simp [results,Tryz.results207,go_sem,x2]) rfl ⟨t3,R3,rfl,HX.o,by rw[HJ.o.bytes,hrb1,hrb2,e0,HRR.o],by rw[HJ.o.atoms,hra1,hra2,e0,Qaw,List.map_append],?_,fun h=>HJ.o.gd (hgd1 (Gd.left (e0 ▸ h))) (hgd2 (Gd.right (e0 ▸ h))),HL.o⟩;have:=HJ.o.len;rw[e0,Qaf,List.length_append,List.length_append];omega
theorem QiU (enc k:Int) (h0:0<=enc) (h3:enc<=3) (k0:0<=k) (k2:k<=2):∀(n:Nd),n.Ok->(∀x∈n.row,LeafOk enc x)->(rowB n.row).length<=68719476736->n.row.length<=68719476736->Ree enc k n
 |.leaf B c s,ho,hl,hs,_=>by
  have e:rowB (Nd.leaf B c s).row=s.data.toList:=by simp [rowB,Nd.row]
  rw[e] at hs
  exact QmY enc k B c s h0 h3 k0 k2 ho hl hs
 |.inner B c lv l r,ho,hl,hs,hn=>by
  have e0:(Nd.inner B c lv l r).row=l.row++r.row:=rfl
  have hs':=hs
  have hn':=hn
  rw[e0,Qaf,List.length_append] at hs'
  rw[e0,List.length_append] at hn'
  exact Qmq enc k B c lv l r h0 h3 k0 k2 ho hl hs hn (QiU enc k h0 h3 k0 k2 l ho.2.2.1 (fun x hx=>hl x (by rw[e0];simp [hx])) (by omega) (by omega)) (QiU enc k h0 h3 k0 k2 r ho.2.2.2 (fun x hx=>hl x (by rw[e0];simp [hx])) (by omega) (by omega))
end Go.Proofs.YtoejbngihecafaaGreatDoor
