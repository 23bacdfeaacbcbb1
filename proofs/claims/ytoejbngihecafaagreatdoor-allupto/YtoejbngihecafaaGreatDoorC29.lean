import Derived.Shelf.Strconv.Clone
import Derived.Test.YtoejbngihecafaaGreatDoorC10
import Derived.Test.YtoejbngihecafaaGreatDoorC26
import Derived.Test.YtoejbngihecafaaGreatDoorC24
import Derived.Test.YtoejbngihecafaaGreatDoorC0
set_option maxRecDepth 100000
set_option maxHeartbeats 2000000
open Go.Proofs.Tryz
namespace Go.Proofs.YtoejbngihecafaaGreatDoor
open Go.Shelf Go.RowKit Go.Proofs
variable {w w0 w':World} {enc:Int} {n:Nd}
def ren2:Go.Shelf.Ren:=⟨fun|316=>171|n=>n,fun|0=>0|3=>3|4=>4|5=>5|9=>9|37=>92|127=>192|n=>n,fun|n=>n⟩
theorem laysM316 :LaysM.n316 prog ren2:={
 mixed:=by kernel_rfl
 f316:=func171.trans (congrArg some (by kernel_rfl))
 t0:=underlying0
 a0:=Tryz.isAgg0
 z0:=Tryz.sizeOf0
 v0:=Tryz.zeroValue0
 t3:=underlying3
 a3:=Tryz.isAgg3
 z3:=Tryz.sizeOf3
 v3:=Tryz.zeroValue3
 t4:=underlying4
 a4:=Tryz.isAgg4
 z4:=Tryz.sizeOf4
 v4:=Tryz.zeroValue4
 t9:=underlying9
 a9:=Tryz.isAgg9
 z9:=Tryz.sizeOf9
 v9:=Tryz.zeroValue9
 t37:=underlying92
 a37:=Tryz.isAgg92
 z37:=Tryz.sizeOf92
 v37:=Tryz.zeroValue92
 t127:=underlying192
 a127:=Tryz.isAgg192
 z127:=Tryz.sizeOf192
 v127:=Tryz.zeroValue192
 t5:=underlying5
 a5:=Tryz.isAgg5
 z5:=Tryz.sizeOf5
 v5:=Tryz.zeroValue5
 i0:=by kernel_rfl
 i3:=by kernel_rfl
 i4:=by kernel_rfl
 i5:=by kernel_rfl
 i9:=by kernel_rfl
 i37:=by kernel_rfl
 i127:=by kernel_rfl }
theorem Qmn (s:ByteArray) (w:World) (hs:s.size<=281474976710656) :
  Calls prog 158 #[.string s] w fun e w'=>e=.returned (.string s)/\Below w.heap.size w w':=by
 have H:=Z1 (Any.stringslite_Clone laysM316 s w hs)
 go_enter func158,ntmps158
 go_wp2_with fail
 refine H.o.mono ?_
 rintro e w1 ⟨rfl,hb⟩
 go_wp2_with fail
 go_ret
 exact⟨rfl,hb⟩
open Go.RowKit
theorem Qaq {a:Addr} {u:Value} (t:Option Nd) (hc:w.cell? a=some u) (hf:w.frozen? a=false):(store a (trv t)).run prog w=.ok () (w.setCell a (trv t)):=by
 rcases Qd2 t with h|⟨k,v,h⟩
 ·rw[h];simp [go_sem,hc,hf]
 rw[h];simp [go_sem,hc,hf]
structure RwI (w0:World) (enc:Int) (b c:ByteArray) (t:Option Nd) (R:List (Cn × ByteArray)) (w:World):Prop where
 row:w.heap[w0.heap.size+1]?=some (.cells #[trv t] 89)
 res:w.heap[w0.heap.size]?=some (.cells #[.nilIface] 89)
 tr:TrAt w enc t R
 wh:Vm.Wh enc c.data.toList
 bytes:rowB R++c.data.toList=b.data.toList
 atoms:rowA enc R++Vm.atoms enc c.data.toList=Vm.atoms enc b.data.toList
 len:R.length+c.size<=b.size
 gd:Gd R
 low:Below w0.heap.size w0 w
section
variable {w0 w w':World} {enc:Int} {b c:ByteArray} {t:Option Nd} {R:List (Cn × ByteArray)}
theorem RwI.step (h:RwI w0 enc b c t R w) (hb:Below w.heap.size w w'):RwI w0 enc b c t R w' :=
 ⟨(hb.block _ (Z4 h.row)).trans h.row,(hb.block _ (Z4 h.res)).trans h.res,h.tr.low hb,h.wh,h.bytes,h.atoms,h.len,h.gd,h.low.trans (hb.mono h.low.size)⟩
theorem RwI.set (h:RwI w0 enc b c t R w) {c':ByteArray} {t':Option Nd} {R':List (Cn × ByteArray)} (htr:TrAt w enc t' R') (hwh:Vm.Wh enc c'.data.toList) (hby:rowB R'++c'.data.toList=b.data.toList) (hat:rowA enc R'++Vm.atoms enc c'.data.toList=Vm.atoms enc b.data.toList) (hle:R'.length+c'.size<=b.size) (hgd:Gd R'):RwI w0 enc b c' t' R' (w.setCell ⟨w0.heap.size+1,0,none⟩ (trv t')):=by
 have t1:Tn (w0.heap.size+1) w (w.setCell ⟨w0.heap.size+1,0,none⟩ (trv t')):=(Tn.refl _ _).setCell _
 have nb:NoNd w (w0.heap.size+1):=by
  have ht:tyAt w (w0.heap.size+1)=some 89:=by unfold tyAt;rw[h.row]
  unfold NoNd;rw[ht];exact⟨by decide,by decide⟩
 refine⟨?_,(t1.keep _ (Z4 h.res) (by omega)).trans h.res,htr.tn2 nb t1,hwh,hby,hat,hle,hgd,h.low.setCell (p:=⟨w0.heap.size+1,0,none⟩) (by show w0.heap.size<=w0.heap.size+1;omega) _⟩;show (w.heap.modify (w0.heap.size+1) _)[w0.heap.size+1]?=_;rw[Array.getElem?_modify,if_pos rfl,h.row];rfl
end
theorem QnO (n:Nat) (hn:1<=n):∃lv sz:Nat,lv=(n+999) / 1000/\sz=(n+lv - 1) / lv/\1<=lv/\1<=sz/\sz<=n/\((n<=1000/\sz=n)\/(1000<n/\9<=sz)):=by
 refine⟨(n+999) / 1000,(n+(n+999) / 1000 - 1) / ((n+999) / 1000),rfl,rfl,by omega,?_⟩;obtain⟨lv,hlv⟩:∃lv,lv=(n+999) / 1000:=⟨_,rfl⟩;rw[<-hlv];have h1:1<=lv:=by omega
 obtain⟨sz,hsz⟩:∃sz,sz=(n+lv - 1) / lv:=⟨_,rfl⟩;rw[<-hsz]
 have hm:n<=lv * sz:=by
  have:=Nat.div_add_mod (n+lv - 1) lv;have h2:=Nat.mod_lt (n+lv - 1) (show 0<lv by omega);rw[<-hsz] at this;omega
 have hle:lv * sz<=n+lv - 1:=by
  have:=Nat.div_mul_le_self (n+lv - 1) lv;rw[<-hsz,Nat.mul_comm] at this;exact this
 have hs1:1<=sz:=by
  rcases Nat.eq_zero_or_pos sz with q|q
  ·rw[q] at hm;omega
  exact q
 have hsn:sz<=n:=by
  rw[hsz];apply Nat.div_le_of_le_mul;have:lv * 1<=lv * n:=Nat.mul_le_mul_left lv hn;have h3:n * 1<=n * lv:=Nat.mul_le_mul_left n h1;rw[Nat.mul_comm n lv] at h3;rcases Nat.lt_or_ge lv 2 with q|q
  ·obtain rfl:lv=1:=by omega
   omega
  rcases Nat.lt_or_ge n 2 with q2|q2
  ·omega
  have h4:lv * 2<=lv * n:=Nat.mul_le_mul_left lv q2;have h5:n * 2<=n * lv:=Nat.mul_le_mul_left n q;rw[Nat.mul_comm n lv] at h5;omega
 refine⟨hs1,hsn,?_⟩;by_cases hn1:n<=1000
 ·left;obtain rfl:lv=1:=by omega
  omega
 right;refine⟨by omega,?_⟩;rcases Nat.lt_or_ge sz 9 with q|q
 ·have:lv * sz<=lv * 8:=Nat.mul_le_mul_left lv (by omega);omega
 exact q
theorem QmX {l:Vm.Bytes} {n sz v:Nat} {A0:List Vm.At} (hn:l.length=n) (h1:1<=n) (hs:(n<=1000/\sz=n)\/(1000<n/\9<=sz)) (hszn:sz<=n) (hv:v=min (sz+4) n) (hw:Vm.Wh enc l) (hp:A0 <+: Vm.atoms enc (l.take v)) (hle:Vm.sizeA A0<=sz)
  (hor:A0=Vm.atoms enc (l.take v)\/∃x,A0++[x] <+: Vm.atoms enc (l.take v)/\sz<Vm.sizeA (A0++[x])) :
  1<=Vm.sizeA A0/\Vm.atoms enc l=A0++Vm.atoms enc (l.drop (Vm.sizeA A0))/\Vm.Wh enc (l.drop (Vm.sizeA A0)):=by
 have hall:A0 <+: Vm.atoms enc l:=by
  by_cases e:v=n
  ·rwa [e,<-hn,List.take_length] at hp
  have hvl:v=sz+4:=by omega
  have:=Vm.Qen (r:=l.drop v) hp (by rw[List.length_take];omega);rw[List.take_append_drop] at this;rw[this];exact⟨_,rfl⟩
 obtain⟨c1,c2⟩:=Vm.QaC hall
 have hpos:1<=Vm.sizeA A0:=by
  rcases hs with ⟨q1,q2⟩|⟨q1,q2⟩
  ·have hvn:v=n:=by omega
   rw[hvn,<-hn,List.take_length] at hor;rcases hor with q|⟨x,hx,hlt⟩
   ·rw[q,Vm.QcQ hw];omega
   have:=Vm.QaE hx;omega
  rcases hor with q|⟨x,hx,hlt⟩
  ·have hne:=Vm.QjZ enc (l.take v) (by rw[List.length_take];omega);rw[<-q] at hne;rcases Nat.eq_zero_or_pos (Vm.sizeA A0) with z|z
   ·exact absurd (Vm.Qeu (fun a ha=>Vm.Qao enc l a (hall.subset ha)) z) hne
   exact z
  have hxo:=Vm.Qao enc (l.take v) x (hx.subset (by simp));rw[Vm.Qay] at hlt;have:=hxo.2.2.2.2.2.2.2;omega
 refine⟨hpos,c2,?_⟩
 have hsl:=Vm.QaE hall
 have hwt:Vm.Wh enc (l.take (Vm.sizeA A0)):=Vm.wh_of (by rw[c1,List.length_take];omega)
 unfold Vm.Wh at hw hwt ⊢
 rw[List.length_take] at hwt
 rw[List.length_drop]
 omega
theorem Qip (enc:Int) (b:ByteArray) (w:World) (ht:Tabs w) (hb:b.size<=1099511627776) (h0:0<=enc) (h3:enc<=3) (hw:Vm.Wh enc b.data.toList) :
  Calls prog 133 #[.int .i64 enc,.string b,.int .i64 1000] w fun e w'=>∃t R,e=.returned (.agg #[trv t])/\TrAt w' enc t R/\rowB R=b.data.toList/\rowA enc R=Vm.atoms enc b.data.toList/\R.length<=b.size/\Gd R/\Below w.heap.size w w':=by
 have HT:=Z1 ht
 have hI0:RwI w enc b b none [] ((w.alloc (.cells #[.nilIface] 89)).alloc (.cells #[.nilIface] 89)):=by
  have hb0:Below w.heap.size w ((w.alloc (.cells #[.nilIface] 89)).alloc (.cells #[.nilIface] 89)):=(Z7 _ _).alloc (by simp) _;refine⟨?_,?_,⟨fun n hn=>(by cases hn),fun _=>rfl,fun x hx=>(by cases hx)⟩,hw,rfl,rfl,by simp,Gd.nil,hb0⟩
  ·have:=Go.Deep.blk_alloc_new (w.alloc (.cells #[.nilIface] 89)) (.cells #[.nilIface] 89);rwa [World.size_alloc] at this
  rw[Below.heap_alloc _ _ _ (by simp)];exact Go.Deep.blk_alloc_new _ _
 have HI0:=Z1 hI0
 clear hI0 ht hw
 go_enter func133,ntmps133
 go_wp2_with fail
 go_loopg [1] (b.size) (fun k s1 wx=>∃(c:ByteArray) (t:Option Nd) (R:List (Cn × ByteArray)),k=c.size/\s1=.string c/\RwI w enc b c t R wx)
 case atStart=>exact⟨b,none,[],rfl,rfl,HI0.o⟩
 case round =>
  obtain⟨c,t,R,rfl,rfl,hI⟩:=hrel;have HI:=Z1 hI;clear hI HI0;have r0:=C0 HI.o.row;have e0:=C0 HI.o.res;have ef:wr.frozen? ⟨w.heap.size,0,none⟩=false:=Lib.frozen_of_heap HI.o.res 0;have rz:=Z3 r0;by_cases hz:c.size=0
  ·obtain rfl:c=⟨#[]⟩:=by
    cases c with|mk a=>congr;exact Array.eq_empty_of_size_eq_zero hz
   have HTR:=Z1 HI.o.tr;have hby:=HI.o.bytes;have hat:=HI.o.atoms;have hln:=HI.o.len;have HGD:=Z1 HI.o.gd;have HLW:=Z1 (HI.o.low.setCell (p:=⟨w.heap.size,0,none⟩) (Z6 _) (trv t));have htn:Tn w.heap.size wr (wr.setCell ⟨w.heap.size,0,none⟩ (trv t)):=(Tn.refl _ _).setCell _
   have nb:NoNd wr w.heap.size:=by
    have h:tyAt wr w.heap.size=some 89:=by unfold tyAt;rw[HI.o.res]
    unfold NoNd;rw[h];exact⟨by decide,by decide⟩
   have HTF:=Z1 (HI.o.tr.tn2 nb htn);have hse:(wr.setCell ⟨w.heap.size,0,none⟩ (trv t)).cell? ⟨w.heap.size,0,none⟩=some (trv t):=World.cell?_setCell_same' _ _ _ (by rw[e0];rfl);have hst:=Qaq t e0 ef;clear htn nb;generalize htv:trv t=tv at *;have HTV:=Z1 htv;clear htv;go_wp2_with fail;refine bodyPost_ret (v:=.agg #[tv]) (by simp [results,Tryz.results133,go_sem,hse]) rfl ⟨t,by rw[HTV.o],R,HTF.o,by simpa using hby,?_,Nat.le_trans (Nat.le_add_right _ _) hln,HGD.o,HLW.o⟩;have:Vm.atoms enc []=[]:=by show Vm.atomsF 0 (Vm.signs enc [])=[];rw[Vm.QaB];rfl
   have h:=hat;simp only[this,List.append_nil] at h;exact h
  have hre:c.toList.isEmpty=false:=by
   cases hc:c.toList.isEmpty with
   |false=>rfl
   |true =>
    rw[ByteArray.toList_eq,List.isEmpty_iff] at hc;have:c.data.toList.length=c.size:=rfl;rw[hc] at this;exact absurd this.symm hz
  obtain⟨lv,sz,hlv,hsz,g1,g2,g3,g4⟩:=QnO c.size (by omega);have hcs:c.size<=b.size:=by have:=HI.o.len;omega
  obtain⟨v,hv⟩:∃v,v=min (sz+4) c.size:=⟨_,rfl⟩
  have q1:((c.size:Int)+1000 - 1).tdiv 1000=(lv:Int):=by
   rw[Int.tdiv_eq_ediv_of_nonneg (by omega)];omega
  have q2:((c.size:Int)+(lv:Int) - 1).tdiv (lv:Int)=(sz:Int):=by
   rw[Int.tdiv_eq_ediv_of_nonneg (by omega),hsz,Int.natCast_ediv];congr 1;omega
  have q3:¬(lv:Int)=0:=by omega
  have q4:min ((sz:Int)+4) (c.size:Int)=(v:Int):=by omega
  have q5:(v:Int)<=(c.size:Int):=by omega
  have q6:(0:Int)<=(v:Int):=by omega
  have hlvb:lv<=c.size:=by omega
  have HG:=Z1 g4;have HV:=Z1 hv;clear hlv hsz hv g4;have hes:(c.extract 0 v).size=v:=by simp [ByteArray.size_extract];omega
  have hel:(c.extract 0 v).data.toList=c.data.toList.take v:=by
   rw[ByteArray.data_extract,Array.toList_extract,List.extract_eq_take_drop,List.drop_zero,Nat.sub_zero]
  have hcl:c.data.toList.length=c.size:=rfl;go_wp2_with fail;refine (Qmn (c.extract 0 v) wr (by omega)).mono ?_;rintro e w1 ⟨rfl,hb1⟩;have H1:=Z1 (HI.o.step hb1);go_wp2_with fail;refine (Qhg enc (c.extract 0 v) sz w1 (HT.o.below H1.o.low) (by omega) (by omega) h0 h3).mono ?_;rintro e w2 ⟨Bk,A0,rfl,hpre,hsa,hor,hin,hb2⟩;obtain⟨htr,hrb,hra⟩:=QeI hpre hin;rw[hel] at hpre hor hrb;obtain⟨k1,k2,k3⟩:=QmX hcl (by omega) HG.o g3 HV.o HI.o.wh hpre hsa hor;have H2:=Z1 (H1.o.step hb2);have HTR:=Z1 htr;have HK2:=Z1 k2;have HK3:=Z1 k3;have hsv:Vm.sizeA A0<=v:=by have:=Vm.QaE hpre;rw[List.length_take] at this;omega
  clear hb1 hb2 H1 hin hpre hor htr r0 e0 ef rz k2 k3;have hba:=Z7 w2 (.cells #[.iface 184 (.pointer (some ⟨Bk,0,none⟩))] 89);have H3:=Z1 (H2.o.step hba);have HTR3:=Z1 (HTR.o.low hba);have lc:(w2.alloc (.cells #[.iface 184 (.pointer (some ⟨Bk,0,none⟩))] 89)).cell? ⟨w2.heap.size,0,none⟩=some (.iface 184 (.pointer (some ⟨Bk,0,none⟩))):=by simp [go_sem]
  have r3:=C0 H2.o.row;have rz3:=Z3 r3;have hlb:=congrArg List.length HI.o.bytes;rw[List.length_append] at hlb;have hbl:b.data.toList.length=b.size:=rfl;have hrl:=HI.o.len;have HJ:=Z1 (QbG enc t (some (Nd.leaf Bk (cnOf A0) ((c.extract 0 v).extract 0 (Vm.sizeA A0)))) R [(cnOf A0,(c.extract 0 v).extract 0 (Vm.sizeA A0))] _ H3.o.tr HTR3.o (by rw[hrb,List.length_take];omega) (by simp;omega));simp only[QbF] at HJ;clear hba;generalize htv:trv t=tv at *;have HTV:=Z1 htv;clear htv;go_wp2_with fail;refine HJ.o.mono ?_;rintro e w4 ⟨t',R',hj⟩;obtain rfl:=hj.val;have H4:=Z1 (H3.o.step hj.below);have r4:=C0 H4.o.row;have f4:w4.frozen? ⟨w.heap.size+1,0,none⟩=false:=Lib.frozen_of_heap H4.o.row 0;have rz4:=Z3 r4;have hst:=Qaq t' r4 f4;have lc4:=(hj.below.cell (p:=⟨w2.heap.size,0,none⟩) (Z3 lc)).trans lc;have lz4:=Z3 lc4
  have hrow:(c.extract (Vm.sizeA A0) c.size).data.toList=c.data.toList.drop (Vm.sizeA A0):=by
   rw[ByteArray.data_extract,Array.toList_extract,List.extract_eq_take_drop];exact List.take_of_length_le (by rw[List.length_drop];exact Z6 _)
  have hrs:(c.extract (Vm.sizeA A0) c.size).size=c.size - Vm.sizeA A0:=by
   have:(c.extract (Vm.sizeA A0) c.size).data.toList.length=(c.extract (Vm.sizeA A0) c.size).size:=rfl;rw[<-this,hrow,List.length_drop];omega
  have hjl:=hj.len
  have H5:=Z1 (H4.o.set (c':=c.extract (Vm.sizeA A0) c.size) hj.at_ (by rw[hrow];exact HK3.o)
   (by rw[hj.bytes,hrb,hrow,List.append_assoc,List.take_take,Nat.min_eq_left hsv,List.take_append_drop];exact HI.o.bytes)
   (by rw[hj.atoms,hra,hrow,List.append_assoc,<-HK2.o];exact HI.o.atoms)
   (by rw[hrs];simp at hjl;omega) (hj.gd HI.o.gd (Gd.one _)))
  have t1:Tn (w.heap.size+1) w4 (w4.setCell ⟨w.heap.size+1,0,none⟩ (trv t')):=(Tn.refl _ _).setCell _
  have nb:NoNd w4 (w.heap.size+1):=by
   have h:tyAt w4 (w.heap.size+1)=some 89:=by unfold tyAt;rw[H4.o.row]
   unfold NoNd;rw[h];exact⟨by decide,by decide⟩
  have HC:=Z1 ((HTR3.o.low hj.below).tn2 nb t1).counts;rw[hra] at HC;simp only[QbF,cnOf,Cn.val] at HC;have fb:=QaA;have hne:w2.heap.size≠w.heap.size+1:=by omega
  clear t1 nb H4 HJ hj HTR HTR3 H2 H3 hjl lc;generalize htv':trv t'=tv' at *;have HTV':=Z1 htv';clear htv';go_wp2_with fail;refine HC.o.mono ?_;rintro e w6 ⟨rfl,hb6⟩;have HF:=Z1 (H5.o.step hb6);clear hb6 HC H5 r4 f4 hst lc4;have p1:(Vm.sizeA A0:Int)<=(c.size:Int):=by omega
  have p2:(0:Int)<=(Vm.sizeA A0:Int):=by omega
  generalize Vm.sizeA A0=sa at *;go_wp2_with fail;go_roundg (c.extract sa c.size).size
  case measure=>omega
  case rel=>exact⟨_,t',R',rfl,rfl,HF.o⟩
def Nd.uf:Nd->Nat
 |.leaf _ _ _=>201
 |.inner _ _ _ _ _=>208
def Nd.hf:Nd->Nat
 |.leaf _ _ _=>197
 |.inner _ _ _ _ _=>205
theorem Qf7 (f : Nat) (v : Value) (w : World) : (method (f + 1) 184 v "vellum/atoms.upTo").run prog w = .ok (201, v) w := by kernel_rfl
theorem Qfw (f : Nat) (v : Value) (w : World) : (method (f + 1) 215 v "vellum/atoms.upTo").run prog w = .ok (208, v) w := by kernel_rfl
theorem QeQ (f : Nat) (v : Value) (w : World) : (method (f + 1) 184 v "vellum/atoms.behind").run prog w = .ok (197, v) w := by kernel_rfl
theorem Qed (f : Nat) (v : Value) (w : World) : (method (f + 1) 215 v "vellum/atoms.behind").run prog w = .ok (205, v) w := by kernel_rfl
theorem Qf2 (n : Nd) (f : Nat) (v : Value) (w : World) : (method (f + 1) n.ty v "vellum/atoms.upTo").run prog w = .ok (n.uf, v) w := by
 cases n
 ·exact Qf7 f v w
 exact Qfw f v w
theorem Qdq (n : Nd) (f : Nat) (v : Value) (w : World) : (method (f + 1) n.ty v "vellum/atoms.behind").run prog w = .ok (n.hf, v) w := by
 cases n
 ·exact QeQ f v w
 exact Qed f v w
theorem QfJ (n:Nd) (args:Array Value) (w:World):(callFunc n.uf args).run prog w=.ok (.enter n.uf args) w:=by
 cases n
 ·exact enters_of func201 (by kernel_rfl) rfl args w
 exact enters_of func208 (by kernel_rfl) rfl args w
theorem Qfi (n:Nd) (args:Array Value) (w:World):(callFunc n.hf args).run prog w=.ok (.enter n.hf args) w:=by
 cases n
 ·exact enters_of func197 (by kernel_rfl) rfl args w
 exact enters_of func205 (by kernel_rfl) rfl args w
theorem QlN (B:Nat) (c:Cn) (s:ByteArray) (o:Int) (w:World) (h:(Nd.leaf B c s).In w) :
  Calls prog 201 #[.pointer (some ⟨B,0,none⟩),.int .i64 o] w fun e w'=>e=.returned (.agg #[trv (if o<c.body then none else some (Nd.leaf B c s))])/\Below w.heap.size w w':=by
 have c0:=C0 h
 have hz:=Z3 c0
 have hba:=Z7 w (.cells #[.nilIface] 89)
 have HB:=Z1 hba
 clear h hba
 by_cases ho:o<(c.body:Int)
 ·rw[if_pos ho];simp only[trv];go_enter func201,ntmps201;go_wp2_with fail;refine bodyPost_ret (v:=.agg #[.nilIface]) (by simp [results,Tryz.results201,go_sem]) rfl ⟨rfl,HB.o⟩
 rw[if_neg ho]
 simp only[trv,Nd.ty,Nd.blk]
 go_enter func201,ntmps201
 go_wp2_with fail
 refine bodyPost_ret (v:=.agg #[.iface 184 (.pointer (some ⟨B,0,none⟩))]) (by simp [results,Tryz.results201,go_sem]) rfl ⟨rfl,Z7 _ _⟩
theorem Qit (B:Nat) (c:Cn) (s:ByteArray) (o:Int) (w:World) :
  Calls prog 197 #[.pointer (some ⟨B,0,none⟩),.int .i64 o] w fun e w'=>e=.returned (.agg #[trv (if 0<o then none else some (Nd.leaf B c s))])/\Below w.heap.size w w':=by
 have hba:=Z7 w (.cells #[.nilIface] 89)
 have HB:=Z1 hba
 clear hba
 by_cases ho:0<o
 ·rw[if_pos ho];simp only[trv];go_enter func197,ntmps197;go_wp2_with fail;refine bodyPost_ret (v:=.agg #[.nilIface]) (by simp [results,Tryz.results197,go_sem]) rfl ⟨rfl,HB.o⟩
 rw[if_neg ho]
 simp only[trv,Nd.ty,Nd.blk]
 go_enter func197,ntmps197
 go_wp2_with fail
 refine bodyPost_ret (v:=.agg #[.iface 184 (.pointer (some ⟨B,0,none⟩))]) (by simp [results,Tryz.results197,go_sem]) rfl ⟨rfl,Z7 _ _⟩
def UpTo (enc:Int) (n:Nd):Prop:=∀(o:Int) (w:World),n.In w->-4611686018427387904<=o->o<=4611686018427387904 ->
 Calls prog n.uf #[.pointer (some ⟨n.blk,0,none⟩),.int .i64 o] w fun e w'=>∃t R1 Ra Rb,e=.returned (.agg #[trv t])/\TrAt w' enc t R1/\n.row=Ra++Rb/\rowB R1=rowB Ra/\rowA enc R1=rowA enc Ra/\R1.length<=Ra.length/\((rowB Ra).length=0\/((rowB Ra).length:Int)<=o)/\(Gd n.row->Gd R1)/\Below w.heap.size w w'
def Behind (enc:Int) (n:Nd):Prop:=∀(o:Int) (w:World),n.In w->-4611686018427387904<=o->o<=4611686018427387904 ->
 Calls prog n.hf #[.pointer (some ⟨n.blk,0,none⟩),.int .i64 o] w fun e w'=>∃t R2 Ra Rb,e=.returned (.agg #[trv t])/\TrAt w' enc t R2/\n.row=Ra++Rb/\rowB R2=rowB Rb/\rowA enc R2=rowA enc Rb/\R2.length<=Rb.length/\((rowB Rb).length=0\/o<=((rowB Ra).length:Int))/\(Gd n.row->Gd R2)/\Below w.heap.size w w'
theorem TrAt.one (h:n.In w) (ho:n.Ok) (hl:∀x∈n.row,LeafOk enc x):TrAt w enc (some n) n.row:=⟨fun m hm=>by cases hm;exact⟨h,ho,rfl⟩,fun h=>(by cases h),hl⟩
theorem TrAt.no (w:World) (enc:Int):TrAt w enc none []:=⟨fun n hn=>(by cases hn),fun _=>rfl,fun x hx=>(by cases hx)⟩
theorem QlX (enc:Int) (B:Nat) (c:Cn) (s:ByteArray) (ho:(Nd.leaf B c s).Ok) (hl:∀x∈(Nd.leaf B c s).row,LeafOk enc x):UpTo enc (Nd.leaf B c s):=by
 intro o w hin _ _;refine (QlN B c s o w hin).mono ?_;rintro e w' ⟨rfl,hb⟩;have hcs:c.body=s.size:=ho;by_cases h:o<(c.body:Int)
 ·rw[if_pos h];exact⟨none,[],[],_,rfl,TrAt.no _ _,rfl,rfl,rfl,Z6 _,.inl rfl,fun _=>Gd.nil,hb⟩
 rw[if_neg h];refine⟨_,[(c,s)],[(c,s)],[],rfl,TrAt.one (Nd.low hb hin) ho hl,rfl,rfl,rfl,Z6 _,.inr ?_,fun h=>h,hb⟩;have:(rowB [(c,s)]).length=s.size:=by simp [rowB]
 omega
theorem QiH (enc:Int) (B:Nat) (c:Cn) (s:ByteArray) (ho:(Nd.leaf B c s).Ok) (hl:∀x∈(Nd.leaf B c s).row,LeafOk enc x):Behind enc (Nd.leaf B c s):=by
 intro o w hin _ _;refine (Qit B c s o w).mono ?_;rintro e w' ⟨rfl,hb⟩;by_cases h:0<o
 ·rw[if_pos h];exact⟨none,[],[(c,s)],[],rfl,TrAt.no _ _,rfl,rfl,rfl,Z6 _,.inl rfl,fun _=>Gd.nil,hb⟩
 rw[if_neg h];exact⟨_,[(c,s)],[],[(c,s)],rfl,TrAt.one (Nd.low hb hin) ho hl,rfl,rfl,rfl,Z6 _,.inr (by simpa [rowB] using h),fun h=>h,hb⟩
structure UpI (w0:World) (n:Nd) (w:World):Prop where
 nd:n.In w
 res:w.heap[w0.heap.size]?=some (.cells #[.nilIface] 89)
 low:Below w0.heap.size w0 w
theorem UpI.step (h:UpI w0 n w) (hb:Below w.heap.size w w'):UpI w0 n w' :=
 ⟨Nd.low hb h.nd,(hb.block _ (Z4 h.res)).trans h.res,h.low.trans (hb.mono h.low.size)⟩
theorem UpI.start (h:n.In w):UpI w n (w.alloc (.cells #[.nilIface] 89)) :=
 ⟨Nd.low (Z7 _ _) h,Go.Deep.blk_alloc_new _ _,Z7 _ _⟩
theorem UpI.put (h:UpI w0 n w) (t:Option Nd):(store ⟨w0.heap.size,0,none⟩ (trv t)).run prog w=.ok () (w.setCell ⟨w0.heap.size,0,none⟩ (trv t))/\(w.setCell ⟨w0.heap.size,0,none⟩ (trv t)).cell? ⟨w0.heap.size,0,none⟩=some (trv t)/\Below w0.heap.size w0 (w.setCell ⟨w0.heap.size,0,none⟩ (trv t))/\∀{enc:Int} {t':Option Nd} {R:List (Cn × ByteArray)},TrAt w enc t' R->TrAt (w.setCell ⟨w0.heap.size,0,none⟩ (trv t)) enc t' R:=by
 have e0:=C0 h.res;have ef:w.frozen? ⟨w0.heap.size,0,none⟩=false:=Lib.frozen_of_heap h.res 0;refine⟨Qaq t e0 ef,World.cell?_setCell_same' _ _ _ (by rw[e0];rfl),h.low.setCell (p:=⟨w0.heap.size,0,none⟩) (Z6 _) _,fun htr=>?_⟩
 have nb:NoNd w w0.heap.size:=by
  have h:tyAt w w0.heap.size=some 89:=by unfold tyAt;rw[h.res]
  unfold NoNd;rw[h];exact⟨by decide,by decide⟩
 exact htr.tn2 nb ((Tn.refl _ _).setCell _)
structure UpR (w0 w:World):Prop where
 low:Below w0.heap.size w0 w
 res:∃v,w.cell? ⟨w0.heap.size,0,none⟩=some v
 fr:w.frozen? ⟨w0.heap.size,0,none⟩=false
 ty:tyAt w w0.heap.size=some 89
theorem UpI.r (h:UpI w0 n w):UpR w0 w:=⟨h.low,⟨_,by rw[Lib.cell_of_heap h.res];rfl⟩,Lib.frozen_of_heap h.res 0,by unfold tyAt;rw[h.res]⟩
theorem UpR.step (h:UpR w0 w) (hb:Below w.heap.size w w'):UpR w0 w':=by
 obtain⟨v,hv⟩:=h.res;have hz:=Z3 hv;exact⟨h.low.trans (hb.mono h.low.size),⟨v,(hb.cell (p:=⟨w0.heap.size,0,none⟩) hz).trans hv⟩,(hb.frozen (p:=⟨w0.heap.size,0,none⟩) hz).trans h.fr,by rw[QdD hz hb];exact h.ty⟩
theorem UpR.put (h:UpR w0 w) (t:Option Nd):(store ⟨w0.heap.size,0,none⟩ (trv t)).run prog w=.ok () (w.setCell ⟨w0.heap.size,0,none⟩ (trv t))/\(w.setCell ⟨w0.heap.size,0,none⟩ (trv t)).cell? ⟨w0.heap.size,0,none⟩=some (trv t)/\UpR w0 (w.setCell ⟨w0.heap.size,0,none⟩ (trv t))/\∀{enc:Int} {t':Option Nd} {R:List (Cn × ByteArray)},TrAt w enc t' R->TrAt (w.setCell ⟨w0.heap.size,0,none⟩ (trv t)) enc t' R:=by
 obtain⟨v,hv⟩:=h.res;have hc:(w.setCell ⟨w0.heap.size,0,none⟩ (trv t)).cell? ⟨w0.heap.size,0,none⟩=some (trv t):=World.cell?_setCell_same' _ _ _ (by rw[hv];rfl);refine⟨Qaq t hv h.fr,hc,⟨h.low.setCell (p:=⟨w0.heap.size,0,none⟩) (Z6 _) _,⟨_,hc⟩,by rw[World.frozen?_setCell];exact h.fr,by rw[Qb9];exact h.ty⟩,fun htr=>?_⟩;have nb:NoNd w w0.heap.size:=by unfold NoNd;rw[h.ty];exact⟨by decide,by decide⟩
 exact htr.tn2 nb ((Tn.refl _ _).setCell _)
section
variable {w0 w1 w2:World} {B:Nat} {l r:Nd}
theorem QcU (H:w1.cell? ⟨B,9,none⟩=some (.iface l.ty (.pointer (some ⟨l.blk,0,none⟩)))/\w1.cell? ⟨B,10,none⟩=some (.iface r.ty (.pointer (some ⟨r.blk,0,none⟩)))/\UpR w0 w1) (hb:Below w1.heap.size w1 w2):w2.cell? ⟨B,9,none⟩=some (.iface l.ty (.pointer (some ⟨l.blk,0,none⟩)))/\w2.cell? ⟨B,10,none⟩=some (.iface r.ty (.pointer (some ⟨r.blk,0,none⟩)))/\UpR w0 w2 :=
 ⟨(hb.cell (p:=⟨B,9,none⟩) (Z3 H.1)).trans H.1,(hb.cell (p:=⟨B,10,none⟩) (Z3 H.2.1)).trans H.2.1,H.2.2.step hb⟩
theorem Qex (H:w1.cell? ⟨B,9,none⟩=some (.iface l.ty (.pointer (some ⟨l.blk,0,none⟩)))/\w1.cell? ⟨B,10,none⟩=some (.iface r.ty (.pointer (some ⟨r.blk,0,none⟩)))/\UpR w0 w1):w1.drew.cell? ⟨B,9,none⟩=some (.iface l.ty (.pointer (some ⟨l.blk,0,none⟩)))/\w1.drew.cell? ⟨B,10,none⟩=some (.iface r.ty (.pointer (some ⟨r.blk,0,none⟩)))/\UpR w0 w1.drew:=QcU H ((Below.refl _ _).drew)
theorem Qmf (H:w1.cell? ⟨B,9,none⟩=some (.iface l.ty (.pointer (some ⟨l.blk,0,none⟩)))/\w1.cell? ⟨B,10,none⟩=some (.iface r.ty (.pointer (some ⟨r.blk,0,none⟩)))/\UpR w0 w1) (hB:B<w0.heap.size) (t:Option Nd):(w1.setCell ⟨w0.heap.size,0,none⟩ (trv t)).cell? ⟨B,9,none⟩=some (.iface l.ty (.pointer (some ⟨l.blk,0,none⟩)))/\(w1.setCell ⟨w0.heap.size,0,none⟩ (trv t)).cell? ⟨B,10,none⟩=some (.iface r.ty (.pointer (some ⟨r.blk,0,none⟩)))/\UpR w0 (w1.setCell ⟨w0.heap.size,0,none⟩ (trv t)) :=
 ⟨by rw[World.cell?_setCell_other _ _ _ _ (by intro e;injection e with e1 e2;omega)];exact H.1,by rw[World.cell?_setCell_other _ _ _ _ (by intro e;injection e with e1 e2;omega)];exact H.2.1,(H.2.2.put t).2.2.1⟩
theorem Up_r (H:w1.cell? ⟨B,9,none⟩=some (.iface l.ty (.pointer (some ⟨l.blk,0,none⟩)))/\w1.cell? ⟨B,10,none⟩=some (.iface r.ty (.pointer (some ⟨r.blk,0,none⟩)))/\UpR w0 w1):UpR w0 w1:=H.2.2
end
theorem QkS (enc:Int) (B:Nat) (c:Cn) (k:Nat) (l r:Nd) (ho:(Nd.inner B c k l r).Ok) (hl:∀x∈(Nd.inner B c k l r).row,LeafOk enc x) (hsz:(rowB (Nd.inner B c k l r).row).length<=1099511627776) (hln:(Nd.inner B c k l r).row.length<=1099511627776) (ihl:UpTo enc l) (ihr:UpTo enc r):UpTo enc (Nd.inner B c k l r):=by
 intro o w hin hlo hhi;have e0:(Nd.inner B c k l r).row=l.row++r.row:=rfl;rw[e0] at hl hsz hln;rw[Qaf,List.length_append] at hsz;rw[List.length_append] at hln;have hll:∀x∈l.row,LeafOk enc x:=fun x hx=>hl x (by simp [hx]);have hlr:∀x∈r.row,LeafOk enc x:=fun x hx=>hl x (by simp [hx]);have hcl:l.cn=cnOf (rowA enc l.row):=Nd.cn_row enc ho.2.2.1 hll;have HLB:=Z1 (show l.cn.body=(rowB l.row).length by rw[hcl];exact Qae hll);clear hcl;obtain⟨p9,p10⟩:=Qal hin;have hbz:=Z4 hin.1;have hm1:=Qf2 l 362;have hm2:=Qf2 r 362;have he1:=QfJ l;have he2:=QfJ r;have fb:=QaA;have HI:=Z1 hin;have HI0:=Z1 hin;have HOL:=Z1 ho.2.2.1;have HLL:=Z1 hll;have HLR:=Z1 hlr;have HIL:=Z1 ihl;have HIR:=Z1 ihr;clear hin ihl ihr hll hlr hl;show Calls prog 208 #[.pointer (some ⟨B,0,none⟩),.int .i64 o] w _;go_enter func208,ntmps208;go_wp2_with fail;have H0:=Z1 (UpI.start HI.o);rw[Qa0 l 362 _ H0.o.nd.2.1];go_wp2_with fail;refine (Qbn l.cn _).mono ?_;rintro e w1 ⟨rfl,hb1⟩;have H1:=Z1 (H0.o.step hb1);clear hb1 H0 p9 p10 HI;obtain⟨p9,p10⟩:=Qal H1.o.nd;have hbz1:=Z4 H1.o.nd.1;have hlb:=HLB.o;generalize hlcn:l.cn=lc at *;obtain⟨d0,d1,d2,d3,d4,d5,d6,d7⟩:=lc;simp only[Cn.val] at hlb ⊢;clear hlcn;have HAH:=Z1 hlb;obtain⟨ah,hah⟩:∃ah,ah=(rowB l.row).length:=⟨_,rfl⟩;rw[<-hah] at hlb hsz;have HAH2:=Z1 hah;clear hah;subst hlb;by_cases hlt:o<(d0:Int)
 ·go_wp2_with fail;refine (HIL.o o w1 H1.o.nd.2.1 hlo hhi).mono ?_;rintro e w2 ⟨t,R1,Ra,Rb,rfl,htr,hrow,hrb,hra,hlen,hle,hgd,hb2⟩;have H2:=Z1 (H1.o.step hb2);obtain⟨u1,u2,u3,u4⟩:=H2.o.r.put t;have HU3:=Z1 u3.low;have HU4:=Z1 (u4 htr);have HR:=Z1 hrow;clear u3 u4 p9 p10 hb2 H1 HIL HIR hm1 hm2 he1 he2 hrow;generalize htv:trv t=tv at *;have HTV:=Z1 htv;clear htv;go_wp2_with fail;refine bodyPost_ret (v:=.agg #[tv]) (by simp [results,Tryz.results208,go_sem,u2]) rfl ⟨t,R1,Ra,Rb++r.row,by rw[HTV.o],HU4.o,by rw[e0,HR.o,List.append_assoc],hrb,hra,hlen,hle,fun h=>hgd (Gd.left (e0 ▸ h)),HU3.o⟩
 have hw1:IntKind.i64.wrap (o - (d0:Int))=o - (d0:Int):=by rw[IntKind.wrap_i64];omega
 have HIN:=Z1 (fun X (hX:UpR w X)=>Nd.low hX.low HI0.o);have HS:=Z1 (show w1.cell? ⟨B,9,none⟩=some (.iface l.ty (.pointer (some ⟨l.blk,0,none⟩)))/\w1.cell? ⟨B,10,none⟩=some (.iface r.ty (.pointer (some ⟨r.blk,0,none⟩)))/\UpR w w1 from ⟨p9,p10,H1.o.r⟩);have hSd:=Qex HS.o;clear H1 HI0;go_wp2_with fail
 go_region_held3 (fun w'=>w'.cell? ⟨B,9,none⟩=some (.iface l.ty (.pointer (some ⟨l.blk,0,none⟩)))/\w'.cell? ⟨B,10,none⟩=some (.iface r.ty (.pointer (some ⟨r.blk,0,none⟩)))/\UpR w w')
  (first|with_reducible assumption|with_reducible exact HS.o|with_reducible exact Qex HS.o|with_reducible exact Qmf hS3 hbz t3)
  (first
   |(go_at_call 82;refine (QbG enc (some l) t2 l.row R2 _ (TrAt.one (HIN.o _ (Up_r (by assumption))).2.1 HOL.o HLL.o) htr2 (by rw[hrb2];have:=congrArg (fun z=>(rowB z).length) hrow2;simp only[Qaf,List.length_append] at this;rw[<-HAH2.o];omega) (by have:=congrArg List.length hrow2;simp only[List.length_append] at this;omega)).mono ?_;rintro e w3 ⟨t3,R3,hj⟩;obtain rfl:=hj.val;have hS3:=QcU (by assumption) hj.below;obtain⟨x1,x2,x3,x4⟩:=(Up_r hS3).put t3)
   |(refine (HIR.o (o - (d0:Int)) _ (HIN.o _ (Up_r (by assumption))).2.2 (by omega) (by omega)).mono ?_;rintro e w2 ⟨t2,R2,Ra,Rb,rfl,htr2,hrow2,hrb2,hra2,hlen2,hle2,hgd2,hbl2⟩;have hS2:=QcU (by assumption) hbl2))
 have HX:=Z1 (x4 hj.at_);have HL:=Z1 x3.low;have HJ:=Z1 hj;clear hj x4 x3 hS2 hS3 hSd HS HIR HIL hm1 hm2 he1 he2 p9 p10 x1;go_wp2_with fail;refine bodyPost_ret (v:=.agg #[trv t3]) (by simp [results,Tryz.results208,go_sem,x2]) rfl ⟨t3,R3,l.row++Ra,Rb,rfl,HX.o,by rw[e0,hrow2,List.append_assoc],by rw[HJ.o.bytes,hrb2,Qaf],by rw[HJ.o.atoms,hra2,Qaw],by have:=HJ.o.len;rw[List.length_append];omega,.inr ?_,fun h=>HJ.o.gd (Gd.left (e0 ▸ h)) (hgd2 (Gd.right (e0 ▸ h))),HL.o⟩;rw[Qaf,List.length_append,<-HAH2.o];rcases hle2 with q|q<;>omega
theorem QhB (enc:Int) (B:Nat) (c:Cn) (k:Nat) (l r:Nd) (ho:(Nd.inner B c k l r).Ok) (hl:∀x∈(Nd.inner B c k l r).row,LeafOk enc x) (hsz:(rowB (Nd.inner B c k l r).row).length<=1099511627776) (hln:(Nd.inner B c k l r).row.length<=1099511627776) (ihl:Behind enc l) (ihr:Behind enc r):Behind enc (Nd.inner B c k l r):=by
 intro o w hin hlo hhi;have e0:(Nd.inner B c k l r).row=l.row++r.row:=rfl;rw[e0] at hl hsz hln;rw[Qaf,List.length_append] at hsz;rw[List.length_append] at hln;have hll:∀x∈l.row,LeafOk enc x:=fun x hx=>hl x (by simp [hx]);have hlr:∀x∈r.row,LeafOk enc x:=fun x hx=>hl x (by simp [hx]);have hcl:l.cn=cnOf (rowA enc l.row):=Nd.cn_row enc ho.2.2.1 hll;have HLB:=Z1 (show l.cn.body=(rowB l.row).length by rw[hcl];exact Qae hll);clear hcl;obtain⟨p9,p10⟩:=Qal hin;have hbz:=Z4 hin.1;have hm1:=Qdq l 362;have hm2:=Qdq r 362;have he1:=Qfi l;have he2:=Qfi r;have fb:=QaA;have HI:=Z1 hin;have HI0:=Z1 hin;have HOL:=Z1 ho.2.2.1;have HLL:=Z1 hll;have HOR:=Z1 ho.2.2.2;have HLR:=Z1 hlr;have HIL:=Z1 ihl;have HIR:=Z1 ihr;clear hin ihl ihr hll hlr hl;show Calls prog 205 #[.pointer (some ⟨B,0,none⟩),.int .i64 o] w _;go_enter func205,ntmps205;go_wp2_with fail;have H0:=Z1 (UpI.start HI.o);rw[Qa0 l 362 _ H0.o.nd.2.1];go_wp2_with fail;refine (Qbn l.cn _).mono ?_;rintro e w1 ⟨rfl,hb1⟩;have H1:=Z1 (H0.o.step hb1);clear hb1 H0 p9 p10 HI;obtain⟨p9,p10⟩:=Qal H1.o.nd;have hbz1:=Z4 H1.o.nd.1;have hlb:=HLB.o;generalize hlcn:l.cn=lc at *;obtain⟨d0,d1,d2,d3,d4,d5,d6,d7⟩:=lc;simp only[Cn.val] at hlb ⊢;clear hlcn;have HAH:=Z1 hlb;obtain⟨ah,hah⟩:∃ah,ah=(rowB l.row).length:=⟨_,rfl⟩;rw[<-hah] at hlb hsz;have HAH2:=Z1 hah;clear hah;subst hlb;by_cases hlt:(d0:Int)<=o
 ·have hw1:IntKind.i64.wrap (o - (d0:Int))=o - (d0:Int):=by rw[IntKind.wrap_i64];omega
  go_wp2_with fail;refine (HIR.o (o - (d0:Int)) w1 H1.o.nd.2.2 (by omega) (by omega)).mono ?_;rintro e w2 ⟨t,R1,Ra,Rb,rfl,htr,hrow,hrb,hra,hlen,hle,hgd,hb2⟩;have H2:=Z1 (H1.o.step hb2);obtain⟨u1,u2,u3,u4⟩:=H2.o.r.put t;have HU3:=Z1 u3.low;have HU4:=Z1 (u4 htr);have HR:=Z1 hrow;clear u3 u4 p9 p10 hb2 H1 HIL HIR hm1 hm2 he1 he2 hrow;generalize htv:trv t=tv at *;have HTV:=Z1 htv;clear htv;go_wp2_with fail;refine bodyPost_ret (v:=.agg #[tv]) (by simp [results,Tryz.results205,go_sem,u2]) rfl ⟨t,R1,l.row++Ra,Rb,by rw[HTV.o],HU4.o,by rw[e0,HR.o,List.append_assoc],hrb,hra,hlen,?_,fun h=>hgd (Gd.right (e0 ▸ h)),HU3.o⟩;rw[Qaf,List.length_append,<-HAH2.o];rcases hle with q|q
  ·exact .inl q
  exact .inr (by omega)
 have HIN:=Z1 (fun X (hX:UpR w X)=>Nd.low hX.low HI0.o);have HS:=Z1 (show w1.cell? ⟨B,9,none⟩=some (.iface l.ty (.pointer (some ⟨l.blk,0,none⟩)))/\w1.cell? ⟨B,10,none⟩=some (.iface r.ty (.pointer (some ⟨r.blk,0,none⟩)))/\UpR w w1 from ⟨p9,p10,H1.o.r⟩);have hSd:=Qex HS.o;clear H1 HI0;go_wp2_with fail
 go_region_held3 (fun w'=>w'.cell? ⟨B,9,none⟩=some (.iface l.ty (.pointer (some ⟨l.blk,0,none⟩)))/\w'.cell? ⟨B,10,none⟩=some (.iface r.ty (.pointer (some ⟨r.blk,0,none⟩)))/\UpR w w')
  (first|with_reducible assumption|with_reducible exact HS.o|with_reducible exact Qex HS.o|with_reducible exact Qmf hS3 hbz t3)
  (first
   |(go_at_call 82;refine (QbG enc t2 (some r) R2 r.row _ htr2 (TrAt.one (HIN.o _ (Up_r (by assumption))).2.2 HOR.o HLR.o) (by rw[hrb2];have:=congrArg (fun z=>(rowB z).length) hrow2;simp only[Qaf,List.length_append] at this;rw[<-HAH2.o] at this;omega) (by have:=congrArg List.length hrow2;simp only[List.length_append] at this;omega)).mono ?_;rintro e w3 ⟨t3,R3,hj⟩;obtain rfl:=hj.val;have hS3:=QcU (by assumption) hj.below;obtain⟨x1,x2,x3,x4⟩:=(Up_r hS3).put t3)
   |(refine (HIL.o o _ (HIN.o _ (Up_r (by assumption))).2.1 hlo hhi).mono ?_;rintro e w2 ⟨t2,R2,Ra,Rb,rfl,htr2,hrow2,hrb2,hra2,hlen2,hle2,hgd2,hbl2⟩;have hS2:=QcU (by assumption) hbl2))
 have HX:=Z1 (x4 hj.at_);have HL:=Z1 x3.low;have HJ:=Z1 hj;clear hj x4 x3 hS2 hS3 hSd HS HIR HIL hm1 hm2 he1 he2 p9 p10 x1;go_wp2_with fail;refine bodyPost_ret (v:=.agg #[trv t3]) (by simp [results,Tryz.results205,go_sem,x2]) rfl ⟨t3,R3,Ra,Rb++r.row,rfl,HX.o,by rw[e0,hrow2,List.append_assoc],by rw[HJ.o.bytes,hrb2,Qaf],by rw[HJ.o.atoms,hra2,Qaw],by have:=HJ.o.len;rw[List.length_append];omega,.inr ?_,fun h=>HJ.o.gd (hgd2 (Gd.left (e0 ▸ h))) (Gd.right (e0 ▸ h)),HL.o⟩;have hl2:=congrArg (fun z=>(rowB z).length) hrow2;simp only[Qaf,List.length_append] at hl2;rw[<-HAH2.o] at hl2;rcases hle2 with q|q<;>omega
theorem Qg4 (enc:Int):∀(n:Nd),n.Ok->(∀x∈n.row,LeafOk enc x)->(rowB n.row).length<=1099511627776->n.row.length<=1099511627776->UpTo enc n
 |.leaf B c s,ho,hl,_,_=>QlX enc B c s ho hl
 |.inner B c k l r,ho,hl,hs,hn=>by
  have e0:(Nd.inner B c k l r).row=l.row++r.row:=rfl
  have hs':=hs
  have hn':=hn
  rw[e0,Qaf,List.length_append] at hs'
  rw[e0,List.length_append] at hn'
  exact QkS enc B c k l r ho hl hs hn (Qg4 enc l ho.2.2.1 (fun x hx=>hl x (by rw[e0];simp [hx])) (by omega) (by omega)) (Qg4 enc r ho.2.2.2 (fun x hx=>hl x (by rw[e0];simp [hx])) (by omega) (by omega))
theorem Qep (enc:Int):∀(n:Nd),n.Ok->(∀x∈n.row,LeafOk enc x)->(rowB n.row).length<=1099511627776->n.row.length<=1099511627776->Behind enc n
 |.leaf B c s,ho,hl,_,_=>QiH enc B c s ho hl
 |.inner B c k l r,ho,hl,hs,hn=>by
  have e0:(Nd.inner B c k l r).row=l.row++r.row:=rfl
  have hs':=hs
  have hn':=hn
  rw[e0,Qaf,List.length_append] at hs'
  rw[e0,List.length_append] at hn'
  exact QhB enc B c k l r ho hl hs hn (Qep enc l ho.2.2.1 (fun x hx=>hl x (by rw[e0];simp [hx])) (by omega) (by omega)) (Qep enc r ho.2.2.2 (fun x hx=>hl x (by rw[e0];simp [hx])) (by omega) (by omega))
end Go.Proofs.YtoejbngihecafaaGreatDoor
