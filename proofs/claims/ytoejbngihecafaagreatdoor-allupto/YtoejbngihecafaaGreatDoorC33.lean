import Derived.Test.YtoejbngihecafaaGreatDoorC31
import Derived.Test.YtoejbngihecafaaGreatDoorC32
import Derived.Test.YtoejbngihecafaaGreatDoorC20
import Derived.Test.YtoejbngihecafaaGreatDoorC0
set_option maxRecDepth 100000
set_option maxHeartbeats 1000000
open Go.Proofs.Tryz
namespace Go.Proofs.YtoejbngihecafaaGreatDoor
open Go.RowKit
variable {w:World} {k:Kp} {n:Option Nd} {R:List (Cn × ByteArray)} {tail:ByteArray}
structure CtOk (w:World) (k:Kp) (n:Option Nd) (R:List (Cn × ByteArray)) (tail:ByteArray):Prop where
 tr:TrAt w k.enc n R
 bytes:k.L=rowB R++tail.data.toList
 atoms:k.A=rowA k.enc R
 gd:Gd R
 h0:0<=k.enc
 h3:k.enc<=3
def ctv (k:Kp) (n:Option Nd) (tail:ByteArray):Value:=.agg #[.int .i64 k.enc,.bool k.mark,trv n,.string tail]
section
variable {w w':World} {k:Kp} {n:Option Nd} {R:List (Cn × ByteArray)} {tail:ByteArray}
theorem CtOk.low (h:CtOk w k n R tail) (hb:Below w.heap.size w w'):CtOk w' k n R tail:=⟨h.tr.low hb,h.bytes,h.atoms,h.gd,h.h0,h.h3⟩
theorem CtOk.lens (h:CtOk w k n R tail):k.body.size=(rowB R).length+tail.size:=by
 have:=congrArg List.length h.bytes;rw[List.length_append] at this;exact this
theorem CtOk.sizeA (h:CtOk w k n R tail):Vm.sizeA k.A=(rowB R).length:=by rw[h.atoms];exact Qae h.tr.ok
theorem CtOk.row (h:CtOk w k n R tail):k.L.take (Vm.sizeA k.A)=rowB R/\k.L.drop (Vm.sizeA k.A)=tail.data.toList/\Vm.Wh k.enc (rowB R)/\Vm.atoms k.enc (rowB R)=rowA k.enc R/\(tail.data.toList=[]\/(tail.data.toList.length=1/\¬k.enc=0/\¬k.enc=3)):=by
 have hs:=h.sizeA;have e1:k.L.take (Vm.sizeA k.A)=rowB R:=by rw[hs,h.bytes,List.take_append_of_le_length (Z6 _),List.take_length]
 have e2:k.L.drop (Vm.sizeA k.A)=tail.data.toList:=by rw[hs,h.bytes,List.drop_left]
 obtain⟨c1,c2,c3⟩:=k.cut;rw[e1] at c1 c2;rw[e2] at c3;exact⟨e1,e2,c1,c2.trans h.atoms,c3⟩
end
theorem CtOk.mk' {body:List UInt8} (htr:TrAt w k.enc n R) (hb:k.body=ofL (body++tail.data.toList)) (hrb:rowB R=body) (hra:rowA k.enc R=Vm.atoms k.enc body) (hg:Gd R) (h0:0<=k.enc) (h3:k.enc<=3) (hw:Vm.Wh k.enc body) (ht:tail.data.toList=[]\/(tail.data.toList.length=1/\¬k.enc=0/\¬k.enc=3)):CtOk w k n R tail:=by
 refine⟨htr,?_,?_,hg,h0,h3⟩
 ·unfold Kp.L;rw[hb,Qbs,hrb]
 unfold Kp.A Kp.L;rw[hb,Qbs,hra,Vm.Qgt (Vm.Qh7 hw ht)]
structure S4 (w0:World) (enc:Int) (mark:Bool) (tv:Value) (tail:ByteArray) (w:World):Prop where
 c:w.heap[w0.heap.size]?=some (.cells #[.int .i64 enc,.bool mark,tv,.string tail] 91)
 r:w.heap[w0.heap.size+1]?=some (.cells #[.int .i64 0,.bool false,.nilIface,.string ⟨#[]⟩] 91)
 low:Below w0.heap.size w0 w
theorem S4.start (w:World) (enc:Int) (mark:Bool) (tv:Value) (tail:ByteArray):S4 w enc mark tv tail ((w.alloc (.cells #[.int .i64 enc,.bool mark,tv,.string tail] 91)).alloc (.cells #[.int .i64 0,.bool false,.nilIface,.string ⟨#[]⟩] 91)):=by
 refine⟨?_,?_,(Z7 _ _).alloc (by simp) _⟩
 ·rw[Below.heap_alloc _ _ _ (by simp)];exact Go.Deep.blk_alloc_new _ _
 have:=Go.Deep.blk_alloc_new (w.alloc (.cells #[.int .i64 enc,.bool mark,tv,.string tail] 91)) (.cells #[.int .i64 0,.bool false,.nilIface,.string ⟨#[]⟩] 91);rwa [World.size_alloc] at this
section
variable {w0 w w':World} {enc:Int} {mark:Bool} {tv:Value} {tail:ByteArray}
theorem S4.step (h:S4 w0 enc mark tv tail w) (hb:Below w.heap.size w w'):S4 w0 enc mark tv tail w' :=
 ⟨(hb.block _ (Z4 h.c)).trans h.c,(hb.block _ (Z4 h.r)).trans h.r,h.low.trans (hb.mono h.low.size)⟩
theorem S4.cs (h:S4 w0 enc mark tv tail w):w.cell? ⟨w0.heap.size,0,none⟩=some (.int .i64 enc)/\w.cell? ⟨w0.heap.size,1,none⟩=some (.bool mark)/\w.cell? ⟨w0.heap.size,2,none⟩=some tv/\w.cell? ⟨w0.heap.size,3,none⟩=some (.string tail) :=
 ⟨by rw[Lib.cell_of_heap h.c];rfl,by rw[Lib.cell_of_heap h.c];rfl,by rw[Lib.cell_of_heap h.c];rfl,by rw[Lib.cell_of_heap h.c];rfl⟩
theorem S4.rs (h:S4 w0 enc mark tv tail w):w.cell? ⟨w0.heap.size+1,0,none⟩=some (.int .i64 0)/\w.cell? ⟨w0.heap.size+1,1,none⟩=some (.bool false)/\w.cell? ⟨w0.heap.size+1,2,none⟩=some .nilIface/\w.cell? ⟨w0.heap.size+1,3,none⟩=some (.string ⟨#[]⟩)/\∀j,w.frozen? ⟨w0.heap.size+1,j,none⟩=false :=
 ⟨by rw[Lib.cell_of_heap h.r];rfl,by rw[Lib.cell_of_heap h.r];rfl,by rw[Lib.cell_of_heap h.r];rfl,by rw[Lib.cell_of_heap h.r];rfl,fun j=>Lib.frozen_of_heap h.r j⟩
theorem S4.o (h:S4 w0 enc mark tv tail w) {X:World} (hX:X=(((w.setCell ⟨w0.heap.size+1,0,none⟩ (.int .i64 enc)).setCell ⟨w0.heap.size+1,1,none⟩ (.bool mark)).setCell ⟨w0.heap.size+1,2,none⟩ tv).setCell ⟨w0.heap.size+1,3,none⟩ (.string tail)) :
  X.cell? ⟨w0.heap.size+1,0,none⟩=some (.int .i64 enc)/\X.cell? ⟨w0.heap.size+1,1,none⟩=some (.bool mark)/\X.cell? ⟨w0.heap.size+1,2,none⟩=some tv/\X.cell? ⟨w0.heap.size+1,3,none⟩=some (.string tail)/\Below w0.heap.size w0 X/\∀{e:Int} {t:Option Nd} {R:List (Cn × ByteArray)},TrAt w e t R->TrAt X e t R:=by
 obtain⟨r0,r1,r2,r3,_⟩:=h.rs
 obtain⟨a,b,c,d,tn,ty⟩:=QdZ (.int .i64 enc) (.bool mark) tv (.string tail) r0 r1 r2 r3 hX
 refine⟨a,b,c,d,QbK h.low (by omega) tn,fun ht=>ht.tn2 ?_ tn⟩
 have hty:tyAt w (w0.heap.size+1)=some 91:=by unfold tyAt;rw[h.r]
 unfold NoNd;rw[hty];exact⟨by decide,by decide⟩
end
theorem Qi7 (h:k.mark=true):stl k=k:=by unfold stl;rw[if_pos h]
theorem Qn0 (h:k.mark=false) (ho:ofMark k.body k.enc=false):stl k=k:=by
 obtain⟨e,m,b⟩:=k;simp only at h ho;subst h;unfold stl ofK;rw[if_neg (by simp),ho,Qdz ho]
theorem Qhv (enc:Int) (n:Option Nd) (tail:ByteArray) (w:World) (ht:Tabs w) (h0:0<=enc) (h3:enc<=3) :
  Calls prog 99 #[.agg #[.int .i64 enc,.bool true,trv n,.string tail]] w fun e w'=>e=.returned (.agg #[.int .i64 enc,.bool true,trv n,.string tail])/\Below w.heap.size w w':=by
 have HM:=Z1 (fun X (h:Tabs X)=>QbL enc X h.enc h0 h3)
 have HT:=Z1 ht
 have H0:=Z1 (S4.start w enc true (trv n) tail)
 have hst:=fun (X:World) (a:Addr) (hc:X.cell? a=some .nilIface) (hf:X.frozen? a=false)=>Qaq n hc hf
 clear ht
 generalize trv n=tv at *
 go_enter func99,ntmps99
 go_wp2_with fail
 refine (HM.o _ (HT.o.below H0.o.low)).mono ?_
 rintro e w1 ⟨rfl,hb1⟩
 have H1:=Z1 (H0.o.step hb1)
 clear hb1 H0 HM
 obtain⟨c0,c1,c2,c3⟩:=H1.o.cs
 obtain⟨r0,r1,r2,r3,rf⟩:=H1.o.rs
 have z0:=Z3 c0
 have z1:=Z3 r0
 have hmo:prog.follows Departure.mixedOrders=true:=by kernel_rfl
 have q0:∀x:Bl w1,x.val.cell? ⟨w.heap.size,0,none⟩=some (.int .i64 enc):=fun x=>(H1.o.step x.2).cs.1
 have q1:∀x:Bl w1,x.val.cell? ⟨w.heap.size,1,none⟩=some (.bool true):=fun x=>(H1.o.step x.2).cs.2.1
 have q2:∀x:Bl w1,x.val.cell? ⟨w.heap.size,2,none⟩=some tv:=fun x=>(H1.o.step x.2).cs.2.2.1
 have q3:∀x:Bl w1,x.val.cell? ⟨w.heap.size,3,none⟩=some (.string tail):=fun x=>(H1.o.step x.2).cs.2.2.2
 go_wp2_with fail
 refine Qai hmo (by kernel_rfl) ?_
 repeat (go_big_quiet_step (fail))
 refine wpQuiet_nil ?_
 intro _ hw'
 obtain⟨x5,hx5⟩:=hw'
 subst hx5
 have H5:=Z1 (H1.o.step x5.2)
 clear q0 q1 q2 q3 H1 c0 c1 c2 c3 r0 r1 r2 r3 rf z0 z1
 obtain⟨c0,c1,c2,c3⟩:=H5.o.cs
 obtain⟨r0,r1,r2,r3,rf⟩:=H5.o.rs
 have z0:=Z3 c0
 have z1:=Z3 r0
 go_wp2_with fail
 obtain⟨a0,a1,a2,a3,hlo,_⟩:=H5.o.o rfl
 refine bodyPost_ret (v:=.agg #[.int .i64 enc,.bool true,tv,.string tail]) (by simp [results,Tryz.results99,go_sem,a0,a1,a2,a3]) rfl ⟨rfl,hlo⟩
theorem QgU (n:Option Nd) (tail:ByteArray) (w:World) (ht:Tabs w) :
  Calls prog 99 #[.agg #[.int .i64 3,.bool false,trv n,.string tail]] w fun e w'=>e=.returned (.agg #[.int .i64 3,.bool false,trv n,.string tail])/\Below w.heap.size w w':=by
 have HM:=Z1 (fun X (h:Tabs X)=>QbL 3 X h.enc (by decide) (by decide))
 rw[Qox] at HM
 have HT:=Z1 ht
 have H0:=Z1 (S4.start w 3 false (trv n) tail)
 have hst:=fun (X:World) (a:Addr) (hc:X.cell? a=some .nilIface) (hf:X.frozen? a=false)=>Qaq n hc hf
 clear ht
 generalize trv n=tv at *
 go_enter func99,ntmps99
 go_wp2_with fail
 refine (HM.o _ (HT.o.below H0.o.low)).mono ?_
 rintro e w1 ⟨rfl,hb1⟩
 have H1:=Z1 (H0.o.step hb1)
 clear hb1 H0 HM
 obtain⟨c0,c1,c2,c3⟩:=H1.o.cs
 obtain⟨r0,r1,r2,r3,rf⟩:=H1.o.rs
 have z0:=Z3 c0
 have z1:=Z3 r0
 have hmo:prog.follows Departure.mixedOrders=true:=by kernel_rfl
 have q0:∀x:Bl w1,x.val.cell? ⟨w.heap.size,0,none⟩=some (.int .i64 3):=fun x=>(H1.o.step x.2).cs.1
 have q1:∀x:Bl w1,x.val.cell? ⟨w.heap.size,1,none⟩=some (.bool false):=fun x=>(H1.o.step x.2).cs.2.1
 have q2:∀x:Bl w1,x.val.cell? ⟨w.heap.size,2,none⟩=some tv:=fun x=>(H1.o.step x.2).cs.2.2.1
 have q3:∀x:Bl w1,x.val.cell? ⟨w.heap.size,3,none⟩=some (.string tail):=fun x=>(H1.o.step x.2).cs.2.2.2
 go_wp2_with fail
 refine Qai hmo (by kernel_rfl) ?_
 repeat (go_big_quiet_step (fail))
 refine wpQuiet_nil ?_
 intro _ hw'
 obtain⟨x5,hx5⟩:=hw'
 subst hx5
 have H5:=Z1 (H1.o.step x5.2)
 clear q0 q1 q2 q3 H1 c0 c1 c2 c3 r0 r1 r2 r3 rf z0 z1
 obtain⟨c0,c1,c2,c3⟩:=H5.o.cs
 obtain⟨r0,r1,r2,r3,rf⟩:=H5.o.rs
 have z0:=Z3 c0
 have z1:=Z3 r0
 go_wp2_with fail
 obtain⟨a0,a1,a2,a3,hlo,_⟩:=H5.o.o rfl
 refine bodyPost_ret (v:=.agg #[.int .i64 3,.bool false,tv,.string tail]) (by simp [results,Tryz.results99,go_sem,a0,a1,a2,a3]) rfl ⟨rfl,hlo⟩
theorem Qk5 (hm:k.mark=false) (hb:k.L=rowB R++tail.data.toList) (sz:Nat) (hsz:sz=(mkB k.enc k.mark).size+(rowB R).length+tail.size) (hp:(markB k.enc).size≠0) :
  (((⟨(Vm.partL (ctB k.enc k.mark R tail) 0 ((min (markB k.enc).size sz:Nat):Int)).toArray⟩:ByteArray).toList==(markB k.enc).toList))=ofMark k.body k.enc:=by
 have hct:ctB k.enc k.mark R tail=k.L:=by
  unfold ctB mkB;rw[hm,hb];rfl
 have hl:k.L.length=sz:=by
  rw[hsz,hb,List.length_append,hm];show _=0+_+_;have:tail.data.toList.length=tail.size:=rfl;omega
 have e1:(⟨(Vm.partL (ctB k.enc k.mark R tail) 0 ((min (markB k.enc).size sz:Nat):Int)).toArray⟩:ByteArray).toList=k.L.take (markB k.enc).size:=by
  rw[ByteArray.toList_eq,hct];show (Vm.partL k.L 0 ((min (markB k.enc).size sz:Nat):Int)).toArray.toList=_;unfold Vm.partL;rw[Int.toNat_natCast];show ((k.L.take (min (markB k.enc).size sz)).drop 0)=_;rw[List.drop_zero,<-hl];by_cases q:(markB k.enc).size<=k.L.length
  ·rw[Nat.min_eq_left q]
  rw[Nat.min_eq_right (by omega),List.take_length,List.take_of_length_le (by omega)]
 rw[e1,ByteArray.toList_eq]
 unfold ofMark
 rw[decide_eq_true hp,Bool.true_and]
 have hml:(markB k.enc).data.toList.length=(markB k.enc).size:=rfl
 cases hq:(markB k.enc).data.toList.isPrefixOf k.body.data.toList with
 |true =>
  rw[List.isPrefixOf_iff_prefix] at hq;obtain⟨r,hr⟩:=hq;have:k.L=(markB k.enc).data.toList++r:=hr.symm;rw[this,<-hml,List.take_left];simp
 |false =>
  cases hq2:(k.L.take (markB k.enc).size==(markB k.enc).data.toList) with
  |false=>rfl
  |true =>
   rw[beq_iff_eq] at hq2
   have:(markB k.enc).data.toList.isPrefixOf k.body.data.toList=true:=by
    rw[List.isPrefixOf_iff_prefix,<-hq2];exact List.take_prefix ..
   rw[this] at hq;cases hq
section
variable {w0 w:World} {enc:Int} {mark:Bool} {tv:Value} {tail:ByteArray}
theorem S4.nn (h:S4 w0 enc mark tv tail w):NoNd w w0.heap.size:=by
 have hty:tyAt w w0.heap.size=some 91:=by unfold tyAt;rw[h.c]
 unfold NoNd;rw[hty];exact⟨by decide,by decide⟩
theorem S4.tn (_h:S4 w0 enc mark tv tail w) (j:Nat) (v:Value):Tn w0.heap.size w (w.setCell ⟨w0.heap.size,j,none⟩ v):=(Tn.refl _ _).setCell _
theorem S4.trs (h:S4 w0 enc mark tv tail w) {e:Int} {t:Option Nd} (ht:TrAt w e t R) (j:Nat) (v:Value):TrAt (w.setCell ⟨w0.heap.size,j,none⟩ v) e t R:=ht.tn2 h.nn (h.tn j v)
theorem S4.lows (h:S4 w0 enc mark tv tail w) (j:Nat) (v:Value):Below w0.heap.size w0 (w.setCell ⟨w0.heap.size,j,none⟩ v):=QbK h.low (Z6 _) (h.tn j v)
theorem S4.tabs (h:S4 w0 enc mark tv tail w) (ht:Tabs w0) (j:Nat) (v:Value):Tabs (w.setCell ⟨w0.heap.size,j,none⟩ v):=ht.below (h.lows j v)
theorem S4.mark1 (h:S4 w0 enc mark tv tail w) (m:Bool):S4 w0 enc m tv tail (w.setCell ⟨w0.heap.size,1,none⟩ (.bool m)):=by
 refine⟨?_,((h.tn 1 _).keep _ (Z4 h.r) (by omega)).trans h.r,h.lows 1 _⟩;show (w.heap.modify w0.heap.size _)[w0.heap.size]?=_;rw[Array.getElem?_modify,if_pos rfl,h.c];rfl
theorem S4.root2 (h:S4 w0 enc mark tv tail w) (t:Option Nd):S4 w0 enc mark (trv t) tail (w.setCell ⟨w0.heap.size,2,none⟩ (trv t)):=by
 refine⟨?_,((h.tn 2 _).keep _ (Z4 h.r) (by omega)).trans h.r,h.lows 2 _⟩;show (w.heap.modify w0.heap.size _)[w0.heap.size]?=_;rw[Array.getElem?_modify,if_pos rfl,h.c];rfl
end
theorem Qnn (h:CtOk w k n R tail) (ho:ofMark k.body k.enc=true) (h2:k.enc<=2) :
  ∃r,rowB R=(markB k.enc).data.toList++r/\Vm.Wh k.enc r/\ofBody k.body k.enc=ofL (r++tail.data.toList)/\(∃A0,A0 <+: Vm.atoms k.enc (rowB R)/\Vm.sizeA A0=(markB k.enc).size):=by
 obtain⟨e1,e2,hw,hat,ht⟩:=h.row
 obtain⟨hp,r,hr⟩:=ofMark_iff.1 ho
 have h0:=h.h0
 have hb:=h.bytes
 have hml:(markB k.enc).data.toList.length=(markB k.enc).size:=rfl
 have hL:k.L=(markB k.enc).data.toList++r:=hr
 have hms:=Qe9 h0 h2
 have hle:(markB k.enc).size<=(rowB R).length:=by
  have hlen:=congrArg List.length hb;rw[hL,List.length_append,List.length_append,hml] at hlen;rcases ht with q|⟨q,q0,q3⟩
  ·rw[q] at hlen;have:([]:List UInt8).length=0:=rfl;omega
  have hms2:(markB k.enc).size=2:=by
   have:k.enc=1\/k.enc=2:=by omega
   rcases this with e|e<;>rw[e]<;>rfl
  unfold Vm.Wh at hw;omega
 have hrow:rowB R=(markB k.enc).data.toList++(rowB R).drop (markB k.enc).size:=by
  have h1:(rowB R).take (markB k.enc).size=(markB k.enc).data.toList:=by
   have a:k.L.take (markB k.enc).size=(markB k.enc).data.toList:=by rw[hL,<-hml,List.take_left]
   rw[hb,List.take_append_of_le_length hle] at a;exact a
  conv=>lhs;rw[<-List.take_append_drop (markB k.enc).size (rowB R)]
  rw[h1]
 have hr2:r=(rowB R).drop (markB k.enc).size++tail.data.toList:=by
  have a:(markB k.enc).data.toList++r=(markB k.enc).data.toList++((rowB R).drop (markB k.enc).size++tail.data.toList):=by
   rw[<-hL,hb,<-List.append_assoc,<-hrow]
  exact List.append_cancel_left a
 refine⟨(rowB R).drop (markB k.enc).size,hrow,?_,?_,?_⟩
 ·unfold Vm.Wh at hw ⊢;rw[List.length_drop];have hc:k.enc=0\/k.enc=1\/k.enc=2:=by omega
  rcases hc with e|e|e
  ·exact .inl e
  ·have:(markB k.enc).size=2:=by rw[e];rfl
   omega
  have:(markB k.enc).size=2:=by rw[e];rfl
  omega
 ·rw[QfF ho hr,hr2]
 have ha:Vm.atoms k.enc (rowB R)=(3,65279,(Vm.wrL k.enc 65279).length) :: Vm.atoms k.enc ((rowB R).drop (markB k.enc).size):=by
  conv=>lhs;rw[hrow,Qfj h0 h2]
  exact Vm.Qes h0 h2 _
 refine⟨[(3,65279,(Vm.wrL k.enc 65279).length)],by rw[ha];exact⟨_,rfl⟩,?_⟩
 have:Vm.sizeA [((3:Int),(65279:Int),(Vm.wrL k.enc 65279).length)]=(Vm.wrL k.enc 65279).length:=by simp [Vm.sizeA]
 rw[this,<-Vm.Qca,<-Qfj h0 h2];rfl
theorem Qjg (k:Kp) (n:Option Nd) (R:List (Cn × ByteArray)) (tail:ByteArray) (w:World) (ht:Tabs w) (hc:CtOk w k n R tail) (h2:k.enc<=2) (hm:k.mark=false) (hs:k.body.size<=274877906944) :
  Calls prog 99 #[.agg #[.int .i64 k.enc,.bool false,trv n,.string tail]] w fun e w'=>∃n' R',e=.returned (ctv (stl k) n' tail)/\CtOk w' (stl k) n' R' tail/\Below w.heap.size w w':=by
 have h0:=hc.h0
 have h3:=hc.h3
 have hlens:=hc.lens
 have hp:(markB k.enc).size≠0:=by have:=Qe9 h0 h2;omega
 have hm3:=QaN k.enc
 have HM:=Z1 (fun X (h:Tabs X)=>QbL k.enc X h.enc h0 h3)
 have HT:=Z1 ht
 have HCT:=Z1 hc
 have H0:=Z1 (S4.start w k.enc false (trv n) tail)
 have hst:=fun (X:World) (a:Addr) (hc:X.cell? a=some .nilIface) (hf:X.frozen? a=false)=>Qaq n hc hf
 have hhd:=Qk5 hm hc.bytes _ rfl hp
 have HZ:=Z1 (fun X (h1:Tabs X) (h2:TrAt X k.enc n R)=>Qe0 k.enc k.mark n R tail X h1 h2 h0 h3 (by omega) (by omega))
 obtain⟨sz,hsz⟩:∃sz,sz=(mkB k.enc k.mark).size+(rowB R).length+tail.size:=⟨_,rfl⟩
 have hszb:sz<=274877906950:=by have:=QcI k.enc k.mark;omega
 have HP:=Z1 (fun X (h1:Tabs X) (h2:TrAt X k.enc n R)=>QdA k.enc k.mark n R tail 0 (min (markB k.enc).size sz) X h1 h2 h0 h3 (by omega) (by omega) (by omega) (by omega))
 rw[<-hsz] at HZ hhd
 have hmin:((min (markB k.enc).size sz:Nat):Int)=min ((markB k.enc).size:Int) (sz:Int):=by omega
 simp only[Int.cast_ofNat_Int,hmin] at HP hhd
 rw[hm] at HP HZ hhd
 generalize (⟨(Vm.partL (ctB k.enc false R tail) 0 (min ((markB k.enc).size:Int) (sz:Int))).toArray⟩:ByteArray)=hdb at *
 have hme:(markB k.enc).toList.isEmpty=false:=by
  cases hq:(markB k.enc).toList.isEmpty with
  |false=>rfl
  |true =>
   rw[ByteArray.toList_eq,List.isEmpty_iff] at hq;have:(markB k.enc).data.toList.length=(markB k.enc).size:=rfl;rw[hq] at this;exact absurd this.symm hp
 have HLE:=Z1 hlens
 clear ht hc hmin hsz hlens
 go_enter func99,ntmps99
 go_wp2_with fail
 refine (HM.o _ (HT.o.below H0.o.low)).mono ?_
 rintro e w1 ⟨rfl,hb1⟩
 have H1:=Z1 (H0.o.step hb1)
 clear hb1 H0 HM
 obtain⟨c0,c1,c2,c3⟩:=H1.o.cs
 obtain⟨r0,r1,r2,r3,rf⟩:=H1.o.rs
 have z0:=Z3 c0
 have z1:=Z3 r0
 have hmo:prog.follows Departure.mixedOrders=true:=by kernel_rfl
 have HZX:=Z1 (fun (x:Bl w1)=>HZ.o x.val (HT.o.below (H1.o.step x.2).low) (HCT.o.low (H1.o.step x.2).low).tr)
 have HPX:=Z1 (fun (x:Bl w1)=>HP.o x.val (HT.o.below (H1.o.step x.2).low) (HCT.o.low (H1.o.step x.2).low).tr)
 have q0:∀x:Bl w1,x.val.cell? ⟨w.heap.size,0,none⟩=some (.int .i64 k.enc):=fun x=>(H1.o.step x.2).cs.1
 have q1:∀x:Bl w1,x.val.cell? ⟨w.heap.size,1,none⟩=some (.bool false):=fun x=>(H1.o.step x.2).cs.2.1
 have q2:∀x:Bl w1,x.val.cell? ⟨w.heap.size,2,none⟩=some (trv n):=fun x=>(H1.o.step x.2).cs.2.2.1
 have q3:∀x:Bl w1,x.val.cell? ⟨w.heap.size,3,none⟩=some (.string tail):=fun x=>(H1.o.step x.2).cs.2.2.2
 have HHD:=Z1 hhd
 clear hhd
 go_wp2_with fail
 refine Qai hmo (by kernel_rfl) ?_
 repeat (go_big_quiet_step (first|(go_at_call 52;refine Calls.bl_of (HZX.o _))|(go_at_call 53;refine Calls.bl_of (HPX.o _))|fail))
 refine wpQuiet_nil ?_
 intro _ hw'
 obtain⟨x5,hx5⟩:=hw'
 subst hx5
 have H5:=Z1 (H1.o.step x5.2)
 clear q0 q1 q2 q3 H1 c0 c1 c2 c3 r0 r1 r2 r3 rf z0 z1 HZX HPX HZ HP
 obtain⟨c0,c1,c2,c3⟩:=H5.o.cs
 obtain⟨r0,r1,r2,r3,rf⟩:=H5.o.rs
 have z0:=Z3 c0
 have z1:=Z3 r0
 have fc:=fun j=>Lib.frozen_of_heap H5.o.c j
 cases ho:ofMark k.body k.enc with
 |false =>
  have hq:(hdb.toList==(markB k.enc).toList)=false:=HHD.o.trans ho;have hq2:¬hdb.toList=(markB k.enc).toList:=by simpa using hq
  have hq3:¬hdb=markB k.enc:=fun e=>hq2 (by rw[e]);have HST:=Z1 (Qn0 hm ho);simp only[hq];go_wp2_with fail;obtain⟨a0,a1,a2,a3,hlo,htr⟩:=H5.o.o rfl;refine bodyPost_ret (v:=.agg #[.int .i64 k.enc,.bool false,trv n,.string tail]) (by simp [results,Tryz.results99,go_sem,a0,a1,a2,a3]) rfl ⟨n,R,?_,?_,hlo⟩
  ·rw[HST.o];unfold ctv;rw[hm]
  rw[HST.o];have hc5:=HCT.o.low H5.o.low;exact⟨htr hc5.tr,hc5.bytes,hc5.atoms,hc5.gd,h0,h3⟩
 |true =>
  have hq:(hdb.toList==(markB k.enc).toList)=true:=HHD.o.trans ho;obtain⟨r,hr1,hr2,hr3,hr4⟩:=Qnn HCT.o ho h2;have HSE:=Z1 (H5.o.mark1 true);have hC5:=HCT.o.low H5.o.low;have hT6:=H5.o.trs hC5.tr 1 (.bool true);have hle5:=HLE.o;have HSP:=Z1 (Qgz k.enc n R 0 (markB k.enc).size ⟨#[]⟩ _ (H5.o.tabs HT.o 1 (.bool true)) hT6 h0 h3 (by show (rowB R).length+0<=_;omega) hC5.gd (Nat.zero_le _) hC5.row.2.2.2.1 ⟨[],⟨_,rfl⟩,rfl⟩ hr4 (Vm.wh_of (by simp [Vm.Qmm,Vm.sizeA])));simp only[Int.cast_ofNat_Int] at HSP;have HR2:=Z1 hr2;have HR3:=Z1 hr3;have HR1:=Z1 hr1;clear hr1 hr2 hr3 hr4 hC5 hT6 hle5;simp only[hq];go_wp2_with fail;refine HSP.o.mono ?_;rintro e w6 ⟨t',R',rfl,htr,hrb,hra,hgd,hb6⟩;have H6:=Z1 (HSE.o.step hb6);clear c0 c1 c2 c3 r0 r1 r2 r3 rf z0 z1 hb6 HSP H5 HSE fc;obtain⟨c0,c1,c2,c3⟩:=H6.o.cs;have fc:=fun j=>Lib.frozen_of_heap H6.o.c j;have z0:=Z3 c0;have hst2:=Qaq t' c2 (fc 2);have H7:=Z1 (H6.o.root2 t');have HT7:=Z1 (H6.o.trs htr 2 (trv t'));have hst3:=fun (X:World) (a:Addr) (hc:X.cell? a=some .nilIface) (hf:X.frozen? a=false)=>Qaq t' hc hf
  obtain⟨d0,d1,d2,d3⟩:=H7.o.cs;obtain⟨r0,r1,r2,r3,rf⟩:=H7.o.rs;have z7:=Z3 d0;have y7:=Z3 r0;clear H6 htr;have HRB:=Z1 hrb;have HRA:=Z1 hra;have HGD:=Z1 hgd;clear hrb hra hgd;go_wp2_with fail;obtain⟨a0,a1,a2,a3,hlo,htr⟩:=H7.o.o rfl;have hkey:(⟨#[]⟩:ByteArray).data.toList=[]:=rfl
  have hdr:(rowB R).take 0++((⟨#[]⟩:ByteArray).data.toList++(rowB R).drop (markB k.enc).size)=r:=by
   rw[hkey,List.take_zero,List.nil_append,List.nil_append,HR1.o,<-Qj6,List.drop_left]
  have hstl:stl k=⟨k.enc,true,ofL (r++tail.data.toList)⟩:=by
   unfold stl ofK;rw[if_neg (by rw[hm];decide),ho,HR3.o]
  refine bodyPost_ret (v:=.agg #[.int .i64 k.enc,.bool true,trv t',.string tail]) (by simp [results,Tryz.results99,go_sem,a0,a1,a2,a3]) rfl ⟨t',R',?_,?_,hlo⟩
  ·rw[hstl];rfl
  rw[hstl];refine CtOk.mk' (body:=r) (htr HT7.o) rfl (by rw[HRB.o,hdr]) (by rw[HRA.o,hdr]) HGD.o h0 h3 HR2.o HCT.o.row.2.2.2.2
theorem QfV (k:Kp) (n:Option Nd) (R:List (Cn × ByteArray)) (tail:ByteArray) (w:World) (ht:Tabs w) (hc:CtOk w k n R tail) (hs:k.body.size<=274877906944) :
  Calls prog 99 #[ctv k n tail] w fun e w'=>∃n' R',e=.returned (ctv (stl k) n' tail)/\CtOk w' (stl k) n' R' tail/\Below w.heap.size w w':=by
 cases hm:k.mark with
 |true =>
  rw[Qi7 hm];unfold ctv;rw[hm];refine (Qhv k.enc n tail w ht hc.h0 hc.h3).mono ?_;rintro e w' ⟨rfl,hb⟩;exact⟨n,R,rfl,hc.low hb,hb⟩
 |false =>
  by_cases h2:k.enc<=2
  ·have:=Qjg k n R tail w ht hc h2 hm hs;unfold ctv at this ⊢;rw[hm];exact this
  have e3:k.enc=3:=by have:=hc.h3;omega
  have ho:ofMark k.body k.enc=false:=by rw[e3];rfl
  rw[Qn0 hm ho];unfold ctv;rw[hm,e3];refine (QgU n tail w ht).mono ?_;rintro e w' ⟨rfl,hb⟩;exact⟨n,R,rfl,hc.low hb,hb⟩
end Go.Proofs.YtoejbngihecafaaGreatDoor
