import Derived.Test.YtoejbngihecafaaGreatDoorC14
import Derived.Test.YtoejbngihecafaaGreatDoorC1
import Derived.Test.YtoejbngihecafaaGreatDoorC6
import Derived.Test.YtoejbngihecafaaGreatDoorC8
import Derived.Test.YtoejbngihecafaaGreatDoorC0
open Go.Proofs.Tryz
namespace Go.Proofs.YtoejbngihecafaaGreatDoor
open Go.RowKit Go.Shelf Go.Vit
variable {w w' w0 W W':World} {enc:Int} {most K Z:Nat} {pre:List Vm.At}
attribute [local go_sem] Oper.semAt_some
theorem QfI (r:Int) (hv:Vm.validB r=true) (w:World):Calls prog 143 #[.int .i32 r] w fun e w'=>e=.returned (.int .i64 (Vm.utfLen r))/\w'=w:=by
 refine (Any.utf8_RuneLen lays118 r w).mono ?_;rintro e w' ⟨rfl,rfl⟩;refine⟨?_,rfl⟩
 have:Lib.runeLen r=(Vm.utfLen r:Int):=by
  unfold Lib.runeLen Vm.utfLen;simp only[Vm.validB,Bool.or_eq_true,Bool.and_eq_true,decide_eq_true_eq] at hv
  repeat' split
  all_goals first|rfl|omega
 rw[this]
theorem Qif (A:List Vm.At) (x:Vm.At):cnOf (A++[x])=(cnOf A).add x.1 x.2.1 x.2.2 (Vm.utfLen x.2.1):=by
 simp only[cnOf,Cn.add,Vm.Qc1,Vm.QdV,Vm.Qd7,List.length_append,Vm.Qhz];by_cases h:65535<x.2.1<;>simp [Vm.sizeA,Vm.bytesA,Vm.unitsA,Vm.lenA,Vm.unA,Vm.chA,h]
structure LfI (w0:World) (enc:Int) (b:ByteArray) (most:Nat) (pre:List Vm.At) (W:World):Prop where
 sz:w0.heap.size+5<=W.heap.size
 c:CnAt W (w0.heap.size+1+1) (cnOf pre)
 m:W.cell? ⟨w0.heap.size,0,none⟩=some (.int .i64 most)
 e:W.cell? ⟨w0.heap.size+1+1+1,0,none⟩=some (.int .i64 enc)
 b:W.cell? ⟨w0.heap.size+1+1+1+1,0,none⟩=some (.string b)
 r:W.cell? ⟨w0.heap.size+1,0,none⟩=some .nilIface
 rf:W.frozen? ⟨w0.heap.size+1,0,none⟩=false
 le:Vm.sizeA pre<=most
 low:Below w0.heap.size w0 W
theorem CnAt.block {b:Nat} {c:Cn} (h:CnAt w b c) (hb:w'.heap[b]?=w.heap[b]?):CnAt w' b c:=by
 have g:∀o,w'.cell? ⟨b,o,none⟩=w.cell? ⟨b,o,none⟩:=fun o=>World.cell?_of_block (w:=w) hb;exact⟨(g _).trans h.c0,(g _).trans h.c1,(g _).trans h.c2,(g _).trans h.c3,(g _).trans h.c4,(g _).trans h.c5,(g _).trans h.c6,(g _).trans h.c7,fun j=>(World.frozen?_of_block (w:=w) hb).trans (h.fr j)⟩
theorem LfI.kept {b:ByteArray} (h:LfI w0 enc b most pre W) (hs:W.heap.size<=W'.heap.size) (ho:W'.os=W.os) (ht:W'.tape=W.tape) (hou:W'.output=W.output) (hk:∀k,k<w0.heap.size+5->W'.heap[k]?=W.heap[k]?):LfI w0 enc b most pre W' :=
 ⟨Nat.le_trans h.sz hs,h.c.block (hk (w0.heap.size+1+1) (by omega)),(World.cell?_of_block (w:=W) (hk w0.heap.size (by omega))).trans h.m,(World.cell?_of_block (w:=W) (hk (w0.heap.size+1+1+1) (by omega))).trans h.e,(World.cell?_of_block (w:=W) (hk (w0.heap.size+1+1+1+1) (by omega))).trans h.b,(World.cell?_of_block (w:=W) (hk (w0.heap.size+1) (by omega))).trans h.r,(World.frozen?_of_block (w:=W) (hk (w0.heap.size+1) (by omega))).trans h.rf,h.le,
  h.low.trans ⟨ho,ht,hou,hs,fun k hk'=>hk k (by omega)⟩⟩
theorem LfI.more {b:ByteArray} {x:Vm.At} (h:LfI w0 enc b most pre W) (hc:CnAt W' (w0.heap.size+1+1) (cnOf (pre++[x]))) (ht:Tn (w0.heap.size+1+1) W W') (hle:Vm.sizeA (pre++[x])<=most):LfI w0 enc b most (pre++[x]) W':=by
 have hsz:=h.sz;have hk:∀k,k<w0.heap.size+5->k≠w0.heap.size+1+1->W'.heap[k]?=W.heap[k]?:=fun k h1 h2=>ht.keep k (by omega) h2
 exact⟨Nat.le_trans h.sz ht.size,hc,(World.cell?_of_block (w:=W) (hk w0.heap.size (by omega) (by omega))).trans h.m,(World.cell?_of_block (w:=W) (hk (w0.heap.size+1+1+1) (by omega) (by omega))).trans h.e,(World.cell?_of_block (w:=W) (hk (w0.heap.size+1+1+1+1) (by omega) (by omega))).trans h.b,(World.cell?_of_block (w:=W) (hk (w0.heap.size+1) (by omega) (by omega))).trans h.r,(World.frozen?_of_block (w:=W) (hk (w0.heap.size+1) (by omega) (by omega))).trans h.rf,hle,
  h.low.trans ⟨ht.os,ht.tape,ht.output,ht.size,fun k hk'=>hk k (by omega) (by omega)⟩⟩
theorem Tn.body {b lo:Nat} (h:Tn b w w') (hb:b<lo):BodyStep (fun _ _=>False) lo w w' :=
 ⟨h.os,h.tape,h.output,h.size,fun k h1 h2 _=>h.keep k h2 (by omega),fun _ hf=>hf.elim⟩
theorem Qjw {o:Obj} (hd:W.heap[K]?=some o) (hne:Z<K) (hsz:K<W.heap.size) (j:Nat) (v:Value) (x:Obj):((W.setCell ⟨Z,j,none⟩ v).alloc x).drew.heap[K]?=some o:=by
 show ((W.setCell ⟨Z,j,none⟩ v).alloc x).heap[K]?=_;rw[Below.heap_alloc _ _ _ (by simpa [World.setCell] using hsz),Below.heap_setCell _ _ _ _ (show K≠Z by omega)];exact hd
theorem QjX (hne:Z+1<K) (hsz:K<W.heap.size) (v:Value) (x y:Obj) (hr:W.cell? ⟨Z+1,0,none⟩=some .nilIface) :
  ((
   ((W.setCell ⟨Z+1,0,none⟩ v).alloc x).drew.putObj K y).cell? ⟨Z+1,0,none⟩=some v)/\(((W.setCell ⟨Z+1,0,none⟩ v).alloc x).drew.putObj K y).heap[W.heap.size]?=some x /\
   ∀w0,Z=w0.heap.size->Below Z w0 W->Below Z w0 (((W.setCell ⟨Z+1,0,none⟩ v).alloc x).drew.putObj K y):=by
 have hs:(W.setCell ⟨Z+1,0,none⟩ v).heap.size=W.heap.size:=by simp [World.setCell]
 have hz:=Z3 hr
 refine⟨?_,?_,?_⟩
 ·rw[World.cell?_of_block (w:=(W.setCell ⟨Z+1,0,none⟩ v)) (a:=⟨Z+1,0,none⟩)]
  ·exact World.cell?_setCell_same' _ _ _ (by rw[hr];rfl)
  show (((W.setCell ⟨Z+1,0,none⟩ v).alloc x).drew.putObj K y).heap[Z+1]?=_;rw[World.putObj_heap_other (by omega)];exact Below.heap_alloc _ _ _ (by omega)
 ·rw[World.putObj_heap_other (by omega)];have:=Go.Deep.blk_alloc_new (W.setCell ⟨Z+1,0,none⟩ v) x;rw[hs] at this;exact this
 intro w0 h0 hb
 have h1:=(hb.setCell (p:=⟨Z+1,0,none⟩) (by show Z<=Z+1;omega) v).alloc (by rw[hs];omega) x
 refine⟨h1.os,h1.tape,h1.output,by simpa using h1.size,fun k hk=>?_⟩
 rw[World.putObj_heap_other (by omega)]
 exact h1.block k hk
def LfX (w0:World) (enc:Int) (b:ByteArray) (most:Nat) (c:Code) (pre:List Vm.At) (W:World):Prop :=
 ∃A0 x,c=.exit 0/\pre=A0++[x]/\LfI w0 enc b most A0 W/\most<Vm.sizeA (A0++[x])
set_option maxHeartbeats 4000000 in
theorem Qhg (enc:Int) (b:ByteArray) (most:Nat) (w:World) (ht:Tabs w) (hb:b.size<=1099511627776) (hm:most<=1099511627776) (h0:0<=enc) (h3:enc<=3) :
  Calls prog 81 #[.int .i64 enc,.string b,.int .i64 most] w fun e w'=>∃B A0,e=.returned (.agg #[.iface 184 (.pointer (some ⟨B,0,none⟩))]) /\
   A0 <+: Vm.atoms enc b.data.toList/\Vm.sizeA A0<=most/\(A0=Vm.atoms enc b.data.toList\/∃x,A0++[x] <+: Vm.atoms enc b.data.toList/\most<Vm.sizeA (A0++[x])) /\
   (Nd.leaf B (cnOf A0) (b.extract 0 (Vm.sizeA A0))).In w'/\Below w.heap.size w w':=by
 have hfo:prog.follows Departure.mixedOrders=true:=by kernel_rfl
 refine (callsIn_wide (n:=9)).1 ?_
 refine callsIn_of_wp_marks func81 rfl trivial ?_ rfl
 simp only[ntmps81,List.size_toArray,List.length_cons,List.length_nil,Nat.reduceAdd,Nat.reduceSub,Array.replicate_succ,Array.replicate_zero,List.push_toArray,List.append_toArray,List.nil_append,List.cons_append]
 gi_wp2_with fail
 refine⟨trivial,(callsIn_wide.2 (Qcm enc b _)).mono ?_⟩
 rintro e w1 ⟨rfl,hw1⟩
 simp only[World.size_alloc] at hw1 ⊢
 have hs1:w1.heap.size=w.heap.size+5:=by rw[hw1];simp
 have hb1:Below w.heap.size w w1:=by
  rw[hw1];exact (((((Below.refl _ w).alloc (Z6 _) _).alloc (by simp) _).alloc (by simp;omega) _).alloc (by simp;omega) _).alloc (by simp;omega) _
 have hI0:LfI w enc b most [] w1:=by
  refine⟨by omega,?_,?_,?_,?_,?_,?_,Nat.zero_le _,hb1⟩
  ·rw[hw1];have:=((CnAt.new ((w.alloc (.cells #[.int .i64 most] 3)).alloc (.cells #[.nilIface] 89)) 119).alloc (.cells #[.int .i64 enc] 3)).alloc (.cells #[.string b] 9);have hz:((w.alloc (.cells #[.int .i64 most] 3)).alloc (.cells #[.nilIface] 89)).heap.size=w.heap.size+1+1:=by simp
   rw[hz] at this;exact this
  ·rw[hw1];simp [go_sem]
  ·rw[hw1];simp [go_sem]
  ·rw[hw1];simp [go_sem]
  ·rw[hw1];simp [go_sem]
  rw[hw1];simp [go_sem]
 clear hw1
 have hok:=Vm.Qao enc b.data.toList
 have hch:=Vm.QbM enc b.data.toList
 have hit:=Qci b enc (w.heap.size+1+1+1) (w.heap.size+1+1+1+1) hb h0 h3
 have hpre0:∀A0,A0 <+: Vm.atoms enc b.data.toList->Vm.sizeA A0<=b.size:=fun A0 h=>Vm.QaE h
 generalize hA:Vm.atoms enc b.data.toList=A at *
 have HAA:=hide hA
 have HP0:=hide hpre0
 clear hA hpre0
 gi_wp2
 refine Qd9 (gf:=135) rfl (enters_of func135 (by kernel_rfl) rfl) hit (fun _=>rfl) (fun _ _=>False) (Qbg _)
  (LfI w enc b most) (LfX w enc b most) ?hI ?hIx ?hN hI0 (fun x a' W=>∃Bq,a' = { tmps:=#[.int .i64 enc,.string b,.int .i64 most,undef,undef,.pointer (some ⟨w.heap.size,0,none⟩),.pointer (some ⟨w.heap.size+1,0,none⟩),.pointer (some ⟨w.heap.size+1+1,0,none⟩),.pointer (some ⟨Bq,0,none⟩),.int .i64 enc,.string b,.func (.func 135) #[] #[.pointer (some ⟨w.heap.size+1+1+1,0,none⟩),.pointer (some ⟨w.heap.size+1+1+1+1,0,none⟩)],.agg #[.int .i64 x.1,.int .i32 x.2.1,.int .i64 x.2.2],undef,undef,undef,undef,undef,undef,undef,undef,undef,undef,undef,undef,undef,undef,undef,undef,undef,undef,undef],defers:=[] }/\W.heap[Bq]?=some (.cells #[.int .i64 x.1,.int .i32 x.2.1,.int .i64 x.2.2] 175)/\w1.heap.size<=Bq) ?hAx ?assign ?body ?done ?stop
 case hI =>
  intro s A B h st;exact h.kept st.size st.os st.tape st.output (fun k hk=>st.low k (by omega))
 case hIx =>
  rintro c s A B ⟨A0,x,h1,h2,h3,h4⟩ st;exact⟨A0,x,h1,h2,h3.kept st.size st.os st.tape st.output (fun k hk=>st.low k (by omega)),h4⟩
 case hN =>
  intro s A h;exact⟨⟨ht.below h.low,h.e,h.b⟩,fun _ hf=>hf.elim⟩
 case hAx =>
  rintro x a' A L r o ⟨Bq,h1,h2,h3⟩ hl;refine⟨Bq,h1,?_,h3⟩;rw[World.putObj_heap_other (fun e=>by rw[e,hl] at h2;cases h2)];exact h2
 case assign =>
  intro l pre x W K hsz hi hK;dsimp only [encAt];gi_wp2;have hbw:Below W.heap.size W (W.alloc (.cells #[.int .i64 x.1,.int .i32 x.2.1,.int .i64 x.2.2] 175)):=Z7 _ _;have hsw:=hi.sz;exact hK _ _ (BodyStep.of_below (Qbg _) hbw (by omega)) (hi.kept hbw.size hbw.os hbw.tape hbw.output (fun k hk=>hbw.block k (by omega))) ⟨W.heap.size,rfl,Go.Deep.blk_alloc_new _ _,by omega⟩
 case body =>
  rintro l2 pre x a' W2 hsz ⟨r,hr⟩ hl2 hi ⟨Bq,rfl,hq,hBq⟩ hpre;have hx:=hok x (hpre.subset (by simp));have hxc:=(hch x (hpre.subset (by simp))).1;have hpl:pre.length<=Vm.sizeA pre:=Vm.Qau (fun a ha=>hok a (hpre.subset (by simp [ha])));have hle:=hi.le;have hsm:(cnOf pre).Small:=Qbr (by omega) (by omega);have hsn:Vm.sizeA (pre++[x])=Vm.sizeA pre+x.2.2:=Vm.Qay _ _;obtain⟨k,ch,sz⟩:=x;obtain⟨g1,g2,g3,g4,g5,g6,g7,g8⟩:=hx;simp only at g1 g2 g3 g4 g5 g6 g7 g8 hsn hq;have c0:W2.cell? ⟨w.heap.size+1+1,0,none⟩=some (.int .i64 (Vm.sizeA pre)):=hi.c.c0;have q0:=C0 hq;have q1:=C1 hq;have q2:=C2 hq;have m0:=hi.m;have z1:=Z3 c0;have z2:=Z3 q0;have z3:=Z3 m0;have HI:=hide hi;have HP:=hide hpre;have HS:=hide hsn;have HA:=hide (QmC (w.heap.size+1+1) (cnOf pre) k ch sz (Vm.utfLen ch) W2 hi.c hsm g1 g2 g8 (by have:=Vm.Qaa ch;omega) (QfI ch hxc));have HN:=hide (Qif pre (k,ch,sz));clear hi hpre hsn hok hch hit hxc hq hsm;generalize Vm.sizeA pre=sp at *;by_cases hgt:most<sp+sz
  ·gi_wp2;exact⟨BodyStep.refl _ _ _,pre,(k,ch,sz),rfl,rfl,HI.o,by rw[HS.o];exact hgt⟩
  gi_wp2_with fail;refine⟨trivial,(CallsIn.inRound l2 (callsIn_wide.2 HA.o)).mono ?_⟩;rintro e W3 ⟨rfl,hc3,ht3⟩;gi_wp2;exact⟨ht3.body (by omega),HI.o.more (by rw[HN.o];exact hc3) ht3 (by rw[HS.o];omega)⟩
 case done =>
  intro W hsz hi hd hmd;have hsb:=HP0.o A (List.prefix_refl _);have c0:=hi.c.c0;have c1:=hi.c.c1;have c2:=hi.c.c2;have c3:=hi.c.c3;have c4:=hi.c.c4;have c5:=hi.c.c5;have c6:=hi.c.c6;have c7:=hi.c.c7;have r0:=hi.r;have rf:=hi.rf;have z1:=Z3 c0;have z2:=Z3 r0;have HI:=hide hi;simp only[cnOf] at c0 c1 c2 c3 c4 c5 c6 c7;generalize hz0:Vm.sizeA A=sz0 at c0 hsb;have HZ:=hide hz0;clear hi hit hz0 hok hch;gi_wp2;refine wpIn_wide.2 ?_;go_region
  all_goals
   go_wp2_with fail;gi_wp2;refine⟨by simp,.inl ⟨_,_,rfl,run_takeDeferred (Qjw hd (by omega) hsz _ _ _),?_⟩⟩;obtain⟨y1,y2,y3⟩:=QjX (Z:=w.heap.size) (K:=w1.heap.size) (by omega) hsz (.iface 184 (.pointer (some ⟨W.heap.size,0,none⟩))) (.cells #[.int .i64 sz0,.int .i64 (Vm.bytesA A),.int .i64 (A:List Vm.At).length,.int .i64 (Vm.unitsA A),.int .i64 (Vm.cntK A 4),.int .i64 (Vm.cntK A 0),.int .i64 (Vm.cntK A 1),.int .i64 (Vm.cntK A 2),.int .i64 0,.string (b.extract 0 sz0)] 188) (.deferred none) HI.o.r;refine⟨.agg #[.iface 184 (.pointer (some ⟨W.heap.size,0,none⟩))],by simp [results,Tryz.results81,go_sem,y1],W.heap.size,A,rfl,?_⟩;have hz:=HZ.o;subst hz;exact⟨by rw[HAA.o];exact List.prefix_refl _,HI.o.le,.inl HAA.o.symm,y2,y3 w rfl HI.o.low⟩
 case stop =>
  rintro c pre W hsz hpre ⟨A0,x,rfl,rfl,hi,hgt⟩ hd hmd;have hsb:=HP0.o A0 ((List.prefix_append _ _).trans hpre);have c0:=hi.c.c0;have c1:=hi.c.c1;have c2:=hi.c.c2;have c3:=hi.c.c3;have c4:=hi.c.c4;have c5:=hi.c.c5;have c6:=hi.c.c6;have c7:=hi.c.c7;have r0:=hi.r;have rf:=hi.rf;have z1:=Z3 c0;have z2:=Z3 r0;have HI:=hide hi;simp only[cnOf] at c0 c1 c2 c3 c4 c5 c6 c7;generalize hz0:Vm.sizeA A0=sz0 at c0 hsb;have HZ:=hide hz0;clear hi hit hz0 hok hch;gi_wp2;refine wpIn_wide.2 ?_;go_region
  all_goals
   go_wp2_with fail;gi_wp2;refine⟨by simp,.inl ⟨_,_,rfl,run_takeDeferred (Qjw hd (by omega) hsz _ _ _),?_⟩⟩;obtain⟨y1,y2,y3⟩:=QjX (Z:=w.heap.size) (K:=w1.heap.size) (by omega) hsz (.iface 184 (.pointer (some ⟨W.heap.size,0,none⟩))) (.cells #[.int .i64 sz0,.int .i64 (Vm.bytesA A0),.int .i64 (A0:List Vm.At).length,.int .i64 (Vm.unitsA A0),.int .i64 (Vm.cntK A0 4),.int .i64 (Vm.cntK A0 0),.int .i64 (Vm.cntK A0 1),.int .i64 (Vm.cntK A0 2),.int .i64 0,.string (b.extract 0 sz0)] 188) (.deferred none) HI.o.r;refine⟨.agg #[.iface 184 (.pointer (some ⟨W.heap.size,0,none⟩))],by simp [results,Tryz.results81,go_sem,y1],W.heap.size,A0,rfl,?_⟩;have hz:=HZ.o;subst hz;exact⟨by rw[HAA.o];exact (List.prefix_append _ _).trans hpre,HI.o.le,.inr ⟨x,by rw[HAA.o];exact hpre,hgt⟩,y2,y3 w rfl HI.o.low⟩
end Go.Proofs.YtoejbngihecafaaGreatDoor
