import Derived.Test.YtoejbngihecafaaGreatDoorC32
import Derived.Test.YtoejbngihecafaaGreatDoorC34
import Derived.Test.YtoejbngihecafaaGreatDoorC0
set_option maxRecDepth 100000
set_option maxHeartbeats 4000000
open Go.Proofs.Tryz
namespace Vm
theorem QjB (e:Int) (x:At):(recA e x).length<=8:=by
 unfold recA endL;have h10:=QeK e 10;have h13:=QeK e 13;have hx:=QeK e x.2.1
 repeat' split
 all_goals first|omega|(rw[List.length_append];omega)
theorem Qhy (e:Int) (A:List At):(recL e A).length<=8 * A.length:=by
 induction A with
 |nil=>simp [recL]
 |cons x A ih =>
  have e1:recL e (x :: A)=recA e x++recL e A:=rfl;have:=QjB e x;rw[e1,List.length_append,List.length_cons];omega
theorem Qoo {e:Int} {A:List At} (h:∀a∈A,ChOk a):∀n∈recL e A,0<=n/\n<=255:=by
 intro n hn;simp only[recL,List.mem_flatMap] at hn;obtain⟨a,ha,hn⟩:=hn;unfold recA at hn;split at hn
 ·exact QiX e a.1 n hn
 exact Qge (h a ha).1 n hn
theorem Qhk (e:Int) (A:List At) (x:At):recL e (A++[x])=recL e A++recA e x:=by simp [recL]
end Vm
namespace Go.Proofs.YtoejbngihecafaaGreatDoor
open Go.RowKit Go.Shelf Go.Vit
variable {w0 W W':World} {b E:Nat} {enc:Int} {x:ByteArray} {bs:List Value}
attribute [local go_sem] Oper.semAt_some
theorem QdI (k:Int) (w:World):Calls prog 164 #[.int .i64 k] w fun e w'=>e=.returned (.bool (decide (k<3)))/\w'=w:=by
 go_enter func164,ntmps164;go_wp2_with fail;go_ret;exact⟨rfl,rfl⟩
structure RcI (w0:World) (b E:Nat) (enc:Int) (x:ByteArray) (bs:List Value) (W:World):Prop where
 bd:Bd b b bs W
 e:W.cell? ⟨E,0,none⟩=some (.int .i64 enc)
 eb:W.cell? ⟨E+1,0,none⟩=some (.string x)
 n2:¬MB b W E
 n3:¬MB b W (E+1)
 sz:E+2<=W.heap.size
 bE:b<E
 low:Below b w0 W
theorem RcI.it {lo:Nat} (h:RcI w0 b E enc x bs W) (st:ItStep (MB b) lo W W') (hlo:E+2<=lo):RcI w0 b E enc x bs W':=by
 have hbE:=h.bE
 exact⟨h.bd.it st (by omega),(World.cell?_of_block (w:=W) (st.low E (by omega))).trans h.e,(World.cell?_of_block (w:=W) (st.low (E+1) (by omega))).trans h.eb,
  fun hm=>h.n2 (st.same (Qbh (by omega)) _ hm),fun hm=>h.n3 (st.same (Qbh (by omega)) _ hm),Nat.le_trans h.sz st.size,h.bE,h.low.trans ⟨st.os,st.tape,st.output,st.size,fun k hk=>st.low k (by omega)⟩⟩
theorem RcI.gr {bs':List Value} (h:RcI w0 b E enc x bs W) (hd:Bd b b bs' W') (hg:Gr b W W'):RcI w0 b E enc x bs' W':=by
 have hbE:=h.bE;have hsz:=h.sz;have hb:=hg.below h.bd (by omega)
 have hnew:∀k,k<W.heap.size->¬MB b W k->¬MB b W' k:=fun k h1 h2 hm=>by
  rcases hg.new k hm with y|y
  ·exact h2 y
  omega
 exact⟨hd,(World.cell?_of_block (w:=W) (hg.keep E (by omega) (by omega) h.n2)).trans h.e,(World.cell?_of_block (w:=W) (hg.keep (E+1) (by omega) (by omega) h.n3)).trans h.eb,
  hnew _ (by omega) h.n2,hnew _ (by omega) h.n3,Nat.le_trans h.sz hg.size,h.bE,h.low.trans hb⟩
theorem Qfn (enc oth:Int) (x:ByteArray) (w:World) (ht:TabW w) (h0:0<=enc) (h3:enc<=3) (o0:0<=oth) (o3:oth<=3) (hs:x.size<=1099511627776) :
  Calls prog 140 #[.int .i64 enc,.string x,.int .i64 oth] w fun e w'=>e=.returned (.string (strOfNums (Vm.recL oth (Vm.atoms enc x.data.toList))))/\Below w.heap.size w w':=by
 have hfo:prog.follows Departure.mixedOrders=true:=by kernel_rfl
 have hln:(Vm.atoms enc x.data.toList).length<=x.size:=by
  have h1:=Vm.Qau (Vm.Qao enc x.data.toList);have h2:Vm.sizeA (Vm.atoms enc x.data.toList)<=x.size:=Vm.QaE (List.prefix_refl _);omega
 have hbw:Below w.heap.size w ((w.alloc (.cells #[.int .i64 oth] 3)).alloc (.cells #[.pointer none,.slice none 0 0] 144)):=(Z7 _ _).alloc (by simp) _
 have k1:((w.alloc (.cells #[.int .i64 oth] 3)).alloc (.cells #[.pointer none,.slice none 0 0] 144)).heap[w.heap.size+1]?=some (.cells #[.pointer none,.slice none 0 0] 144):=by
  have:=Go.Deep.blk_alloc_new (w.alloc (.cells #[.int .i64 oth] 3)) (.cells #[.pointer none,.slice none 0 0] 144);rwa [World.size_alloc] at this
 have k0:((w.alloc (.cells #[.int .i64 oth] 3)).alloc (.cells #[.pointer none,.slice none 0 0] 144)).heap[w.heap.size]?=some (.cells #[.int .i64 oth] 3):=by
  rw[Below.heap_alloc _ _ _ (by simp)];exact Go.Deep.blk_alloc_new _ _
 have hz0:((w.alloc (.cells #[.int .i64 oth] 3)).alloc (.cells #[.pointer none,.slice none 0 0] 144)).heap.size=w.heap.size+2:=by simp
 have HG:=hide (Qd6 (w.heap.size+1) (w.heap.size+1) x.size _ (Z6 _) k1 (by omega) (by omega))
 have HB0:=hide hbw
 have HK0:=hide k0
 clear hbw k1 k0
 refine (callsIn_wide (n:=9)).1 ?_
 refine callsIn_of_wp_marks func140 rfl trivial ?_ rfl
 simp only[ntmps140,List.size_toArray,List.length_cons,List.length_nil,Nat.reduceAdd,Nat.reduceSub,Array.replicate_succ,Array.replicate_zero,List.push_toArray,List.append_toArray,List.nil_append,List.cons_append]
 gi_wp2_with fail
 refine⟨trivial,(callsIn_wide.2 HG.o).mono ?_⟩
 rintro e w2 ⟨rfl,hd2,hb2⟩
 have HB2:=hide (HB0.o.trans (hb2.mono (by omega)))
 have k2:=(hb2.block w.heap.size (by omega)).trans HK0.o
 have hs2:=hb2.size
 rw[hz0] at hs2
 have HD2:=hide hd2
 have HK2:=hide k2
 clear hd2 hb2 HG k2 HB0 HK0 hz0
 gi_wp2_with fail
 refine⟨trivial,(callsIn_wide.2 (Qcm enc x w2)).mono ?_⟩
 rintro e w3 ⟨rfl,hw3⟩
 have hs3:w3.heap.size=w2.heap.size+2:=by rw[hw3];simp
 have hb3:Below w2.heap.size w2 w3:=by rw[hw3];exact (Z7 _ _).alloc (by simp) _
 have hmem:∀k,w2.heap.size<=k->¬MB (w.heap.size+1) w3 k:=fun k hk hm=>by
  have:=(HD2.o.mem k ((ItStep.of_below hb3 (Z6 _) (fun k hk=>(HD2.o.mem k hk).2)).same (Qbh (by omega)) _ hm)).2;omega
 have hI0:RcI w2 (w.heap.size+1) w2.heap.size enc x [] w3:=by
  refine⟨HD2.o.low hb3,?_,?_,hmem _ (Z6 _),hmem _ (by omega),by omega,by omega,hb3.mono (by omega)⟩
  ·rw[hw3];simp [go_sem]
  rw[hw3];simp [go_sem]
 clear hw3 hmem
 have hit:=Qci x enc w2.heap.size (w2.heap.size+1) hs h0 h3
 have HCH:=hide (Vm.QbM enc x.data.toList)
 have HOK:=hide (Vm.Qao enc x.data.toList)
 have HT2:=hide (ht.below HB2.o)
 have HTW:Hid (∀W',Below (w.heap.size+1) w2 W'->TabW W'):=hide (fun W' hb=>ht.below (HB2.o.trans (hb.mono (by omega))))
 gi_wp2
 refine Qd9 (gf:=135) rfl (enters_of func135 (by kernel_rfl) rfl) hit (fun _=>rfl) (MB (w.heap.size+1)) (Qbh (by omega))
  (fun pre=>RcI w2 (w.heap.size+1) w2.heap.size enc x (nuCells (Vm.recL oth pre))) (fun _ _ _=>False) ?hI ?hIx ?hN hI0 (fun y a' W=>∃Bq,a' = { tmps:=#[.int .i64 enc,.string x,.int .i64 oth,undef,undef,.pointer (some ⟨w.heap.size,0,none⟩),.string { data:=#[] },.pointer (some ⟨w.heap.size+1,0,none⟩),.pointer (some ⟨Bq,0,none⟩),.string x,.int .i64 x.size,.tuple #[],.int .i64 enc,.string x,.func (.func 135) #[] #[.pointer (some ⟨w2.heap.size,0,none⟩),.pointer (some ⟨w2.heap.size+1,0,none⟩)],.agg #[.int .i64 y.1,.int .i32 y.2.1,.int .i64 y.2.2],undef,undef,undef,undef,undef,undef,undef,undef,undef,undef,undef,undef],defers:=[] }/\W.heap[Bq]?=some (.cells #[.int .i64 y.1,.int .i32 y.2.1,.int .i64 y.2.2] 175)) ?hAx ?assign ?body ?done ?stop
 case hI =>
  intro s A B h st;exact h.it st (by omega)
 case hIx=>intro c s A B h;exact h.elim
 case hN =>
  intro s A h;exact⟨⟨(HTW.o _ h.low).tabs,h.e,h.eb⟩,fun k hk=>(h.bd.mem k hk).2⟩
 case hAx =>
  rintro y a' A L r' o ⟨Bq,h1,h2⟩ hl;refine⟨Bq,h1,?_⟩;rw[World.putObj_heap_other (fun e=>by rw[e,hl] at h2;cases h2)];exact h2
 case assign =>
  intro l A y W K hszW hi hK;dsimp only [encAt];gi_wp2;have hbw:Below W.heap.size W (W.alloc (.cells #[.int .i64 y.1,.int .i32 y.2.1,.int .i64 y.2.2] 175)):=Z7 _ _;have stw:ItStep (MB (w.heap.size+1)) W.heap.size W (W.alloc (.cells #[.int .i64 y.1,.int .i32 y.2.1,.int .i64 y.2.2] 175)):=ItStep.of_below hbw (Z6 _) (fun k hk=>(hi.bd.mem k hk).2);exact hK _ _ (BodyStep.of_below (Qbh (by omega)) hbw (by omega)) (hi.it stw hi.sz) ⟨W.heap.size,rfl,Go.Deep.blk_alloc_new _ _⟩
 case body =>
  rintro l3 A y a' W hszW ⟨r3,hr3⟩ hl3 hi ⟨Bq,rfl,hq⟩ hpreA;have q0:=C0 hq;have q1:=C1 hq;have kb:=(hi.low.block w.heap.size (by omega)).trans HK2.o;have o1:=C0 kb;have hbq:=Z4 hq;have hv:Vm.validB y.2.1=true:=(HCH.o y (hpreA.subset (by simp))).1;have hy:=HOK.o y (hpreA.subset (by simp))
  have hpl:A.length+1<=(Vm.atoms enc x.data.toList).length:=by
   have:=hpreA.length_le;rwa [List.length_append,List.length_singleton] at this
  have hrl:=Vm.Qhy oth A;have hnl:=QcH (Vm.recL oth A);have hTW:∀W',Below (w.heap.size+1) W W'->TabW W':=fun W' hb=>HTW.o W' (hi.low.trans hb);have hk0:0<=y.1:=hy.1;have hzW:=hi.sz;have HI:=hide hi;by_cases hk:y.1<3
  ·have hk2:y.1<=2:=by omega
   have HW:=hide (Qc2 (w.heap.size+1) (w.heap.size+1) (nuCells (Vm.recL oth A)) oth y.1 W hi.bd (by omega) (by omega) hTW o0 o3 hk0 hk2);have HE:=hide (show nuCells (Vm.recL oth A)++nuCells (Vm.endL oth y.1)=nuCells (Vm.recL oth (A++[y])) by rw[Vm.Qhk,Qav];unfold Vm.recA;rw[if_pos hk2]);have hdk:decide (y.1<3)=true:=decide_eq_true hk;clear hi hpreA hq hpl hrl hnl hTW kb hy;gi_wp2_with fail;refine⟨trivial,(CallsIn.inRound l3 (callsIn_wide.2 (QdI y.1 W))).mono ?_⟩;rintro e W1 ⟨rfl,rfl⟩;rw[hdk];gi_wp2_with fail;refine⟨trivial,(CallsIn.inRound l3 (callsIn_wide.2 HW.o)).mono ?_⟩;rintro e W3 ⟨rfl,hd3,hg3⟩;rw[HE.o] at hd3;have HX:=hide (HI.o.gr hd3 hg3);have HG:=hide (hg3.body (lo:=w3.heap.size) (by omega));clear hd3 hg3 HW;gi_wp2;exact⟨HG.o,HX.o⟩
  have HW:=hide (Qbu (w.heap.size+1) (w.heap.size+1) (nuCells (Vm.recL oth A)) oth y.2.1 W hi.bd (by omega) (by omega) hTW o0 o3 hv);have HE:=hide (show nuCells (Vm.recL oth A)++nuCells (Vm.wrL oth y.2.1)=nuCells (Vm.recL oth (A++[y])) by rw[Vm.Qhk,Qav];unfold Vm.recA;rw[if_neg (by omega)]);have hdk:decide (y.1<3)=false:=decide_eq_false hk;clear hi hpreA hq hpl hrl hnl hTW kb hy;gi_wp2_with fail;refine⟨trivial,(CallsIn.inRound l3 (callsIn_wide.2 (QdI y.1 W))).mono ?_⟩;rintro e W1 ⟨rfl,rfl⟩;rw[hdk];gi_wp2_with fail;refine⟨trivial,(CallsIn.inRound l3 (callsIn_wide.2 HW.o)).mono ?_⟩;rintro e W3 ⟨rfl,hd3,hg3⟩;rw[HE.o] at hd3;have HX:=hide (HI.o.gr hd3 hg3);have HG:=hide (hg3.body (lo:=w3.heap.size) (by omega));clear hd3 hg3 HW;gi_wp2;exact⟨HG.o,HX.o⟩
 case done =>
  rintro W hszW hi hd hmd;have hbd:=hi.bd;rw[show nuCells (Vm.recL oth (Vm.atoms enc x.data.toList))=Lib.byteCells (numsB (Vm.recL oth (Vm.atoms enc x.data.toList))) from Qdd (Vm.Qoo HCH.o)] at hbd;have HS:=hide (QcT (w.heap.size+1) (w.heap.size+1) _ W hbd (by omega));have HL:=hide (HB2.o.trans (hi.low.mono (by omega)));clear hi hbd;gi_wp2_with fail;refine⟨trivial,(callsIn_wide.2 HS.o).mono ?_⟩;rintro e W3 ⟨rfl,hb3',hk3⟩;have hK3:=hk3 w3.heap.size _ (by omega) hd;have HB3:=hide (HL.o.trans (hb3'.mono (by omega)));clear hk3 hb3' HS;gi_wp2;rw[hs3] at hK3;refine⟨by simp,.inl ⟨_,_,rfl,run_takeDeferred hK3,?_⟩⟩;refine⟨.string ⟨(numsB (Vm.recL oth (Vm.atoms enc x.data.toList))).toArray⟩,by simp [results,Tryz.results140,go_sem],?_,?_⟩
  ·rw[Qfq]
  have hz:=HB3.o;exact⟨hz.os,hz.tape,hz.output,by simpa using hz.size,fun k hk=>(World.putObj_heap_other (by omega)).trans (hz.block k hk)⟩
 case stop=>intro c pre W h1 h2 h;exact h.elim
end Go.Proofs.YtoejbngihecafaaGreatDoor
namespace Vm
theorem QmP (enc k:Int) (y:At):∀(A:List At) (l:Bytes),reB enc k (A++[y]) l=reB enc k A l++(if y.1<=2 then nb (endL enc k) else (l.drop (sizeA A)).take y.2.2):=by
 intro A
 induction A with
 |nil=>intro l;simp [reB,sizeA]
 |cons x A ih =>
  intro l;have e1:sizeA (x :: A)=x.2.2+sizeA A:=by simp [sizeA]
  show (if x.1<=2 then nb (endL enc k) else l.take x.2.2)++reB enc k (A++[y]) (l.drop x.2.2)=_;rw[ih,<-List.append_assoc,List.drop_drop,e1];rfl
theorem Qe3 (enc k:Int):∀(A:List At) (l:Bytes),(reB enc k A l).length<=8 * A.length+l.length:=by
 intro A
 induction A with
 |nil=>intro l;simp [reB]
 |cons x A ih =>
  intro l;have e1:reB enc k (x :: A) l=(if x.1<=2 then nb (endL enc k) else l.take x.2.2)++reB enc k A (l.drop x.2.2):=rfl;have h1:=ih (l.drop x.2.2);have h2:=Qfm enc k;rw[List.length_drop] at h1;rw[e1,List.length_append,List.length_cons];split
  ·rw[Qca];omega
  rw[List.length_take];omega
end Vm
namespace Go.Proofs.YtoejbngihecafaaGreatDoor
open Go.RowKit Go.Shelf Go.Vit
variable {b B T lo:Nat} {W W' w w0:World} {bs:List Value} {cs:Array Value} {enc k:Int} {x:ByteArray} {A:List Vm.At}
attribute [local go_sem] Oper.semAt_some
theorem Qor (h:W'.heap[b]?=W.heap[b]?) (j:Nat):MB b W' j↔MB b W j:=by
 unfold MB;rw[World.cell?_of_block (w:=W) (a:=⟨b,1,none⟩) h]
theorem Bd.keepG {w':World} (h:Bd B b bs w) (h1:w'.heap[b]?=w.heap[b]?) (h2:∀g,MB b w g->w'.heap[g]?=w.heap[g]?):Bd B b bs w':=by
 obtain⟨hB,v,hbk,hown,hne⟩:=h;have c1:=C1 hbk;refine⟨hB,v,h1.trans hbk,⟨hown.1,?_⟩,hne⟩;rcases hown.2 with x|⟨g,cap,cur,e1,e2,e3,r⟩
 ·exact .inl x
 refine .inr ⟨g,cap,cur,e1,e2,(h2 g ⟨v,c1,?_⟩).trans e3,r⟩;rw[e1];rfl
theorem Qjz {p j:Nat} {t:TypeId} {fz:Nat × Nat} (h:w.heap[p]?=some (.cells cs t fz)) (v:Value):(w.setCell ⟨p,j,none⟩ v).heap[p]?=some (.cells (cs.setIfInBounds j v) t fz):=by
 show (w.heap.modify p _)[p]?=_;rw[Array.getElem?_modify,if_pos rfl,h];rfl
theorem Bd.not_atom {q:Nat} (h:Bd B b bs W) (hq:W.heap[q]?=some (.cells cs 175)):q≠b/\¬MB b W q:=by
 obtain⟨hB,v,hbk,hown,hne⟩:=h;have c1:=C1 hbk;refine⟨fun e=>?_,fun hm=>?_⟩
 ·rw[e,hbk] at hq;injection hq with hq;injection hq with _ hq;exact absurd hq (by decide)
 obtain⟨v',h1,h2⟩:=hm;rw[c1] at h1;have e:v=v':=Option.some.inj h1;subst e;rcases hown.2 with ⟨x,_⟩|⟨g,cap,cur,e1,e2,e3,r⟩
 ·rw[x] at h2;cases h2
 rw[e1] at h2;have e4:g=q:=Option.some.inj h2;rw[e4,hq] at e3;injection e3 with e3;injection e3 with _ e3;exact absurd e3 (by decide)
theorem QdL (a b:List UInt8):Lib.byteCells (a++b)=Lib.byteCells a++Lib.byteCells b:=by simp [Lib.byteCells]
structure ReI (w0:World) (b T:Nat) (enc k:Int) (x:ByteArray) (A:List Vm.At) (W:World):Prop where
 i:RcI w0 b (T+1) enc x (Lib.byteCells (Vm.reB enc k A x.data.toList)) W
 t:W.heap[T]?=some (.cells #[.int .i64 (Vm.sizeA A)] 3)
 n1:¬MB b W T
 bT:b<T
theorem ReI.it (h:ReI w0 b T enc k x A W) (st:ItStep (MB b) lo W W') (hlo:T+3<=lo):ReI w0 b T enc k x A W':=by
 have hb:=h.bT;exact⟨h.i.it st (by omega),(st.low T (by omega)).trans h.t,fun hm=>h.n1 (st.same (Qbh (by omega)) _ hm),h.bT⟩
theorem ReI.gr {y:Vm.At} (h:ReI w0 b T enc k x A W) (hd:Bd b b (Lib.byteCells (Vm.reB enc k (A++[y]) x.data.toList)) W') (hg:Gr b W W') (hlo:T<lo) :
  W'.heap[T]?=some (.cells #[.int .i64 (Vm.sizeA A)] 3)/\ReI w0 b T enc k x (A++[y]) (W'.setCell ⟨T,0,none⟩ (.int .i64 (Vm.sizeA (A++[y]))))/\BodyStep (MB b) lo W (W'.setCell ⟨T,0,none⟩ (.int .i64 (Vm.sizeA (A++[y])))):=by
 have hb:=h.bT
 have hTz:=Z4 h.t
 have h1:=h.i.gr hd hg
 have ht':W'.heap[T]?=some (.cells #[.int .i64 (Vm.sizeA A)] 3):=(hg.keep T hTz (by omega) h.n1).trans h.t
 have hn':¬MB b W' T:=fun hm=>by
  rcases hg.new T hm with y|y
  ·exact h.n1 y
  omega
 have hko:∀j,j≠T->(W'.setCell ⟨T,0,none⟩ (.int .i64 (Vm.sizeA (A++[y])))).heap[j]?=W'.heap[j]?:=fun j hj=>Below.heap_setCell _ _ _ _ (by simpa using hj)
 have hmb:∀j,MB b (W'.setCell ⟨T,0,none⟩ (.int .i64 (Vm.sizeA (A++[y])))) j↔MB b W' j:=fun j=>Qor (hko b (by omega)) j
 have hbd:Bd b b (Lib.byteCells (Vm.reB enc k (A++[y]) x.data.toList)) (W'.setCell ⟨T,0,none⟩ (.int .i64 (Vm.sizeA (A++[y])))):=h1.bd.keepG (hko b (by omega)) (fun g hg=>hko g (fun e=>hn' (e ▸ hg)))
 refine⟨ht',⟨⟨hbd,(World.cell?_of_block (w:=W') (hko (T+1) (by omega))).trans h1.e,(World.cell?_of_block (w:=W') (hko (T+1+1) (by omega))).trans h1.eb,fun hm=>h1.n2 ((hmb _).1 hm),fun hm=>h1.n3 ((hmb _).1 hm),by simpa [World.setCell] using h1.sz,h1.bE,h1.low.trans ((Below.refl _ _).setCell (by show b<=T;omega) _)⟩,?_,fun hm=>hn' ((hmb _).1 hm),h.bT⟩,?_⟩
 ·exact Qjz ht' _
 have h2:=hg.body (lo:=lo) (by omega)
 exact⟨h2.os,h2.tape,h2.output,by simpa [World.setCell] using h2.size,fun j j1 j2 j3=>(hko j (by omega)).trans (h2.keep j j1 j2 j3),fun j hj=>h2.new j ((hmb j).1 hj)⟩
theorem Qi1 (enc k:Int) (x:ByteArray) (w:World) (ht:TabW w) (h0:0<=enc) (h3:enc<=3) (k0:0<=k) (k2:k<=2) (hs:x.size<=1099511627776) :
  Calls prog 203 #[.int .i64 enc,.string x,.int .i64 k] w fun e w'=>e=.returned (.string (ofL (Vm.reB enc k (Vm.atoms enc x.data.toList) x.data.toList)))/\Below w.heap.size w w':=by
 have hfo:prog.follows Departure.mixedOrders=true:=by kernel_rfl
 have hsA:Vm.sizeA (Vm.atoms enc x.data.toList)<=x.size:=Vm.QaE (List.prefix_refl _)
 have hln:(Vm.atoms enc x.data.toList).length<=x.size:=by
  have h1:=Vm.Qau (Vm.Qao enc x.data.toList);omega
 obtain⟨wa,hwa⟩:∃wa,wa=(((w.alloc (.cells #[.int .i64 enc] 3)).alloc (.cells #[.string x] 9)).alloc (.cells #[.int .i64 k] 166)).alloc (.cells #[.pointer none,.slice none 0 0] 144):=⟨_,rfl⟩
 have hza:wa.heap.size=w.heap.size+4:=by rw[hwa];simp
 have hba:Below w.heap.size w wa:=by rw[hwa];exact (((Z7 _ _).alloc (by simp) _).alloc (by simp;omega) _).alloc (by simp;omega) _
 have ka:wa.heap[w.heap.size]?=some (.cells #[.int .i64 enc] 3)/\wa.heap[w.heap.size+1]?=some (.cells #[.string x] 9)/\wa.heap[w.heap.size+2]?=some (.cells #[.int .i64 k] 166)/\wa.heap[w.heap.size+3]?=some (.cells #[.pointer none,.slice none 0 0] 144):=by
  rw[hwa];refine⟨?_,?_,?_,?_⟩
  ·rw[Below.heap_alloc _ _ _ (by simp;omega),Below.heap_alloc _ _ _ (by simp;omega),Below.heap_alloc _ _ _ (by simp)];exact Go.Deep.blk_alloc_new _ _
  ·rw[Below.heap_alloc _ _ _ (by simp),Below.heap_alloc _ _ _ (by simp)];have:=Go.Deep.blk_alloc_new (w.alloc (.cells #[.int .i64 enc] 3)) (.cells #[.string x] 9);rwa [World.size_alloc] at this
  ·rw[Below.heap_alloc _ _ _ (by simp)];have:=Go.Deep.blk_alloc_new ((w.alloc (.cells #[.int .i64 enc] 3)).alloc (.cells #[.string x] 9)) (.cells #[.int .i64 k] 166);rwa [World.size_alloc,World.size_alloc] at this
  have:=Go.Deep.blk_alloc_new (((w.alloc (.cells #[.int .i64 enc] 3)).alloc (.cells #[.string x] 9)).alloc (.cells #[.int .i64 k] 166)) (.cells #[.pointer none,.slice none 0 0] 144);rwa [World.size_alloc,World.size_alloc,World.size_alloc] at this
 obtain⟨ka0,ka1,ka2,ka3⟩:=ka
 have HG:=hide (Qd6 (w.heap.size+3) (w.heap.size+3) x.size wa (Z6 _) ka3 (by omega) (by omega))
 have HB0:=hide hba
 have HK0:=hide ka0
 have HK1:=hide ka1
 have HK2:=hide ka2
 have HWA:=hide hwa
 clear hba ka0 ka1 ka2 ka3 hwa
 refine (callsIn_wide (n:=9)).1 ?_
 refine callsIn_of_wp_marks func203 rfl trivial ?_ rfl
 simp only[ntmps203,List.size_toArray,List.length_cons,List.length_nil,Nat.reduceAdd,Nat.reduceSub,Array.replicate_succ,Array.replicate_zero,List.push_toArray,List.append_toArray,List.nil_append,List.cons_append]
 gi_wp2_with fail
 rw[<-HWA.o]
 simp only[Nat.add_assoc,Nat.reduceAdd]
 refine⟨trivial,(callsIn_wide.2 HG.o).mono ?_⟩
 rintro e w2 ⟨rfl,hd2,hb2⟩
 have HB2:=hide (HB0.o.trans (hb2.mono (by omega)))
 have k0':=(hb2.block w.heap.size (by omega)).trans HK0.o
 have k1':=(hb2.block (w.heap.size+1) (by omega)).trans HK1.o
 have k2':=(hb2.block (w.heap.size+2) (by omega)).trans HK2.o
 have hs2:=hb2.size
 rw[hza] at hs2
 have hb2a:Below w2.heap.size w2 (w2.alloc (.cells #[.int .i64 0] 3)):=Z7 _ _
 have c0:=C0 ((hb2a.block w.heap.size (by omega)).trans k0')
 have c1:=C0 ((hb2a.block (w.heap.size+1) (by omega)).trans k1')
 have kT:(w2.alloc (.cells #[.int .i64 0] 3)).heap[w2.heap.size]?=some (.cells #[.int .i64 0] 3):=Go.Deep.blk_alloc_new _ _
 have hsT:(w2.alloc (.cells #[.int .i64 0] 3)).heap.size=w2.heap.size+1:=World.size_alloc _ _
 have HD2:=hide hd2
 have HL0:=hide k0'
 have HL1:=hide k1'
 have HL2:=hide k2'
 clear hd2 hb2 HG k0' k1' k2' HB0 HK0 HK1 HK2 HWA hza
 gi_wp2_with fail
 refine⟨trivial,(callsIn_wide.2 (Qcm enc x _)).mono ?_⟩
 rintro e w3 ⟨rfl,hw3⟩
 simp only[hsT]
 generalize w2.alloc (.cells #[.int .i64 0] 3)=wt at *
 have hs3:w3.heap.size=w2.heap.size+3:=by rw[hw3];simp;omega
 have hb3:Below wt.heap.size wt w3:=by rw[hw3];exact (Z7 _ _).alloc (by simp) _
 have hbt:=HD2.o.low hb2a
 have hmem:∀j,w2.heap.size<=j->¬MB (w.heap.size+3) w3 j:=fun j hj hm=>by
  have h1:=(ItStep.of_below hb3 (Z6 _) (fun k hk=>(hbt.mem k hk).2)).same (Qbh (by omega)) _ hm;have h2:=(HD2.o.mem j ((ItStep.of_below hb2a (Z6 _) (fun k hk=>(HD2.o.mem k hk).2)).same (Qbh (by omega)) _ h1)).2;omega
 have hI0:ReI w2 (w.heap.size+3) w2.heap.size enc k x [] w3:=by
  refine⟨⟨hbt.low hb3,?_,?_,hmem _ (by omega),hmem _ (by omega),by omega,by omega,(hb2a.mono (by omega)).trans (hb3.mono (by omega))⟩,(hb3.block _ (by omega)).trans kT,hmem _ (Z6 _),by omega⟩
  ·rw[hw3];simp [go_sem,hsT]
  rw[hw3];simp [go_sem,hsT]
 clear hw3 hmem hbt
 have hit:=Qci x enc (w2.heap.size+1) (w2.heap.size+1+1) hs h0 h3
 have HOK:=hide (Vm.Qao enc x.data.toList)
 have HTW:Hid (∀W',Below (w.heap.size+3) w2 W'->TabW W'):=hide (fun W' hb=>ht.below (HB2.o.trans (hb.mono (by omega))))
 have hPS:∀A0,A0 <+: Vm.atoms enc x.data.toList->Vm.sizeA A0<=x.size:=fun A0 h=>Vm.QaE h
 have HPS:=hide hPS
 clear hPS c0 c1 kT hb2a hb3
 gi_wp2
 refine Qd9 (gf:=135) rfl (enters_of func135 (by kernel_rfl) rfl) hit (fun _=>rfl) (MB (w.heap.size+3)) (Qbh (by omega))
  (ReI w2 (w.heap.size+3) w2.heap.size enc k x) (fun _ _ _=>False) ?hI ?hIx ?hN hI0 (fun y a' W=>∃Bq,a' = { tmps:=#[.int .i64 enc,.string x,.int .i64 k,.pointer (some ⟨w.heap.size,0,none⟩),.pointer (some ⟨w.heap.size+1,0,none⟩),.pointer (some ⟨w.heap.size+2,0,none⟩),.string { data:=#[] },.pointer (some ⟨w.heap.size+3,0,none⟩),.pointer (some ⟨w2.heap.size,0,none⟩),.pointer (some ⟨Bq,0,none⟩),.string x,.int .i64 x.size,.tuple #[],.int .i64 enc,.string x,.func (.func 135) #[] #[.pointer (some ⟨w2.heap.size+1,0,none⟩),.pointer (some ⟨w2.heap.size+1+1,0,none⟩)],.agg #[.int .i64 y.1,.int .i32 y.2.1,.int .i64 y.2.2],undef,undef,undef,undef,undef,undef,undef,undef,undef,undef,undef,undef,undef,undef,undef,undef,undef,undef,undef],defers:=[] }/\W.heap[Bq]?=some (.cells #[.int .i64 y.1,.int .i32 y.2.1,.int .i64 y.2.2] 175)) ?hAx ?assign ?body ?done ?stop
 case hI =>
  intro s A B h st;exact h.it st (by omega)
 case hIx=>intro c s A B h;exact h.elim
 case hN =>
  intro s A h;exact⟨⟨(HTW.o _ h.i.low).tabs,h.i.e,h.i.eb⟩,fun k hk=>(h.i.bd.mem k hk).2⟩
 case hAx =>
  rintro y a' A L r' o ⟨Bq,h1,h2⟩ hl;refine⟨Bq,h1,?_⟩;rw[World.putObj_heap_other (fun e=>by rw[e,hl] at h2;cases h2)];exact h2
 case assign =>
  intro l A y W K hszW hi hK;dsimp only [encAt];gi_wp2;have hbw:Below W.heap.size W (W.alloc (.cells #[.int .i64 y.1,.int .i32 y.2.1,.int .i64 y.2.2] 175)):=Z7 _ _;have stw:ItStep (MB (w.heap.size+3)) W.heap.size W (W.alloc (.cells #[.int .i64 y.1,.int .i32 y.2.1,.int .i64 y.2.2] 175)):=ItStep.of_below hbw (Z6 _) (fun k hk=>(hi.i.bd.mem k hk).2);exact hK _ _ (BodyStep.of_below (Qbh (by omega)) hbw (by omega)) (hi.it stw hi.i.sz) ⟨W.heap.size,rfl,Go.Deep.blk_alloc_new _ _⟩
 case body =>
  rintro l3 A ⟨kk,ch,sz⟩ a' W hszW ⟨r3,hr3⟩ hl3 hi ⟨Bq,rfl,hq⟩ hpreA;dsimp only at hq ⊢;have q0:=C0 hq;have q2:=C2 hq;have kb0:=(hi.i.low.block w.heap.size (by omega)).trans HL0.o;have kb1:=(hi.i.low.block (w.heap.size+1) (by omega)).trans HL1.o;have kb2:=(hi.i.low.block (w.heap.size+2) (by omega)).trans HL2.o;have o0:=C0 kb0;have o1:=C0 kb1;have o2:=C0 kb2;have o3:=C0 hi.t;have hbq:=Z4 hq;obtain⟨hq1,hq2⟩:=hi.i.bd.not_atom hq;have hy:=HOK.o (kk,ch,sz) (hpreA.subset (by simp));have hsn:Vm.sizeA (A++[(kk,ch,sz)])=Vm.sizeA A+sz:=Vm.Qay _ _;have hps:=HPS.o _ hpreA;rw[hsn] at hps
  have hpl:A.length+1<=(Vm.atoms enc x.data.toList).length:=by
   have:=hpreA.length_le;rwa [List.length_append,List.length_singleton] at this
  have hrl:=Vm.Qe3 enc k A x.data.toList;rw[show x.data.toList.length=x.size from rfl] at hrl;have hnl:(Lib.byteCells (Vm.reB enc k A x.data.toList)).length=(Vm.reB enc k A x.data.toList).length:=by simp [Lib.byteCells]
  have hTW:∀W',Below (w.heap.size+3) W W'->TabW W':=fun W' hb=>HTW.o W' (hi.i.low.trans hb);have hk0:0<=kk:=hy.1;have hzW:=hi.i.sz;have hsn2:((Vm.sizeA A:Int)+(sz:Int))=((Vm.sizeA (A++[(kk,ch,sz)]):Nat):Int):=by rw[hsn];rfl
  have HSN:=hide hsn2;have HI:=hide hi;have HRS:=hide (Vm.QmP enc k (kk,ch,sz) A x.data.toList);have HQ:=hide hq;by_cases hk:kk<3
  ·have hk2':kk<=2:=by omega
   have HW:=hide (Qc2 (w.heap.size+3) (w.heap.size+3) (Lib.byteCells (Vm.reB enc k A x.data.toList)) enc k W hi.i.bd (by omega) (by omega) hTW h0 h3 k0 k2)
   have HE:=hide (show Lib.byteCells (Vm.reB enc k A x.data.toList)++nuCells (Vm.endL enc k)=Lib.byteCells (Vm.reB enc k (A++[(kk,ch,sz)]) x.data.toList) by
    rw[HRS.o,QdL,if_pos hk2'];rw[show nuCells (Vm.endL enc k)=Lib.byteCells (numsB (Vm.endL enc k)) from Qdd (Vm.QiX enc k)]
    rfl)
   have hdk:decide (kk<3)=true:=decide_eq_true hk;clear hi hpreA hpl hrl hnl hTW kb0 kb1 kb2 hy hsn hsn2 hq;gi_wp2_with fail;refine⟨trivial,(CallsIn.inRound l3 (callsIn_wide.2 (QdI kk W))).mono ?_⟩;rintro e W1 ⟨rfl,rfl⟩;rw[hdk];gi_wp2_with fail;refine⟨trivial,(CallsIn.inRound l3 (callsIn_wide.2 HW.o)).mono ?_⟩;rintro e W3 ⟨rfl,hd3,hg3⟩;rw[HE.o] at hd3;obtain⟨t3,hR,hBS⟩:=HI.o.gr (lo:=w3.heap.size) hd3 hg3 (by omega);have q3:=(hg3.keep Bq hbq hq1 hq2).trans HQ.o;have t0:=C0 t3;have ft:W3.frozen? ⟨w2.heap.size,0,none⟩=false:=Lib.frozen_of_heap t3 0;have u2:=C2 q3;have HR:=hide hR;have HBS:=hide hBS;have hzt:=Z3 t0;have hzu:=Z3 u2;clear hR hBS t3 q3 hd3 hg3 HW HI HE HRS HQ q0 q2 o0 o1 o2 o3;generalize Vm.sizeA A=sA at *;gi_wp2;rw[HSN.o];exact⟨HBS.o,HR.o⟩
  have hk2':¬kk<=2:=by omega
  have hxe:(x.extract (Vm.sizeA A) (Vm.sizeA A+sz)).data.toList=(x.data.toList.drop (Vm.sizeA A)).take sz:=by
   rw[ByteArray.data_extract,Array.toList_extract,List.extract_eq_take_drop,show Vm.sizeA A+sz - Vm.sizeA A=sz by omega]
  have hxs:(x.extract (Vm.sizeA A) (Vm.sizeA A+sz)).size<=x.size:=by rw[ByteArray.size_extract];omega
  have HW:=hide (Qnl (w.heap.size+3) (w.heap.size+3) (Lib.byteCells (Vm.reB enc k A x.data.toList)) (x.extract (Vm.sizeA A) (Vm.sizeA A+sz)) W hi.i.bd (by omega) (by omega))
  have HE:=hide (show Lib.byteCells (Vm.reB enc k A x.data.toList)++Lib.strCells (x.extract (Vm.sizeA A) (Vm.sizeA A+sz))=Lib.byteCells (Vm.reB enc k (A++[(kk,ch,sz)]) x.data.toList) by
   rw[HRS.o,QdL,if_neg hk2',show Lib.strCells (x.extract (Vm.sizeA A) (Vm.sizeA A+sz))=Lib.byteCells (x.extract (Vm.sizeA A) (Vm.sizeA A+sz)).data.toList from rfl,hxe])
  have hdk:decide (kk<3)=false:=decide_eq_false hk;clear hi hpreA hpl hrl hnl hTW kb0 kb1 kb2 hy hsn hsn2 hq hxe hxs;gi_wp2_with fail;refine⟨trivial,(CallsIn.inRound l3 (callsIn_wide.2 (QdI kk W))).mono ?_⟩;rintro e W1 ⟨rfl,rfl⟩;rw[hdk];gi_wp2_with fail;refine⟨trivial,(CallsIn.inRound l3 (callsIn_wide.2 HW.o)).mono ?_⟩;rintro e W3 ⟨⟨v,rfl⟩,hd3,hg3⟩;rw[HE.o] at hd3;obtain⟨t3,hR,hBS⟩:=HI.o.gr (lo:=w3.heap.size) hd3 hg3 (by omega);have q3:=(hg3.keep Bq hbq hq1 hq2).trans HQ.o;have t0:=C0 t3;have ft:W3.frozen? ⟨w2.heap.size,0,none⟩=false:=Lib.frozen_of_heap t3 0;have u2:=C2 q3;have HR:=hide hR;have HBS:=hide hBS;have hzt:=Z3 t0;have hzu:=Z3 u2;clear hR hBS t3 q3 hd3 hg3 HW HI HE HRS HQ q0 q2 o0 o1 o2 o3;generalize Vm.sizeA A=sA at *;gi_wp2;rw[HSN.o];exact⟨HBS.o,HR.o⟩
 case done =>
  rintro W hszW hi hd hmd;have HS:=hide (QcT (w.heap.size+3) (w.heap.size+3) _ W hi.i.bd (by omega));have HL:=hide (HB2.o.trans (hi.i.low.mono (by omega)));clear hi;gi_wp2_with fail;refine⟨trivial,(callsIn_wide.2 HS.o).mono ?_⟩;rintro e W3 ⟨rfl,hb3',hk3⟩;have hK3:=hk3 w3.heap.size _ (by omega) hd;have HB3:=hide (HL.o.trans (hb3'.mono (by omega)));clear hk3 hb3' HS;gi_wp2;rw[hs3] at hK3;refine⟨by simp,.inl ⟨_,_,rfl,run_takeDeferred hK3,?_⟩⟩;refine⟨.string ⟨(Vm.reB enc k (Vm.atoms enc x.data.toList) x.data.toList).toArray⟩,by simp [results,Tryz.results203,go_sem],?_,?_⟩
  ·rfl
  have hz:=HB3.o;exact⟨hz.os,hz.tape,hz.output,by simpa using hz.size,fun k hk=>(World.putObj_heap_other (by omega)).trans (hz.block k hk)⟩
 case stop=>intro c pre W h1 h2 h;exact h.elim
end Go.Proofs.YtoejbngihecafaaGreatDoor
