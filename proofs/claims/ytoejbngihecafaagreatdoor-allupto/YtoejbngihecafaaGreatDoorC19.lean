import Derived.Test.YtoejbngihecafaaGreatDoorC17
import Derived.Test.YtoejbngihecafaaGreatDoorC18
import Derived.Test.YtoejbngihecafaaGreatDoorC0
set_option maxRecDepth 100000
set_option maxHeartbeats 4000000
open Go.Proofs.Tryz
namespace Go.Proofs.YtoejbngihecafaaGreatDoor
open Go.RowKit Go.Shelf Go.Vit
variable {N Bt lo:Nat} {w w' w0 W W' W2:World} {enc:Int} {R:List (Cn × ByteArray)} {mark:Bool} {n:Option Nd} {tail x:ByteArray} {A:List Vm.At} {pre:List ByteArray}
attribute [local go_sem] Oper.semAt_some
theorem QcT (B b:Nat) (l:List UInt8) (w:World) (h:Bd B b (Lib.byteCells l) w) (hBw:B<=w.heap.size) :
  Calls prog 90 #[.pointer (some ⟨b,0,none⟩)] w fun e w'=>e=.returned (.string ⟨l.toArray⟩)/\Below B w w'/\∀k st,k≠b->w.heap[k]?=some (.deferred st)->w'.heap[k]?=some (.deferred st):=by
 refine (Any.Builder_String_any_k lays169 extraB B b l w (.inr (Lib.BuilderAtF.of h)) hBw).mono ?_
 rintro e w' ⟨rfl,_,hb,ho⟩
 exact⟨rfl,hb,fun k st hk hd=>ho k _ hd (by simpa using hk) (fun _ _=>by simp)⟩
def atB (enc:Int) (pre:List ByteArray):List Vm.At:=pre.flatMap (fun x=>Vm.atoms enc x.data.toList)
theorem QgM (enc:Int) (pre:List ByteArray) (x:ByteArray):atB enc (pre++[x])=atB enc pre++Vm.atoms enc x.data.toList:=by simp [atB]
theorem Qcd (enc:Int) (R:List (Cn × ByteArray)):atB enc (R.map (fun x=>x.2))=rowA enc R:=by simp [atB,rowA,List.flatMap_map]
theorem Qpa (enc:Int) (pre:List ByteArray):∀a∈atB enc pre,Vm.AtOk a:=by
 intro a ha;simp only[atB,List.mem_flatMap] at ha;obtain⟨x,_,hx⟩:=ha;exact Vm.Qao enc _ a hx
theorem Qo7 (enc:Int) (pre:List ByteArray):∀a∈atB enc pre,Vm.ChOk a:=by
 intro a ha;simp only[atB,List.mem_flatMap] at ha;obtain⟨x,_,hx⟩:=ha;exact Vm.QbM enc _ a hx
def UndT (t:Option Nd) (N:Nat):Prop:=∀m,t=some m->m.Und N
def InT (t:Option Nd) (w:World):Prop:=∀m,t=some m->m.In w
theorem InT.kept {t:Option Nd} (hb:∀k,k<N->w'.heap[k]?=w.heap[k]?) (u:UndT t N) (h:InT t w):InT t w':=fun m hm=>Nd.kept hb (u m hm) (h m hm)
theorem InT.und {t:Option Nd} (h:InT t w):UndT t w.heap.size:=fun m hm=>Nd.und (h m hm)
theorem TrAt.int {t:Option Nd} (h:TrAt w enc t R):InT t w:=fun m hm=>(h.inn m hm).1
theorem TrAt.keptN {t:Option Nd} (h:TrAt w enc t R) (hb:∀k,k<N->w'.heap[k]?=w.heap[k]?) (u:UndT t N):TrAt w' enc t R :=
 ⟨fun m hm=>⟨Nd.kept hb (u m hm) (h.inn m hm).1,(h.inn m hm).2⟩,h.non,h.ok⟩
structure TxI (w0:World) (enc:Int) (mark:Bool) (n:Option Nd) (tail:ByteArray) (Bt:Nat) (A:List Vm.At) (W:World):Prop where
 bd:Bd (w0.heap.size+1) (w0.heap.size+1) (txCells A) W
 c:W.heap[w0.heap.size]?=some (.cells #[.int .i64 enc,.bool mark,trv n,.string tail] 91)
 t:W.cell? ⟨Bt,0,none⟩=some (trv n)
 inn:InT n W
 low:Below w0.heap.size w0 W
theorem TxI.it (h:TxI w0 enc mark n tail Bt A W) (st:ItStep (MB (w0.heap.size+1)) lo W W') (hlo:w0.heap.size+1<lo) (hBt:Bt<lo) (hu:UndT n w0.heap.size):TxI w0 enc mark n tail Bt A W' :=
 ⟨h.bd.it st hlo,(st.low _ (by omega)).trans h.c,(World.cell?_of_block (w:=W) (st.low Bt hBt)).trans h.t,InT.kept (fun k hk=>st.low k (by omega)) hu h.inn,h.low.trans ⟨st.os,st.tape,st.output,st.size,fun k hk=>st.low k (by omega)⟩⟩
theorem TxI.gr {A':List Vm.At} (h:TxI w0 enc mark n tail Bt A W) (hd:Bd (w0.heap.size+1) (w0.heap.size+1) (txCells A') W') (hg:Gr (w0.heap.size+1) W W') (hBt:Bt<W.heap.size) (hBne:w0.heap.size+1<Bt) (hnm:¬MB (w0.heap.size+1) W Bt) (hu:UndT n w0.heap.size):TxI w0 enc mark n tail Bt A' W':=by
 have hb:=hg.below h.bd (by have:=h.low.size;omega);have hk:∀k,k<w0.heap.size+1->W'.heap[k]?=W.heap[k]?:=hb.block;exact⟨hd,(hk _ (by omega)).trans h.c,(World.cell?_of_block (w:=W) (hg.keep Bt hBt (by omega) hnm)).trans h.t,InT.kept (fun k hk'=>hk k (by omega)) hu h.inn,h.low.trans (hb.mono (by omega))⟩
def TxO (w0:World) (enc:Int) (mark:Bool) (n:Option Nd) (tail:ByteArray) (Bt:Nat) (pre:List ByteArray) (W:World):Prop :=
 TxI w0 enc mark n tail Bt (atB enc pre) W/\¬MB (w0.heap.size+1) W Bt/\Bt<W.heap.size
structure TxN (w0:World) (enc:Int) (mark:Bool) (n:Option Nd) (tail:ByteArray) (Bt lo:Nat) (pre:List ByteArray) (x:ByteArray) (W2:World) (A:List Vm.At) (W:World):Prop where
 i:TxI w0 enc mark n tail Bt (atB enc pre++A) W
 bs:BodyStep (MB (w0.heap.size+1)) lo W2 W
 e:W.cell? ⟨W2.heap.size,0,none⟩=some (.int .i64 enc)
 b:W.cell? ⟨W2.heap.size+1,0,none⟩=some (.string x)
 n1:¬MB (w0.heap.size+1) W Bt
 n2:¬MB (w0.heap.size+1) W W2.heap.size
 n3:¬MB (w0.heap.size+1) W (W2.heap.size+1)
 sz:W2.heap.size+2<=W.heap.size
theorem TxN.it {lo2:Nat} (h:TxN w0 enc mark n tail Bt lo pre x W2 A W) (st:ItStep (MB (w0.heap.size+1)) lo2 W W') (hb:w0.heap.size+1<lo2) (hBt:Bt<lo2) (hW:W2.heap.size+2<=lo2) (hu:UndT n w0.heap.size):TxN w0 enc mark n tail Bt lo pre x W2 A W' :=
 ⟨h.i.it st hb hBt hu,⟨st.os.trans h.bs.os,st.tape.trans h.bs.tape,st.output.trans h.bs.output,Nat.le_trans h.bs.size st.size,fun k h1 h2 h3=>(st.low k (by omega)).trans (h.bs.keep k h1 h2 h3),fun k hk=>h.bs.new k (st.same (Qbh hb) k hk)⟩,
  (World.cell?_of_block (w:=W) (st.low W2.heap.size (by omega))).trans h.e,(World.cell?_of_block (w:=W) (st.low (W2.heap.size+1) (by omega))).trans h.b,
  fun hm=>h.n1 (st.same (Qbh hb) _ hm),fun hm=>h.n2 (st.same (Qbh hb) _ hm),fun hm=>h.n3 (st.same (Qbh hb) _ hm),Nat.le_trans h.sz st.size⟩
theorem TxN.gr {a:Vm.At} (h:TxN w0 enc mark n tail Bt lo pre x W2 A W)
  (hd:Bd (w0.heap.size+1) (w0.heap.size+1) (txCells (atB enc pre++A)++chCells (Vm.chA a)) W') (hg:Gr (w0.heap.size+1) W W') (hb:w0.heap.size+1<lo) (hBt:w0.heap.size+1<Bt) (hBt2:Bt<W2.heap.size) (hu:UndT n w0.heap.size):TxN w0 enc mark n tail Bt lo pre x W2 (A++[a]) W':=by
 have hsz:=h.sz
 have hnew:∀k,k<W.heap.size->¬MB (w0.heap.size+1) W k->¬MB (w0.heap.size+1) W' k:=fun k h1 h2 hm=>by
  rcases hg.new k hm with y|y
  ·exact h2 y
  omega
 refine⟨?_,h.bs.trans (hg.body hb),(World.cell?_of_block (w:=W) (hg.keep W2.heap.size (by omega) (by omega) h.n2)).trans h.e,(World.cell?_of_block (w:=W) (hg.keep (W2.heap.size+1) (by omega) (by omega) h.n3)).trans h.b,hnew _ (by omega) h.n1,hnew _ (by omega) h.n2,hnew _ (by omega) h.n3,Nat.le_trans h.sz hg.size⟩
 refine h.i.gr ?_ hg (by omega) hBt h.n1 hu
 rw[<-List.append_assoc,Qht]
 exact hd
theorem QeX (h:x∈R.map (fun y=>y.2)):x.size<=(rowB R).length:=by
 induction R with
 |nil=>simp at h
 |cons y R ih =>
  have e:(rowB (y :: R)).length=y.2.size+(rowB R).length:=by simp [rowB]
  rw[e];simp only[List.map_cons,List.mem_cons] at h;rcases h with rfl|h
  ·omega
  have:=ih h;omega
theorem QoO (h:pre++[x] <+: R.map (fun y=>y.2)) (hA:A <+: Vm.atoms enc x.data.toList):(atB enc pre++A).length<=(rowA enc R).length:=by
 obtain⟨t,ht⟩:=h;obtain⟨s,hs⟩:=hA;rw[<-Qcd,<-ht];simp only[atB,List.flatMap_append,List.flatMap_cons,List.flatMap_nil,List.append_nil,List.length_append];rw[<-hs,List.length_append];omega
theorem QlK (enc:Int) (mark:Bool) (n:Option Nd) (R:List (Cn × ByteArray)) (tail:ByteArray) (w:World) (ht:Tabs w) (hr:TrAt w enc n R) (h0:0<=enc) (h3:enc<=3) (hl:(rowB R).length<=1099511627776) :
  Calls prog 67 #[.agg #[.int .i64 enc,.bool mark,trv n,.string tail]] w fun e w'=>e=.returned (.string (strOfNums (Vm.textL (rowA enc R))))/\Below w.heap.size w w':=by
 have hfo:prog.follows Departure.mixedOrders=true:=by kernel_rfl
 have HC:=hide (fun w1 (h:TrAt w1 enc n R)=>h.counts)
 have HTB:=hide (Qdt n)
 have hit:=QgG n R
 have hu:=hr.int.und
 have hsz:=Qae hr.ok
 have hln:=Vm.Qau (Qa4 enc R)
 have hby:=Vm.Qcl (rowA enc R)
 have HT:=hide hr
 have HR1:=hide (fun m (h:n=some m)=>(hr.inn m h).2.2)
 have HR2:=hide hr.non
 clear hr
 have fb:∀(v0 v1 v2 v3 v4 v5 v6 v7:Value) (w:World),(Instr.field 119 (.agg #[v0,v1,v2,v3,v4,v5,v6,v7]) 1).run prog w=.ok v1 w:=fun _ _ _ _ _ _ _ _ _=>by kernel_rfl
 have hbw:Below w.heap.size w ((w.alloc (.cells #[.int .i64 enc,.bool mark,trv n,.string tail] 91)).alloc (.cells #[.pointer none,.slice none 0 0] 144)):=(Z7 _ _).alloc (by simp) _
 have HB0:=hide hbw
 clear hbw
 refine (callsIn_wide (n:=9)).1 ?_
 refine callsIn_of_wp_marks func67 rfl trivial ?_ rfl
 simp only[ntmps67,List.size_toArray,List.length_cons,List.length_nil,Nat.reduceAdd,Nat.reduceSub,Array.replicate_succ,Array.replicate_zero,List.push_toArray,List.append_toArray,List.nil_append,List.cons_append]
 gi_wp2_with fail
 refine⟨trivial,(callsIn_wide.2 (HC.o _ (HT.o.low HB0.o))).mono ?_⟩
 rintro e w1 ⟨rfl,hb1⟩
 have hz0:((w.alloc (.cells #[.int .i64 enc,.bool mark,trv n,.string tail] 91)).alloc (.cells #[.pointer none,.slice none 0 0] 144)).heap.size=w.heap.size+2:=by simp
 have hs1:=hb1.size
 have k0:w1.heap[w.heap.size]?=some (.cells #[.int .i64 enc,.bool mark,trv n,.string tail] 91):=by
  rw[hb1.block _ (by omega),Below.heap_alloc _ _ _ (by simp)];exact Go.Deep.blk_alloc_new _ _
 have k1:w1.heap[w.heap.size+1]?=some (.cells #[.pointer none,.slice none 0 0] 144):=by
  rw[hb1.block _ (by omega)];have:=Go.Deep.blk_alloc_new (w.alloc (.cells #[.int .i64 enc,.bool mark,trv n,.string tail] 91)) (.cells #[.pointer none,.slice none 0 0] 144);rwa [World.size_alloc] at this
 have HB1:=hide (HB0.o.trans (hb1.mono (by omega)))
 have HG:=hide (Qd6 (w.heap.size+1) (w.heap.size+1) (Vm.bytesA (rowA enc R)) w1 (Z6 _) k1 (by omega) (by omega))
 have HK0:=hide k0
 clear hb1 k0 k1 HC
 simp only[cnOf,Cn.val]
 generalize Vm.bytesA (rowA enc R)=by_ at *
 gi_wp2_with fail
 refine⟨trivial,(callsIn_wide.2 HG.o).mono ?_⟩
 rintro e w2 ⟨rfl,hd2,hb2⟩
 generalize (Value.agg #[.int .i64 (Vm.sizeA (rowA enc R)),.int .i64 by_,.int .i64 (rowA enc R).length,.int .i64 (Vm.unitsA (rowA enc R)),.int .i64 (Vm.cntK (rowA enc R) 4),.int .i64 (Vm.cntK (rowA enc R) 0),.int .i64 (Vm.cntK (rowA enc R) 1),.int .i64 (Vm.cntK (rowA enc R) 2)])=cv
 have HB2:=hide (HB1.o.trans (hb2.mono (by omega)))
 have k2:=(hb2.block w.heap.size (by omega)).trans HK0.o
 have c0:=C0 k2
 have c2:=C2 k2
 have HD2:=hide hd2
 have HK2:=hide k2
 have hs2:=hb2.size
 clear hd2 hb2 HG k2 HB1 HK0
 gi_wp2_with fail
 refine⟨trivial,(callsIn_wide.2 (HTB.o w2)).mono ?_⟩
 rintro e w3 ⟨rfl,hw3⟩
 have hb3:Below w2.heap.size w2 w3:=by rw[hw3];exact Z7 _ _
 have hs3:w3.heap.size=w2.heap.size+1:=by rw[hw3];simp
 have hI0:TxI w enc mark n tail w2.heap.size [] w3:=by
  refine⟨HD2.o.low hb3,(hb3.block _ (by omega)).trans HK2.o,?_,?_,HB2.o.trans (hb3.mono (by omega))⟩
  ·rw[hw3];simp [go_sem]
  exact InT.kept (HB2.o.trans (hb3.mono (by omega))).block hu HT.o.int
 have hnm0:¬MB (w.heap.size+1) w3 w2.heap.size:=by
  intro hm;have:=(HD2.o.mem w2.heap.size ((ItStep.of_below hb3 (Z6 _) (fun k hk=>(HD2.o.mem k hk).2)).same (Qbh (by omega)) _ hm)).2;omega
 clear hw3 c0 c2 HD2 HK2 HTB
 gi_wp2
 refine QfW (gf:=134) rfl (enters_of func134 (by kernel_rfl) rfl) (hit w2.heap.size HR1.o HR2.o) (fun _=>rfl) (MB (w.heap.size+1)) (Qbh (by omega))
  (TxO w enc mark n tail w2.heap.size) (fun _ _ _=>False) ?hI ?hIx ?hN ⟨hI0,hnm0,by omega⟩ ?a1 ?assign ?body ?done ?stop
 case hI =>
  rintro s A B ⟨h1,h2,h3⟩ st;exact⟨h1.it st (by omega) (by omega) hu,fun hm=>h2 (st.same (Qbh (by omega)) _ hm),Nat.lt_of_lt_of_le h3 st.size⟩
 case hIx=>intro c s A B h;exact h.elim
 case hN =>
  rintro s A ⟨h1,h2,h3⟩;exact⟨⟨h1.t,h1.inn⟩,fun k hk=>(h1.bd.mem k hk).2⟩
 case assign =>
  intro l x W K hK;dsimp only [encB];gi_wp2;exact hK
 case body =>
  rintro l2 pre x W2 hsz2 ⟨r,hr⟩ hl2 ⟨hi,hnm,hbt⟩ hpre;have c0:=C0 hi.c;have HI:=hide hi;have HP:=hide hpre;clear hi hpre;gi_wp2_with fail;refine⟨trivial,(CallsIn.inRound l2 (callsIn_wide.2 (Qcm enc x W2))).mono ?_⟩;rintro e w4 ⟨rfl,hw4⟩;have hs4:w4.heap.size=W2.heap.size+2:=by rw[hw4];simp
  have hb4:Below W2.heap.size W2 w4:=by rw[hw4];exact (Z7 _ _).alloc (by simp) _
  have e4:w4.cell? ⟨W2.heap.size,0,none⟩=some (.int .i64 enc):=by rw[hw4];simp [go_sem]
  have b4:w4.cell? ⟨W2.heap.size+1,0,none⟩=some (.string x):=by rw[hw4];simp [go_sem]
  clear hw4;have hr4:w4.heap[l2]?=some (.loop r):=(hb4.block l2 (Z4 hr)).trans hr;have st4:ItStep (MB (w.heap.size+1)) W2.heap.size W2 w4:=ItStep.of_below hb4 (Z6 _) (fun k hk=>(HI.o.bd.mem k hk).2);have hmlow:MLow (MB (w.heap.size+1)) W2.heap.size:=Qbh (by omega)
  have hN0:TxN w enc mark n tail w2.heap.size w3.heap.size pre x W2 [] w4 :=
   ⟨by rw[List.append_nil];exact HI.o.it st4 (by omega) (by omega) hu,BodyStep.of_below (Qbh (by omega)) hb4 (by omega),e4,b4,fun hm=>hnm (st4.same hmlow _ hm),
    fun hm=>by have:=(HI.o.bd.mem _ (st4.same hmlow _ hm)).2;omega,fun hm=>by have:=(HI.o.bd.mem _ (st4.same hmlow _ hm)).2;omega,by omega⟩
  have hxm:x∈R.map (fun y=>y.2):=HP.o.subset (by simp);have hxs:=QeX hxm;have hiA:=Qci x enc W2.heap.size (W2.heap.size+1) (by omega) h0 h3;have HLEN:=hide (fun A (h:A <+: Vm.atoms enc x.data.toList)=>QoO HP.o h);have HCH:=hide (Vm.QbM enc x.data.toList);have HN0:=hide hN0;clear hN0 e4 b4 c0;gi_wp2
  refine QhH hr4 (gf:=135) rfl (enters_of func135 (by kernel_rfl) rfl) hiA (fun _=>rfl) (MB (w.heap.size+1)) (Qbh (by omega))
   (TxN w enc mark n tail w2.heap.size w3.heap.size pre x W2) (fun _ _ _=>False) ?hI2 ?hIx2 ?hN2 HN0.o (fun y a' W=>∃Bq,a' = { tmps:=#[.agg #[.int .i64 enc,.bool mark,trv n,.string tail],.pointer (some ⟨w.heap.size,0,none⟩),.string { data:=#[] },.pointer (some ⟨w.heap.size+1,0,none⟩),.string x,.pointer (some ⟨Bq,0,none⟩),.pointer (some ⟨w.heap.size,2,none⟩),.agg #[trv n],cv,.int .i64 by_,.tuple #[],.pointer (some ⟨w.heap.size,2,none⟩),.agg #[trv n],.func (.func 134) #[] #[.pointer (some ⟨w2.heap.size,0,none⟩)],.string x,.pointer (some ⟨w.heap.size,0,none⟩),.int .i64 enc,.string x,.func (.func 135) #[] #[.pointer (some ⟨W2.heap.size,0,none⟩),.pointer (some ⟨W2.heap.size+1,0,none⟩)],.agg #[.int .i64 y.1,.int .i32 y.2.1,.int .i64 y.2.2],undef,undef,undef,undef],defers:=[] }/\W.heap[Bq]?=some (.cells #[.int .i64 y.1,.int .i32 y.2.1,.int .i64 y.2.2] 175)) ?hAx2 ?assign2 ?body2 ?done2 ?stop2
  case hI2 =>
   intro s A B h st;exact h.it st (by omega) (by omega) (by omega) hu
  case hIx2=>intro c s A B h;exact h.elim
  case hN2 =>
   intro s A h;exact⟨⟨ht.below h.i.low,h.e,h.b⟩,fun k hk=>(h.i.bd.mem k hk).2⟩
  case hAx2 =>
   rintro y a' A L r' o ⟨Bq,h1,h2⟩ hl;refine⟨Bq,h1,?_⟩;rw[World.putObj_heap_other (fun e=>by rw[e,hl] at h2;cases h2)];exact h2
  case assign2 =>
   intro l A y W K hszW hi hK;dsimp only [encAt];gi_wp2;have hbw:Below W.heap.size W (W.alloc (.cells #[.int .i64 y.1,.int .i32 y.2.1,.int .i64 y.2.2] 175)):=Z7 _ _;have stw:ItStep (MB (w.heap.size+1)) W.heap.size W (W.alloc (.cells #[.int .i64 y.1,.int .i32 y.2.1,.int .i64 y.2.2] 175)):=ItStep.of_below hbw (Z6 _) (fun k hk=>(hi.i.bd.mem k hk).2);exact hK _ _ (BodyStep.of_below (Qbh (by omega)) hbw (by omega)) (hi.it stw (by omega) (by omega) hi.sz hu) ⟨W.heap.size,rfl,Go.Deep.blk_alloc_new _ _⟩
  case body2 =>
   rintro l3 A y a' W hszW ⟨r3,hr3⟩ hl3 hi ⟨Bq,rfl,hq⟩ hpreA;have q1:=C1 hq;have hbq:=Z4 hq;have hv:Vm.validB y.2.1=true:=(HCH.o y (hpreA.subset (by simp))).1;have hle:=HLEN.o A ((List.prefix_append _ _).trans hpreA);have htl:=QiC (atB enc pre++A);have HW:=hide (Qjy (w.heap.size+1) (w.heap.size+1) (txCells (atB enc pre++A)) y.2.1 hv W hi.i.bd (by omega) (by omega));have HII:=hide hi;clear hi hpreA hq hle htl;gi_wp2_with fail;refine⟨trivial,(CallsIn.inRound l3 (callsIn_wide.2 HW.o)).mono ?_⟩;rintro e W3 ⟨⟨v,rfl⟩,hd3,hg3⟩;have HX:=hide (HII.o.gr (a:=y) hd3 hg3 (by omega) (by omega) (by omega) hu);have HG:=hide (hg3.body (lo:=w4.heap.size) (by omega));clear hd3 hg3 HW;gi_wp2;exact⟨HG.o,HX.o⟩
  case done2 =>
   intro W hszW hi;have HX:=hide (show TxO w enc mark n tail w2.heap.size (pre++[x]) W from ⟨by rw[QgM];exact hi.i,hi.n1,by have:=hi.sz;omega⟩);have HBS:=hide hi.bs;clear hi;gi_wp2;exact⟨HBS.o,HX.o⟩
  case stop2=>intro c pre W h1 h2 h;exact h.elim
 case done =>
  rintro W hszW ⟨hi,hn1,hn2⟩ hd hmd;rw[Qcd] at hi;have htx:txCells (rowA enc R)=Lib.byteCells (numsB (Vm.textL (rowA enc R))):=Qhw (by rw[<-Qcd];exact Qo7 enc _);have hbd:=hi.bd;rw[htx] at hbd;have HS:=hide (QcT (w.heap.size+1) (w.heap.size+1) (numsB (Vm.textL (rowA enc R))) W hbd (by omega));have HL:=hide hi.low;clear hi hbd htx;gi_wp2_with fail;refine⟨trivial,(callsIn_wide.2 HS.o).mono ?_⟩;rintro e W3 ⟨rfl,hb3',hk3⟩;have hK3:=hk3 w3.heap.size _ (by omega) hd;have HB3:=hide (HL.o.trans (hb3'.mono (by omega)));clear hk3 hb3' HS;gi_wp2;rw[hs3] at hK3;refine⟨by simp,.inl ⟨_,_,rfl,run_takeDeferred hK3,?_⟩⟩;refine⟨.string ⟨(numsB (Vm.textL (rowA enc R))).toArray⟩,by simp [results,Tryz.results67,go_sem],?_,?_⟩
  ·rw[Qfq]
  have hz:=HB3.o;exact⟨hz.os,hz.tape,hz.output,by simpa using hz.size,fun k hk=>(World.putObj_heap_other (by omega)).trans (hz.block k hk)⟩
 case stop=>intro c pre W h1 h2 h;exact h.elim
open Go.RowKit
def mkB (enc:Int) (mark:Bool):ByteArray:=if mark then markB enc else ⟨#[]⟩
theorem QcI (enc:Int) (mark:Bool):(mkB enc mark).size<=3:=by
 unfold mkB;cases mark
 ·exact Nat.zero_le _
 simp only[if_true];have:=QaN enc;omega
theorem Qd1 (enc:Int) (mark:Bool) (n:Option Nd) (tail:ByteArray) (w:World) (ht:Tabs w) (h0:0<=enc) (h3:enc<=3) :
  Calls prog 85 #[.agg #[.int .i64 enc,.bool mark,trv n,.string tail]] w fun e w'=>e=.returned (.string (mkB enc mark))/\Below w.heap.size w w':=by
 have hb0:=Z7 w (.cells #[.int .i64 enc,.bool mark,trv n,.string tail] 91)
 cases mark with
 |false =>
  have HB:=Z1 hb0;clear hb0;go_enter func85,ntmps85;go_wp2;go_ret;exact⟨rfl,HB.o⟩
 |true =>
  have HM:=Z1 (QbL enc _ (ht.below hb0).enc h0 h3);have HB:=Z1 hb0;clear hb0;go_enter func85,ntmps85;go_wp2_with fail;refine HM.o.mono ?_;rintro e w1 ⟨rfl,hb1⟩;have HB1:=Z1 (HB.o.trans (hb1.mono HB.o.size));clear hb1 HM HB;go_wp2;go_ret;exact⟨rfl,HB1.o⟩
theorem QjR (s:ByteArray) (f t:Int) (w:World) (hs:s.size<=1099511627776) :
  Calls prog 88 #[.string s,.int .i64 f,.int .i64 t] w fun e w'=>∃r:ByteArray,e=.returned (.string r)/\r.data.toList=Vm.partL s.data.toList f t/\w'=w:=by
 by_cases h:min t (s.size:Int)<=max f 0
 ·have hp:Vm.partL s.data.toList f t=[]:=by
   unfold Vm.partL;apply List.drop_eq_nil_of_le;rw[List.length_take];have:s.data.toList.length=s.size:=rfl;omega
  rw[hp];go_enter func88,ntmps88;go_wp2_with fail;go_ret;exact⟨_,rfl,rfl,rfl⟩
 have x1:(0:Int)<=max f 0:=by omega
 have x2:max f 0<=min t (s.size:Int):=by omega
 have x3:(0:Int)<=min t (s.size:Int):=by omega
 have x4:min t (s.size:Int)<=(s.size:Int):=by omega
 have HX:=Z1 (Vm.Qcw s (max f 0).toNat (min t (s.size:Int)).toNat f t (by omega) (by omega))
 go_enter func88,ntmps88
 go_wp2_with fail
 go_ret
 exact⟨_,rfl,HX.o,rfl⟩
structure CtR (w0:World) (enc:Int) (n:Option Nd) (R:List (Cn × ByteArray)) (w:World):Prop where
 tabs:Tabs w
 tr:TrAt w enc n R
 low:Below w0.heap.size w0 w
theorem CtR.step (h:CtR w0 enc n R w) (hb:Below w.heap.size w w'):CtR w0 enc n R w' :=
 ⟨h.tabs.below hb,h.tr.low hb,h.low.trans (hb.mono h.low.size)⟩
section
variable {Z:Nat} {w0:World} {enc:Int} {mark:Bool} {n:Option Nd} {R:List (Cn × ByteArray)} {tail:ByteArray} {w1 w2:World}
theorem Qet (H:w1.cell? ⟨Z,0,none⟩=some (.int .i64 enc)/\w1.cell? ⟨Z,1,none⟩=some (.bool mark)/\w1.cell? ⟨Z,2,none⟩=some (trv n)/\w1.cell? ⟨Z,3,none⟩=some (.string tail)/\CtR w0 enc n R w1) (hb:Below w1.heap.size w1 w2):w2.cell? ⟨Z,0,none⟩=some (.int .i64 enc)/\w2.cell? ⟨Z,1,none⟩=some (.bool mark)/\w2.cell? ⟨Z,2,none⟩=some (trv n)/\w2.cell? ⟨Z,3,none⟩=some (.string tail)/\CtR w0 enc n R w2:=by
 obtain⟨h1,h2,h3,h4,h5⟩:=H;exact⟨(hb.cell (p:=⟨Z,0,none⟩) (Z3 h1)).trans h1,(hb.cell (p:=⟨Z,1,none⟩) (Z3 h1)).trans h2,(hb.cell (p:=⟨Z,2,none⟩) (Z3 h1)).trans h3,(hb.cell (p:=⟨Z,3,none⟩) (Z3 h1)).trans h4,h5.step hb⟩
theorem Qeg (H:w1.cell? ⟨Z,0,none⟩=some (.int .i64 enc)/\w1.cell? ⟨Z,1,none⟩=some (.bool mark)/\w1.cell? ⟨Z,2,none⟩=some (trv n)/\w1.cell? ⟨Z,3,none⟩=some (.string tail)/\CtR w0 enc n R w1):w1.drew.cell? ⟨Z,0,none⟩=some (.int .i64 enc)/\w1.drew.cell? ⟨Z,1,none⟩=some (.bool mark)/\w1.drew.cell? ⟨Z,2,none⟩=some (trv n)/\w1.drew.cell? ⟨Z,3,none⟩=some (.string tail)/\CtR w0 enc n R w1.drew:=Qet H ((Below.refl _ _).drew)
theorem QgX (H:w1.cell? ⟨Z,0,none⟩=some (.int .i64 enc)/\w1.cell? ⟨Z,1,none⟩=some (.bool mark)/\w1.cell? ⟨Z,2,none⟩=some (trv n)/\w1.cell? ⟨Z,3,none⟩=some (.string tail)/\CtR w0 enc n R w1):Tabs w1:=H.2.2.2.2.tabs
theorem Ct_tr (H:w1.cell? ⟨Z,0,none⟩=some (.int .i64 enc)/\w1.cell? ⟨Z,1,none⟩=some (.bool mark)/\w1.cell? ⟨Z,2,none⟩=some (trv n)/\w1.cell? ⟨Z,3,none⟩=some (.string tail)/\CtR w0 enc n R w1):TrAt w1 enc n R:=H.2.2.2.2.tr
theorem QnZ (H:w1.cell? ⟨Z,0,none⟩=some (.int .i64 enc)/\w1.cell? ⟨Z,1,none⟩=some (.bool mark)/\w1.cell? ⟨Z,2,none⟩=some (trv n)/\w1.cell? ⟨Z,3,none⟩=some (.string tail)/\CtR w0 enc n R w1):Below w0.heap.size w0 w1:=H.2.2.2.2.low
end
theorem Qe0 (enc:Int) (mark:Bool) (n:Option Nd) (R:List (Cn × ByteArray)) (tail:ByteArray) (w:World) (ht:Tabs w) (hr:TrAt w enc n R) (h0:0<=enc) (h3:enc<=3) (hl:(rowB R).length<=1099511627776) (htl:tail.size<=1099511627776) :
  Calls prog 52 #[.agg #[.int .i64 enc,.bool mark,trv n,.string tail]] w fun e w'=>e=.returned (.int .i64 (((mkB enc mark).size+(rowB R).length+tail.size:Nat):Int))/\Below w.heap.size w w':=by
 have hb0:=Z7 w (.cells #[.int .i64 enc,.bool mark,trv n,.string tail] 91)
 have hsz:=Qae hr.ok
 have hms:=QcI enc mark
 have HM:=Z1 (fun w1 (h:Tabs w1)=>Qd1 enc mark n tail w1 h h0 h3)
 have HC:=Z1 (fun w1 (h:TrAt w1 enc n R)=>h.counts)
 have hc0:CtR w enc n R (w.alloc (.cells #[.int .i64 enc,.bool mark,trv n,.string tail] 91)):=⟨ht.below hb0,hr.low hb0,hb0⟩
 have HS0:=Z1 hc0
 clear hb0 hr ht hc0
 have fb:=QaA
 simp only[cnOf,Cn.val] at HC
 generalize mkB enc mark=mb at *
 go_enter func52,ntmps52
 go_wp2_with fail
 have hS:(w.alloc (.cells #[.int .i64 enc,.bool mark,trv n,.string tail] 91)).cell? ⟨w.heap.size,0,none⟩=some (.int .i64 enc)/\(w.alloc (.cells #[.int .i64 enc,.bool mark,trv n,.string tail] 91)).cell? ⟨w.heap.size,1,none⟩=some (.bool mark)/\(w.alloc (.cells #[.int .i64 enc,.bool mark,trv n,.string tail] 91)).cell? ⟨w.heap.size,2,none⟩=some (trv n)/\(w.alloc (.cells #[.int .i64 enc,.bool mark,trv n,.string tail] 91)).cell? ⟨w.heap.size,3,none⟩=some (.string tail)/\CtR w enc n R (w.alloc (.cells #[.int .i64 enc,.bool mark,trv n,.string tail] 91)):=⟨by simp,by simp,by simp,by simp,HS0.o⟩
 generalize hZ:w.heap.size=Z at *
 have HZ:=Z1 hZ
 clear hZ
 have HSS:=Z1 hS
 clear HS0
 obtain⟨p0,p1,p2,p3,_⟩:=hS
 generalize (w.alloc (.cells #[.int .i64 enc,.bool mark,trv n,.string tail] 91))=W at *
 have hSd:=Qeg HSS.o
 go_region_held3 (fun w'=>w'.cell? ⟨Z,0,none⟩=some (.int .i64 enc)/\w'.cell? ⟨Z,1,none⟩=some (.bool mark)/\w'.cell? ⟨Z,2,none⟩=some (trv n)/\w'.cell? ⟨Z,3,none⟩=some (.string tail)/\CtR w enc n R w')
  (first|assumption|exact HSS.o|exact Qeg HSS.o)
  (first
   |(go_at_call 85;refine (HM.o _ (QgX (by assumption))).mono ?_;rintro e w3 ⟨rfl,hb3⟩;have hS3:=Qet (by assumption) hb3)
   |(go_at_call 55;refine (HC.o _ (Ct_tr (by assumption))).mono ?_;rintro e w4 ⟨rfl,hb4⟩;have hS4:=Qet (by assumption) hb4))
 clear p0 p1 p2 p3
 have hw1:IntKind.i64.wrap ((mb.size:Int)+((rowB R).length:Int))=(mb.size:Int)+((rowB R).length:Int):=by rw[IntKind.wrap_i64];omega
 have hw2:IntKind.i64.wrap ((mb.size:Int)+((rowB R).length:Int)+(tail.size:Int))=(mb.size:Int)+((rowB R).length:Int)+(tail.size:Int):=by rw[IntKind.wrap_i64];omega
 rw[hw1,hw2]
 have hlow:=QnZ hS4
 clear hS3 hS4 hSd
 go_wp2
 go_ret
 refine⟨?_,hlow⟩
 simp
def ctB (enc:Int) (mark:Bool) (R:List (Cn × ByteArray)) (tail:ByteArray):List UInt8:=(mkB enc mark).data.toList++(rowB R++tail.data.toList)
structure PcI (w0:World) (enc:Int) (mark:Bool) (n:Option Nd) (R:List (Cn × ByteArray)) (tail:ByteArray) (bs:List Value) (W:World):Prop where
 bd:Bd (w0.heap.size+1) (w0.heap.size+1) bs W
 c:W.heap[w0.heap.size]?=some (.cells #[.int .i64 enc,.bool mark,trv n,.string tail] 91)
 tr:TrAt W enc n R
 tabs:Tabs W
 low:Below w0.heap.size w0 W
 sz:w0.heap.size+1<W.heap.size
theorem PcI.step {bs:List Value} (h:PcI w0 enc mark n R tail bs W) (hb:Below W.heap.size W W'):PcI w0 enc mark n R tail bs W' :=
 ⟨h.bd.low hb,(hb.block _ (Z4 h.c)).trans h.c,h.tr.low hb,h.tabs.below hb,h.low.trans (hb.mono h.low.size),Nat.lt_of_lt_of_le h.sz hb.size⟩
theorem PcI.put {bs bs':List Value} (h:PcI w0 enc mark n R tail bs W) (hd:Bd (w0.heap.size+1) (w0.heap.size+1) bs' W') (hb:Below (w0.heap.size+1) W W') (ht:Tabs w0) (hu:UndT n w0.heap.size):PcI w0 enc mark n R tail bs' W':=by
 have hlow:=h.low.trans (hb.mono (by omega));exact⟨hd,(hb.block _ (by omega)).trans h.c,h.tr.keptN (fun k hk=>hb.block k (by omega)) hu,ht.below hlow,hlow,Nat.lt_of_lt_of_le h.sz hb.size⟩
theorem PcI.at_ {bs:List Value} (h:PcI w0 enc mark n R tail bs W) :
  W.cell? ⟨w0.heap.size,0,none⟩=some (.int .i64 enc)/\W.cell? ⟨w0.heap.size,1,none⟩=some (.bool mark)/\W.cell? ⟨w0.heap.size,2,none⟩=some (trv n)/\W.cell? ⟨w0.heap.size,3,none⟩=some (.string tail) :=
 ⟨by rw[Lib.cell_of_heap h.c];rfl,by rw[Lib.cell_of_heap h.c];rfl,by rw[Lib.cell_of_heap h.c];rfl,by rw[Lib.cell_of_heap h.c];rfl⟩
theorem QdA (enc:Int) (mark:Bool) (n:Option Nd) (R:List (Cn × ByteArray)) (tail:ByteArray) (f t:Nat) (w:World) (ht:Tabs w) (hr:TrAt w enc n R) (h0:0<=enc) (h3:enc<=3) (hl:(rowB R).length<=1099511627776) (htl:tail.size<=1099511627776) (hft:f<=t) (htt:t<=4398046511104) :
  Calls prog 53 #[.agg #[.int .i64 enc,.bool mark,trv n,.string tail],.int .i64 f,.int .i64 t] w fun e w'=>e=.returned (.string ⟨(Vm.partL (ctB enc mark R tail) f t).toArray⟩)/\Below w.heap.size w w':=by
 have hu:=hr.int.und
 have hms:=QcI enc mark
 have hsz:=Qae hr.ok
 have HM:=Z1 (fun w1 (h:Tabs w1)=>Qd1 enc mark n tail w1 h h0 h3)
 have HC:=Z1 (fun w1 (h:TrAt w1 enc n R)=>h.counts)
 have hbw:Below w.heap.size w ((w.alloc (.cells #[.int .i64 enc,.bool mark,trv n,.string tail] 91)).alloc (.cells #[.pointer none,.slice none 0 0] 144)):=(Z7 _ _).alloc (by simp) _
 have hz0:((w.alloc (.cells #[.int .i64 enc,.bool mark,trv n,.string tail] 91)).alloc (.cells #[.pointer none,.slice none 0 0] 144)).heap.size=w.heap.size+2:=by simp
 have k0:((w.alloc (.cells #[.int .i64 enc,.bool mark,trv n,.string tail] 91)).alloc (.cells #[.pointer none,.slice none 0 0] 144)).heap[w.heap.size]?=some (.cells #[.int .i64 enc,.bool mark,trv n,.string tail] 91):=by
  rw[Below.heap_alloc _ _ _ (by simp)];exact Go.Deep.blk_alloc_new _ _
 have k1:((w.alloc (.cells #[.int .i64 enc,.bool mark,trv n,.string tail] 91)).alloc (.cells #[.pointer none,.slice none 0 0] 144)).heap[w.heap.size+1]?=some (.cells #[.pointer none,.slice none 0 0] 144):=by
  have:=Go.Deep.blk_alloc_new (w.alloc (.cells #[.int .i64 enc,.bool mark,trv n,.string tail] 91)) (.cells #[.pointer none,.slice none 0 0] 144);rwa [World.size_alloc] at this
 have hgr:=Qd6 (w.heap.size+1) (w.heap.size+1) (t - f) _ (Z6 _) k1 (by omega) (by omega)
 rw[show ((t - f:Nat):Int)=(t:Int) - (f:Int) by omega] at hgr
 have HG:=Z1 hgr
 have HT:=Z1 ht
 have HP0:=Z1 (fun W' (hd:Bd (w.heap.size+1) (w.heap.size+1) [] W') (hb:Below (w.heap.size+1) ((w.alloc (.cells #[.int .i64 enc,.bool mark,trv n,.string tail] 91)).alloc (.cells #[.pointer none,.slice none 0 0] 144)) W') =>
  (show PcI w enc mark n R tail [] W' from ⟨hd,(hb.block _ (by omega)).trans k0,hr.keptN (hbw.trans (hb.mono (by omega))).block hu,ht.below (hbw.trans (hb.mono (by omega))),hbw.trans (hb.mono (by omega)),by have:=hb.size;omega⟩))
 clear hbw k0 k1 hgr hr ht
 have fb:=QaA
 simp only[cnOf,Cn.val] at HC
 go_enter func53,ntmps53
 go_wp2_with fail
 refine HG.o.mono ?_
 rintro e w1 ⟨rfl,hd1,hb1⟩
 have H1:=Z1 (HP0.o _ hd1 hb1)
 clear hd1 hb1 HP0 HG hz0
 obtain⟨p0,p1,p2,p3⟩:=H1.o.at_
 have hz1:=H1.o.sz
 go_wp2_with fail
 refine (HM.o _ H1.o.tabs).mono ?_
 rintro e w2 ⟨rfl,hb2⟩
 have H2:=Z1 (H1.o.step hb2)
 clear hb2 H1 p0 p1 p2 p3 hz1
 obtain⟨p0,p1,p2,p3⟩:=H2.o.at_
 have hz2:=H2.o.sz
 generalize hmb:mkB enc mark=mb at *
 have HMB:=Z1 hmb
 clear hmb
 go_wp2_with fail
 refine (QjR mb f t w2 (by omega)).mono ?_
 rintro e w2' ⟨r1,rfl,hr1,rfl⟩
 have hrs1:r1.size<=mb.size:=by
  have h1:r1.data.toList.length=r1.size:=rfl;have h2:=Vm.Qcn mb.data.toList f t;have h3:mb.data.toList.length=mb.size:=rfl;rw[<-hr1] at h2;omega
 go_wp2_with fail
 refine (QiB _ _ [] r1 w2' H2.o.bd (by simp;omega) (by omega)).mono ?_
 rintro e w3 ⟨rfl,hd3,hb3⟩
 have H3:=Z1 (H2.o.put hd3 hb3 HT.o hu)
 clear hd3 hb3 H2 p0 p1 p2 p3 hz2
 obtain⟨p0,p1,p2,p3⟩:=H3.o.at_
 have hz3:=H3.o.sz
 have hc1:([]++Lib.strCells r1).length=r1.size:=by simp [Lib.strCells_length]
 generalize hcs:[]++Lib.strCells r1=cs1 at *
 have HCS1:=Z1 hcs
 clear hcs
 have HW:=Z1 (QkL (w.heap.size+1) enc n R (w.heap.size+1) cs1 ((f:Int) - mb.size) ((t:Int) - mb.size) w3 H3.o.tr (fun m hm=>(hu m hm).mono (by omega)) H3.o.bd (by omega) (by omega) (by omega) (by omega) (by omega))
 go_wp2_with fail
 refine HW.o.mono ?_
 rintro e w4 ⟨rfl,hd4,hb4⟩
 have H4:=Z1 (H3.o.put hd4 hb4 HT.o hu)
 clear hd4 hb4 H3 p0 p1 p2 p3 hz3 HW
 obtain⟨p0,p1,p2,p3⟩:=H4.o.at_
 have hz4:=H4.o.sz
 have hbl:=Lib.byteCells_length (Vm.partL (rowB R) ((f:Int) - mb.size) ((t:Int) - mb.size))
 have hpl:=Vm.Qcn (rowB R) ((f:Int) - mb.size) ((t:Int) - mb.size)
 have hc2:(cs1++Lib.byteCells (Vm.partL (rowB R) ((f:Int) - mb.size) ((t:Int) - mb.size))).length<=r1.size+(rowB R).length:=by rw[List.length_append,hc1,hbl];omega
 generalize hcs2:cs1++Lib.byteCells (Vm.partL (rowB R) ((f:Int) - mb.size) ((t:Int) - mb.size))=cs2 at *
 have HCS2:=Z1 hcs2
 clear hcs2 hbl hpl
 go_wp2_with fail
 refine (HC.o _ H4.o.tr).mono ?_
 rintro e w5 ⟨rfl,hb5⟩
 have H5:=Z1 (H4.o.step hb5)
 clear hb5 H4 p0 p1 p2 p3 hz4
 obtain⟨p0,p1,p2,p3⟩:=H5.o.at_
 have hz5:=H5.o.sz
 go_wp2_with fail
 refine (QjR tail ((f:Int) - mb.size - (rowB R).length) ((t:Int) - mb.size - (rowB R).length) w5 (by omega)).mono ?_
 rintro e w5' ⟨r2,rfl,hr2,rfl⟩
 have hrs2:r2.size<=tail.size:=by
  have h1:r2.data.toList.length=r2.size:=rfl;have h2:=Vm.Qcn tail.data.toList ((f:Int) - mb.size - (rowB R).length) ((t:Int) - mb.size - (rowB R).length);have h3:tail.data.toList.length=tail.size:=rfl;rw[<-hr2] at h2;omega
 go_wp2_with fail
 refine (QiB _ _ cs2 r2 w5' H5.o.bd (by omega) (by omega)).mono ?_
 rintro e w6 ⟨rfl,hd6,hb6⟩
 have H6:=Z1 (H5.o.put hd6 hb6 HT.o hu)
 clear hd6 hb6 H5 p0 p1 p2 p3 hz5
 have hz6:=H6.o.sz
 have hall:cs2++Lib.strCells r2=Lib.byteCells (Vm.partL (ctB enc mark R tail) f t):=by
  rw[<-HCS2.o,<-HCS1.o];unfold ctB;rw[HMB.o,Vm.Qb8,Vm.Qb8];have e1:Lib.strCells r1=Lib.byteCells (Vm.partL mb.data.toList f t):=by rw[<-hr1];rfl
  have e2:Lib.strCells r2=Lib.byteCells (Vm.partL tail.data.toList ((f:Int) - mb.size - (rowB R).length) ((t:Int) - mb.size - (rowB R).length)):=by rw[<-hr2];rfl
  have e3:(mb.data.toList.length:Int)=mb.size:=rfl;rw[e1,e2,e3];simp [Lib.byteCells]
 have hbd:=H6.o.bd
 rw[hall] at hbd
 have HS:=Z1 (Qgy (w.heap.size+1) (w.heap.size+1) (Vm.partL (ctB enc mark R tail) f t) w6 hbd (by omega))
 have HL:=Z1 H6.o.low
 clear hbd hall H6
 go_wp2_with fail
 refine HS.o.mono ?_
 rintro e w7 ⟨rfl,hb7⟩
 have HL7:=Z1 (HL.o.trans (hb7.mono (by omega)))
 clear hb7 HS
 go_wp2_with fail
 go_ret
 exact⟨rfl,HL7.o⟩
end Go.Proofs.YtoejbngihecafaaGreatDoor
