import Derived.Test.YtoejbngihecafaaGreatDoorC17
import Derived.Test.YtoejbngihecafaaGreatDoorC0
set_option maxRecDepth 100000
set_option maxHeartbeats 1000000
open Go.Proofs.Tryz
namespace Go.Proofs.YtoejbngihecafaaGreatDoor
open Go.RowKit Go.Shelf Go.Vit
variable {B b:Nat} {bs:List Value} {w:World}
attribute [local go_sem] Oper.semAt_some
def Bg (B b:Nat) (bs:List Value) (w:World):Prop:=Lib.IsBuilder 144 5 B b bs w
theorem Bg.of (h:Bd B b bs w):Bg B b bs w:=.inr h
theorem Bg.fresh (hB:B<=b) (h:w.heap[b]?=some (.cells #[.pointer none,.slice none 0 0] 144)):Bg B b [] w :=
 .inl ⟨hB,.slice none 0 0,h,World.ownsRow_nil w B 5 1,by simp [Value.ownBlock]⟩
theorem Bg.low {w':World} (h:Bg B b bs w) (hb:Below w.heap.size w w'):Bg B b bs w':=by
 rcases h with h|h
 ·obtain⟨hB,v,hbk,hown,hne⟩:=h;refine .inl ⟨hB,v,(hb.block b (Z4 hbk)).trans hbk,⟨hown.1,?_⟩,hne⟩;rcases hown.2 with x|⟨g,cap,cur,e1,e2,e3,r⟩
  ·exact .inl x
  exact .inr ⟨g,cap,cur,e1,e2,(hb.block g (Z4 e3)).trans e3,r⟩
 exact .inr (Bd.low h hb)
theorem QiR (h:Bg B b bs w):Bg B b bs w.drew:=h.low (Below.refl _ _).drew
theorem QjS (B b:Nat) (bs:List Value) (s:ByteArray) (w:World) (h:Bg B b bs w) (hlen:bs.length+s.size<=140737488355328) (hBw:B<=w.heap.size) :
  Calls prog 87 #[.pointer (some ⟨b,0,none⟩),.string s] w fun e w'=>e=.returned (.tuple #[.int .i64 s.size,.nilIface])/\Bd B b (bs++Lib.strCells s) w'/\Below B w w' :=
 Any.Builder_WriteString lays166 extraB B b bs s w h hlen hBw
theorem Qf5 (B b:Nat) (bs:List Value) (Bl:Nat) (c:Cn) (s:ByteArray) (f t:Int) (w:World) (hl:(Nd.leaf Bl c s).In w) (hc:c.body=s.size) (hd:Bg B b bs w) (hBw:B<=w.heap.size)
  (hlen:bs.length+s.size<=140737488355328) (_h1:-4611686018427387904<=f) (h2:t<=4611686018427387904) (hft:f<=t) (hin:f<s.size) (h0:0<t) (hBl:Bl<B) :
  Calls prog 202 #[.pointer (some ⟨Bl,0,none⟩),.pointer (some ⟨b,0,none⟩),.int .i64 f,.int .i64 t] w fun e w'=>e=.returned (.tuple #[])/\Bg B b (bs++Lib.byteCells (Vm.partL s.data.toList f t)) w'/\Below B w w':=by
 have c0:=C0 hl
 have c9:w.cell? ⟨Bl,9,none⟩=some (.string s):=by rw[Lib.cell_of_heap hl];rfl
 have hbz:=Z4 hl
 rw[hc] at c0
 clear hl hc
 have HD:=Z1 hd
 clear hd
 have x1:(0:Int)<=max f 0:=by omega
 have x2:max f 0<=min t (s.size:Int):=by omega
 have x3:(0:Int)<=min t (s.size:Int):=by omega
 have x4:min t (s.size:Int)<=(s.size:Int):=by omega
 have HW:=Z1 (fun w' (h:Bg B b bs w') (hz:B<=w'.heap.size)=>QjS B b bs (s.extract (max f 0).toNat (min t (s.size:Int)).toNat) w' h (by rw[ByteArray.size_extract];omega) hz)
 have HX:=Z1 (Vm.Qcw s (max f 0).toNat (min t (s.size:Int)).toNat f t (by omega) (by omega))
 go_enter func202,ntmps202
 go_wp2_with fail
 go_region_held3 (fun w'=>w'.cell? ⟨Bl,0,none⟩=some (.int .i64 s.size)/\w'.cell? ⟨Bl,9,none⟩=some (.string s)) (first|exact⟨k0,k9⟩|go_keep)
  (first
   |(go_at_call 87;refine (HW.o _ (QiR HD.o) hBw).mono ?_;rintro e w1 ⟨rfl,hd1,hb1⟩;have k0:w1.cell? ⟨Bl,0,none⟩=some (.int .i64 s.size):=(hb1.cell (p:=⟨Bl,0,none⟩) hBl).trans c0;have k9:w1.cell? ⟨Bl,9,none⟩=some (.string s):=(hb1.cell (p:=⟨Bl,9,none⟩) hBl).trans c9))
 all_goals
  go_wp2_with fail;go_returns;refine⟨rfl,?_,⟨hb1.os,hb1.tape,hb1.output,hb1.size,hb1.block⟩⟩;rw[<-HX.o];exact Bg.of hd1
def WritesG (n:Nd) (B:Nat):Prop:=∀(b:Nat) (bs:List Value) (f t:Int) (w:World),n.In w->Bg B b bs w->B<=w.heap.size->bs.length+(rowB n.row).length<=140737488355328->((rowB n.row).length:Int) - 4611686018427387904<=f->t<=4611686018427387904->f<=t ->
 Calls prog n.wf #[.pointer (some ⟨n.blk,0,none⟩),.pointer (some ⟨b,0,none⟩),.int .i64 f,.int .i64 t] w fun e w'=>e=.returned (.tuple #[])/\Bg B b (bs++Lib.byteCells (Vm.partL (rowB n.row) f t)) w'/\Below B w w'
theorem Qh0 (Bl:Nat) (c:Cn) (s:ByteArray) (B:Nat) (hB:Bl<B) (hc:c.body=s.size):WritesG (.leaf Bl c s) B:=by
 intro b bs f t w hl hd hBw hlen h1 h2 hft;have hr:rowB (Nd.leaf Bl c s).row=s.data.toList:=by simp [rowB,Nd.row]
 rw[hr] at hlen h1 ⊢;by_cases h:(s.size:Int)<=f\/t<=0
 ·have hp:Vm.partL s.data.toList f t=[]:=Vm.QdR (h.elim (fun x=>.inl x) (fun x=>.inr (.inl x)));rw[hp,Qa8,List.append_nil];refine (Qdi b Bl c s f t w hl hc h).mono ?_;rintro e w' ⟨rfl,rfl⟩;exact⟨rfl,hd,Below.refl _ _⟩
 exact Qf5 B b bs Bl c s f t w hl hc hd hBw hlen (by omega) h2 hft (by omega) (by omega) hB
theorem Qf4 (B:Nat) (Bl:Nat) (c:Cn) (k:Nat) (l r:Nd) (hu:(Nd.inner Bl c k l r).Und B) (hlc:l.cn.body=(rowB l.row).length) (ihl:WritesG l B) (ihr:WritesG r B)
  (b:Nat) (bs:List Value) (f t:Int) (w:World) (hl:(Nd.inner Bl c k l r).In w) (hd:Bg B b bs w) (hBw:B<=w.heap.size) (hlen:bs.length+((rowB l.row).length+(rowB r.row).length)<=140737488355328) (h1:(((rowB l.row).length+(rowB r.row).length:Nat):Int) - 4611686018427387904<=f) (h2:t<=4611686018427387904) (hft:f<=t) (hf':f<(c.body:Int)) (h0:0<t) :
  Calls prog 209 #[.pointer (some ⟨Bl,0,none⟩),.pointer (some ⟨b,0,none⟩),.int .i64 f,.int .i64 t] w fun e w'=>e=.returned (.tuple #[]) /\
   Bg B b (bs++Lib.byteCells (Vm.partL (rowB l.row) f t)++Lib.byteCells (Vm.partL (rowB r.row) (f - (rowB l.row).length) (t - (rowB l.row).length))) w'/\Below B w w':=by
 have c0:=C0 hl.1
 obtain⟨p9,p10⟩:=Qal hl
 have hbz:=Z4 hl.1
 have hw1:=Qcg l
 have hw2:=Qcg r
 have hm1:=QbT l 362
 have hm2:=QbT r 362
 have fb:=QaA
 have HL:=Z1 hl
 have HD:=Z1 hd
 clear hl hd
 go_enter func209,ntmps209
 go_wp2_with fail
 rw[Qa0 l 362 _ HL.o.2.1]
 go_wp2_with fail
 refine (Qbn l.cn _).mono ?_
 rintro e w1 ⟨rfl,hb1⟩
 have HL1:=Z1 (Nd.low hb1 HL.o)
 have HD1:=Z1 (HD.o.low hb1)
 have hs1:=hb1.size
 have HB1:=Z1 (hb1.mono hBw)
 clear c0 p9 p10 hb1 HL HD
 obtain⟨p9,p10⟩:=Qal HL1.o
 have hbz1:=Z4 HL1.o.1
 generalize hlcn:l.cn=lc at *
 obtain⟨d0,d1,d2,d3,d4,d5,d6,d7⟩:=lc
 simp only[Cn.val] at hlc ⊢
 clear hlcn
 go_wp2_with fail
 refine (ihl b bs f t w1 HL1.o.2.1 HD1.o (by omega) (by omega) (by omega) h2 hft).mono ?_
 rintro e w2 ⟨rfl,hd2,hb2⟩
 have HL2:=Z1 (Nd.kept hb2.block hu HL1.o)
 have HD2:=Z1 hd2
 have hs2:=hb2.size
 have HB2:=Z1 (HB1.o.trans hb2)
 clear p9 p10 hb2 HL1 HD1 hd2 HB1
 obtain⟨p9,p10⟩:=Qal HL2.o
 have hbz2:=Z4 HL2.o.1
 have hpl:=Vm.Qcn (rowB l.row) f t
 have hbl:=Lib.byteCells_length (Vm.partL (rowB l.row) f t)
 have hq:=ihr b (bs++Lib.byteCells (Vm.partL (rowB l.row) f t)) (f - (rowB l.row).length) (t - (rowB l.row).length) w2 HL2.o.2.2 HD2.o (by omega) (by rw[List.length_append,hbl];omega) (by omega) (by omega) (by omega)
 have HR:=Z1 hq
 clear hq hpl hbl
 generalize hah:(rowB l.row).length=ah at *
 have HAH:=Z1 hah
 clear hah
 go_wp2_with fail
 refine HR.o.mono ?_
 rintro e w3 ⟨rfl,hd3,hb3⟩
 have HD3:=Z1 hd3
 have HB3:=Z1 (HB2.o.trans hb3)
 clear hd3 hb3 HR
 go_wp2_with fail
 go_returns
 rw[HAH.o]
 exact⟨rfl,HD3.o,HB3.o⟩
theorem Qds (B:Nat):∀(n:Nd) (enc:Int),n.Und B->n.Ok->(∀x∈n.row,LeafOk enc x)->WritesG n B
 |.leaf Bl c s,_,hu,ho,_=>Qh0 Bl c s B hu ho
 |.inner Bl c k l r,enc,hu,ho,hr=>by
  have ol:=ho.2.2.1
  have or:=ho.2.2.2
  have rl:∀x∈l.row,LeafOk enc x:=fun x hx=>hr x (by simp [Nd.row,hx])
  have rr:∀x∈r.row,LeafOk enc x:=fun x hx=>hr x (by simp [Nd.row,hx])
  have ihl:=Qds B l enc hu.2.1 ol rl
  have ihr:=Qds B r enc hu.2.2 or rr
  have hlc:l.cn.body=(rowB l.row).length:=by rw[Nd.cn_row enc ol rl];exact Qae rl
  have hrc:r.cn.body=(rowB r.row).length:=by rw[Nd.cn_row enc or rr];exact Qae rr
  have hc:c.body=(rowB l.row).length+(rowB r.row).length:=by
   have:c=l.cn.plus r.cn:=ho.1;rw[this];show l.cn.body+r.cn.body=_;rw[hlc,hrc]
  have hrow:rowB (Nd.inner Bl c k l r).row=rowB l.row++rowB r.row:=by show rowB (l.row++r.row)=_;exact Qaf _ _
  intro b bs f t w hl hd hBw hlen h1 h2 hft;rw[hrow] at hlen h1 ⊢;rw[List.length_append] at hlen h1;by_cases h:(c.body:Int)<=f\/t<=0
  ·have hp:Vm.partL (rowB l.row++rowB r.row) f t=[]:=Vm.QdR (h.elim (fun x=>.inl (by rw[List.length_append,<-hc];exact x)) (fun x=>.inr (.inl x)));rw[hp,Qa8,List.append_nil];refine (QcY b Bl c k l r f t w hl h).mono ?_;rintro e w' ⟨rfl,rfl⟩;exact⟨rfl,hd,Below.refl _ _⟩
  refine (Qf4 B Bl c k l r hu hlc ihl ihr b bs f t w hl hd hBw hlen h1 h2 hft (by omega) (by omega)).mono ?_;rintro e w' ⟨rfl,hd',hb'⟩;refine⟨rfl,?_,hb'⟩
  have e1:Lib.byteCells (Vm.partL (rowB l.row++rowB r.row) f t)=Lib.byteCells (Vm.partL (rowB l.row) f t)++Lib.byteCells (Vm.partL (rowB r.row) (f - (rowB l.row).length) (t - (rowB l.row).length)):=by
   rw[Vm.Qb8];simp [Lib.byteCells]
  rw[e1,<-List.append_assoc];exact hd'
theorem QiS (B:Nat) (enc:Int) (tr:Option Nd) (R:List (Cn × ByteArray)) (b:Nat) (bs:List Value) (f t:Int) (w:World) (ht:TrAt w enc tr R) (hu:∀n,tr=some n->n.Und B) (hd:Bg B b bs w) (hBw:B<=w.heap.size)
  (hlen:bs.length+(rowB R).length<=140737488355328) (h1:((rowB R).length:Int) - 4611686018427387904<=f) (h2:t<=4611686018427387904) (hft:f<=t) :
  Calls prog 89 #[.agg #[trv tr],.pointer (some ⟨b,0,none⟩),.int .i64 f,.int .i64 t] w fun e w'=>e=.returned (.tuple #[])/\Bg B b (bs++Lib.byteCells (Vm.partL (rowB R) f t)) w'/\Below B w w':=by
 cases tr with
 |none =>
  have hR:=ht.non rfl;subst hR;have hp:Vm.partL (rowB []) f t=[]:=by simp [rowB,Vm.partL]
  rw[hp,Qa8,List.append_nil];have hb':=Z7 w (.cells #[.nilIface] 89);have HD:=Z1 (hd.low hb');have HB:=Z1 (hb'.mono hBw);clear hd ht hu hb';simp only[trv];go_enter func89,ntmps89;go_wp2_with fail;go_returns;exact⟨rfl,HD.o,HB.o⟩
 |some n =>
  obtain⟨hn,ho,hr⟩:=ht.inn n rfl;subst hr;have hw:=Qds B n enc (hu n rfl) ho ht.ok;have hb':=Z7 w (.cells #[.iface n.ty (.pointer (some ⟨n.blk,0,none⟩))] 89);have hq:=hw b bs f t _ (Nd.low hb' hn) (hd.low hb') (Nat.le_trans hBw hb'.size) hlen h1 h2 hft;have HQ:=Z1 hq;have HB:=Z1 (hb'.mono hBw);have hw1:=Qcg n;have hm1:=QbT n 362;clear hd ht hu hb' hq hw;simp only[trv];go_enter func89,ntmps89;go_wp2_with fail;refine HQ.o.mono ?_;rintro e w1 ⟨rfl,hd1,hb1⟩;have HD1:=Z1 hd1;have HB1:=Z1 (HB.o.trans hb1);clear hd1 hb1 HQ HB;go_wp2_with fail;go_returns;exact⟨rfl,HD1.o,HB1.o⟩
end Go.Proofs.YtoejbngihecafaaGreatDoor
namespace Go.Vit
open Go.RowKit
variable {A B:World}
structure Recs (W W':World):Prop where
 size:W.heap.size<=W'.heap.size
 loop:∀(k:Nat) (r:Loop),W.heap[k]?=some (Obj.loop r)->W'.heap[k]?=some (Obj.loop r)
 defr:∀(k:Nat) d,W.heap[k]?=some (Obj.deferred d)->W'.heap[k]?=some (Obj.deferred d)
theorem Recs.trans {C:World} (h:Recs A B) (k:Recs B C):Recs A C:=⟨Nat.le_trans h.size k.size,fun i r x=>k.loop i r (h.loop i r x),fun i d x=>k.defr i d (h.defr i d x)⟩
theorem QbR {W:World} {k:Nat} {o:Obj} (h:W.heap[k]?=some o):k<W.heap.size:=(Array.getElem?_eq_some_iff.1 h).1
theorem Recs.of_below (h:Below A.heap.size A B):Recs A B:=⟨h.size,fun k _ x=>(h.block k (QbR x)).trans x,fun k _ x=>(h.block k (QbR x)).trans x⟩
def Iters0 {α:Type} (P:Program) (g:Nat) (args:Value->Array Value) (encs:α->Array Value) (xs:List α) (Need:World->Prop):Prop :=
 ∀(l:Nat) (J Jx:List α->World->Prop) (W:World),
  (∀s A,J s A->Need A) ->
  (∀pre x W1,J pre W1->pre++[x] <+: xs->Yields P l (encs x) W1 fun e W'=>(e=.returned (.bool true)/\J (pre++[x]) W')\/(e=.returned (.bool false)/\Jx (pre++[x]) W')) ->
  J [] W ->
  Calls P g (args (.func (.yield l) #[] #[])) W fun e W'=>(e=.returned (.bool true)/\J xs W')\/(e=.returned (.bool false)/\∃pre,pre <+: xs/\Jx pre W')
def Iters1 {α:Type} (P:Program) (g:Nat) (lb:Array Value) (encs:α->Array Value) (xs:List α) (Need:World->Prop):Prop :=
 ∀(l:Nat) (J Jx:List α->World->Prop) (W:World),
  (∀s A,J s A->Need A) ->
  (∀pre x W1,J pre W1->pre++[x] <+: xs->Yields P l (encs x) W1 fun e W'=>(e=.returned (.bool true)/\J (pre++[x]) W')\/(e=.returned (.bool false)/\Jx (pre++[x]) W')) ->
  J [] W ->
  Calls P g (#[.func (.yield l) #[] #[]]++lb) W fun e W'=>(∃v,e=.returned v)/\(J xs W'\/(∃pre,pre <+: xs/\Jx pre W'))
def itPost0 {α:Type} (I:List α->World->Prop) (xs:List α) (W:World):Exit->Act->World->Prop
 |.normal,_,W'=>Recs W W'/\I xs W'
 |_,_,_=>False
variable {P:Program}
theorem QhC {α:Type} {n:Nat} {g:Operand} {ps:Array Tmp} {assign body:Code} {Q:Exit->Act->World->Prop} {a:Act} {w:World}
  {gf:Nat} {lb:Array Value} (hg:a.eval g=.func (.func gf) #[] lb) (eg:∀args w,(callFunc gf args).run P w=.ok (.enter gf args) w)
  {encs:α->Array Value} {xs:List α} {Need:World->Prop} (hseq:Iters1 P gf lb encs xs Need) (hps:∀x,(encs x).size=ps.size)
  (I:List α->World->Prop) (hB:∀s A B,I s A->Below A.heap.size A B->I s B) (hL:∀s A (L:Nat) (r o:Loop),w.heap.size<=L->I s A->A.heap[L]?=some (Obj.loop r)->I s (A.putObj L (Obj.loop o)))
  (hN:∀s A,I s A->Need A) (h0:I [] w) (a₁:α->Act)
  (hassign:∀(l:Nat) (x:α) (W:World) (K:Act->World->Prop),K (a₁ x) W ->
   assign.wpIn (Fence.wide.inRound l) (n - 1 - 1) P (Exit.then K (fun _ _ _=>False)) { tmps:=(ps.zip (encs x)).foldl (fun t (p,v)=>t.setIfInBounds p v) a.tmps,defers:=[] } W)
  (hbody:∀(l:Nat) (pre:List α) (x:α) (W:World),w.heap.size<W.heap.size->I pre W->pre++[x] <+: xs ->
   body.wpIn (Fence.wide.inRound l) (n - 1 - 1) P (itPost0 I (pre++[x]) W) (a₁ x) W)
  (hdone:∀(W:World),w.heap.size<W.heap.size->I xs W->W.heap[w.heap.size]?=some (.deferred (some []))->Q .normal { a with defers:={ target:=.collected w.heap.size,args:=#[] } :: a.defers } W) :
  (Code.rangeFunc g ps assign body).wpIn Fence.wide n P Q a w:=by
 refine wpIn_rangeFunc ?_
 intro fn hfn
 obtain⟨rec,hrec⟩:∃rec:LoopState->Option Code->Loop,rec=fun st pe=>{ state:=st,pending:=pe,fn,tmps:=a.tmps,params:=ps,assign,body,defers:=w.heap.size }:=⟨_,rfl⟩
 obtain⟨L,hLw⟩:∃L,L=w.heap.size+1:=⟨_,rfl⟩
 obtain⟨W1,hW1⟩:∃W1,(w.alloc (.deferred (some []))).alloc (.loop (rec .ready none))=W1:=⟨_,rfl⟩
 have hs1:W1.heap.size=L+1:=by rw[<-hW1,hLw];simp
 have hL1:W1.heap[L]?=some (.loop (rec .ready none)):=by
  rw[<-hW1,hLw];have:=World.alloc_heap_new (w.alloc (.deferred (some []))) (.loop (rec .ready none));rwa [World.size_alloc] at this
 have hK1:W1.heap[w.heap.size]?=some (.deferred (some [])):=by
  rw[<-hW1];exact (Below.heap_alloc _ _ _ (by simp)).trans (World.alloc_heap_new w _)
 have hb1:Below w.heap.size w W1:=by
  rw[<-hW1];exact ((Below.refl _ w).alloc (Z6 _) _).alloc (by simp) _
 have hI1:I [] W1:=hB _ _ _ h0 hb1
 refine⟨L,[{ target:=.collected w.heap.size,args:=#[] }],W1,{ target:=.fn (.func gf) lb,args:=#[.func (.yield L) #[] #[]] },W1,gf,
  #[.func (.yield L) #[] #[]]++lb,W1,?_,?_,?_,?_,(fun h=>by cases h),?_⟩
 ·rw[<-hW1,hrec,hLw];exact run_enterLoop_outer _ _ _ _ _
 ·simp only[resolve,hg];simp [go_sem]
 ·intro f' _;trivial
 ·simp [invoke,go_sem,eg]
 refine callsIn_wide.2 ((hseq L
  (fun pre W=>I pre W/\W.heap[L]?=some (.loop (rec .ready none))/\W.heap[w.heap.size]?=some (.deferred (some [])))
  (fun _ _=>False)
  W1 ?_ ?_ ⟨hI1,hL1,hK1⟩).mono ?_)
 ·rintro s A ⟨hi,_⟩;exact hN s A hi
 ·rintro pre x W ⟨hi,hl,hk⟩ hpre;have hlt:L<W.heap.size:=(Array.getElem?_eq_some_iff.1 hl).1;have hy:=run_yield (P:=P) (args:=encs x) hl (by rw[hrec];exact hps x);rw[hrec] at hy;refine⟨fn,_,assign,body,hy,Qam none (n:=n - 1 - 1) (roundIn_of_wpIn (F:=Fence.wide) trivial (hassign _ x W _ ?_))⟩;clear hy;refine⟨_,run_beginRound hl (by rw[hrec]),?_⟩;have hl2:(W.putObj L (.loop { rec .ready none with state:=.busy })).heap[L]?=some (.loop { rec .ready none with state:=.busy }):=World.putObj_heap_same hlt;have hk2:(W.putObj L (.loop { rec .ready none with state:=.busy })).heap[w.heap.size]?=some (.deferred (some [])):=(World.putObj_heap_other (by omega)).trans hk;refine wpIn_mono (hbody _ pre x _ (by simp;omega) (hL _ _ _ _ _ (by omega) hi hl) hpre) ?_;rintro e a3 W3 hp;cases e with
  |normal =>
   obtain⟨hk3,hi3⟩:=hp;have hl3:=hk3.loop _ _ hl2;have hd3:=hk3.defr _ _ hk2;have hr:=run_endRound (P:=P) none hl3;rw[hrec] at hr;refine⟨_,_,hr,.inl ⟨rfl,hL _ _ _ _ _ (by omega) hi3 hl3,?_,(World.putObj_heap_other (by omega)).trans hd3⟩⟩;rw[hrec];exact World.putObj_heap_same (Array.getElem?_eq_some_iff.1 hl3).1
  |ret=>exact hp.elim
  |exit id=>exact hp.elim
  |goto t=>exact hp.elim
  |panic ch=>exact hp.elim
  |outgrown=>exact hp.elim
 rintro e W2 ⟨⟨v,rfl⟩,(⟨hi,hl,hk⟩|⟨pre,hpre,hf⟩)⟩
 ·have hlt:L<W2.heap.size:=(Array.getElem?_eq_some_iff.1 hl).1;refine⟨none,W2.putObj L (.loop (rec .exhausted none)),by have:=run_endLoop (P:=P) hl (by rw[hrec];simp);rw[hrec] at this ⊢;exact this,hdone _ (by simp;omega) (hL _ _ _ _ _ (by omega) hi hl) ((World.putObj_heap_other (by omega)).trans hk)⟩
 exact hf.elim
end Go.Vit
namespace Go.Proofs.YtoejbngihecafaaGreatDoor
open Go.RowKit Go.Shelf Go.Vit
attribute [local go_sem] Oper.semAt_some
theorem Qib (Bl:Nat) (c:Cn) (s:ByteArray):Iters0 prog 198 (fun y=>#[.pointer (some ⟨Bl,0,none⟩),y]) encB [s] (fun w=>(Nd.leaf Bl c s).In w):=by
 intro l J Jx W hN hY hj;have hl:=hN _ _ hj;have c9:W.cell? ⟨Bl,9,none⟩=some (.string s):=by rw[Lib.cell_of_heap hl];rfl
 have hbz:=Z4 hl;obtain⟨fn,tmps,assign,body,hy,hR⟩:=hY [] s W hj (by simp);refine (callsIn_wide (n:=9)).1 ?_;refine callsIn_of_wp_marks func198 rfl trivial ?_ rfl;simp only[ntmps198,List.size_toArray,List.length_cons,List.length_nil,Nat.reduceAdd,Nat.reduceSub,Array.replicate_succ,Array.replicate_zero,List.push_toArray,List.append_toArray,List.nil_append,List.cons_append];simp only[encB] at hy;gi_wp2_with fail;refine (Qam none hR).mono ?_;rintro e W3 (⟨rfl,hJ3⟩|⟨rfl,hJx3⟩)
 ·gi_wp2;exact⟨.bool true,by simp [results,Tryz.results198,go_sem],.inl ⟨rfl,hJ3⟩⟩
 gi_wp2;exact⟨.bool false,by simp [results,Tryz.results198,go_sem],.inr ⟨rfl,_,List.prefix_refl _,hJx3⟩⟩
theorem QgV (Bl:Nat) (c:Cn) (k:Nat) (n m:Nd) (xs ys:List ByteArray)
  (hn:Iters0 prog n.bf (fun y=>#[.pointer (some ⟨n.blk,0,none⟩),y]) encB xs (fun w=>n.In w))
  (hm:Iters0 prog m.bf (fun y=>#[.pointer (some ⟨m.blk,0,none⟩),y]) encB ys (fun w=>m.In w)) :
  Iters0 prog 206 (fun y=>#[.pointer (some ⟨Bl,0,none⟩),y]) encB (xs++ys) (fun w=>(Nd.inner Bl c k n m).In w):=by
 intro l J Jx W hN hY hj
 have hl:=hN _ _ hj
 obtain⟨p9,p10⟩:=Qal hl
 have hbz:=Z4 hl.1
 have e1:=Qcv n
 have e2:=Qcv m
 have m1:=QbA n 362
 have m2:=QbA m 362
 have C1:=hn l J Jx W (fun s A h=>(hN s A h).2.1) (fun pre x W1 h1 h3=>hY pre x W1 h1 (h3.trans (List.prefix_append _ _))) hj
 refine (callsIn_wide (n:=9)).1 ?_
 refine callsIn_of_wp_marks func206 rfl trivial ?_ rfl
 simp only[ntmps206,List.size_toArray,List.length_cons,List.length_nil,Nat.reduceAdd,Nat.reduceSub,Array.replicate_succ,Array.replicate_zero,List.push_toArray,List.append_toArray,List.nil_append,List.cons_append]
 gi_wp2_with fail
 refine⟨trivial,(callsIn_wide.2 C1).mono ?_⟩
 rintro e W3 (⟨rfl,hj3⟩|⟨rfl,pre,hp,hx⟩)
 ·have hl3:=hN _ _ hj3;obtain⟨q9,q10⟩:=Qal hl3;have hbz3:=Z4 hl3.1
  have C2:=hm l (fun s=>J (xs++s)) (fun s=>Jx (xs++s)) W3
   (fun s A h=>(hN _ A h).2.2) (fun pre x W1 h1 h3=>by
    have hq:=hY (xs++pre) x W1 h1 (by rw[List.append_assoc];obtain⟨t,ht⟩:=h3;exact⟨t,by rw[List.append_assoc,ht]⟩);obtain⟨fn,tmps,assign,body,hy,hR⟩:=hq;refine⟨fn,tmps,assign,body,hy,hR.mono ?_⟩;rintro e W' (⟨a1,a2⟩|⟨a1,a2⟩)
    ·exact .inl ⟨a1,by rw[<-List.append_assoc];exact a2⟩
    exact .inr ⟨a1,by rw[<-List.append_assoc];exact a2⟩) (by rw[List.append_nil];exact hj3)
  have HC2:=hide C2;clear C2 C1 hY hN hn hm;gi_wp2_with fail;refine⟨trivial,(callsIn_wide.2 HC2.o).mono ?_⟩;rintro e W4 (⟨rfl,hj4⟩|⟨rfl,pre,hp,hx⟩)
  ·have HJ:=hide hj4;clear HC2 hj4 hj3 hl3 hl hj q9 q10 p9 p10;gi_wp2;exact⟨.bool true,by simp [results,Tryz.results206,go_sem],.inl ⟨rfl,HJ.o⟩⟩
  have HP:=hide (show xs++pre <+: xs++ys by obtain⟨t,ht⟩:=hp;exact⟨t,by rw[List.append_assoc,ht]⟩);have HX:=hide hx;clear HC2 hx hp hj3 hl3 hl hj q9 q10 p9 p10;gi_wp2;exact⟨.bool false,by simp [results,Tryz.results206,go_sem],.inr ⟨rfl,_,HP.o,HX.o⟩⟩
 have HP:=hide (show pre <+: xs++ys from hp.trans (List.prefix_append _ _))
 have HX:=hide hx
 clear C1 hY hN hn hm hx hp hl hj p9 p10
 gi_wp2
 all_goals
  refine⟨fun _ _=>trivial,?_⟩;gi_wp2;exact⟨.bool false,by simp [results,Tryz.results206,go_sem],.inr ⟨rfl,_,HP.o,HX.o⟩⟩
theorem Qdv :∀(n:Nd),Iters0 prog n.bf (fun y=>#[.pointer (some ⟨n.blk,0,none⟩),y]) encB (n.row.map (fun x=>x.2)) (fun w=>n.In w)
 |.leaf Bl c s=>Qib Bl c s
 |.inner Bl c k l r=>by
  have h:=QgV Bl c k l r _ _ (Qdv l) (Qdv r)
  rw[<-List.map_append] at h
  exact h
theorem Qia (n:Nd) (Bt:Nat):Iters1 prog 134 #[.pointer (some ⟨Bt,0,none⟩)] encB (n.row.map (fun x=>x.2))
  (fun w=>w.cell? ⟨Bt,0,none⟩=some (.iface n.ty (.pointer (some ⟨n.blk,0,none⟩)))/\n.In w):=by
 intro l J Jx W hN hY hj
 obtain⟨ct,_⟩:=hN _ _ hj
 have hbz:=Z3 ct
 have e1:=Qcv n
 have m1:=QbA n 362
 have C1:=Qdv n l J Jx W (fun s A h=>(hN s A h).2) hY hj
 have HC:=hide C1
 clear C1 hY hN hj
 refine (callsIn_wide (n:=9)).1 ?_
 refine callsIn_of_wp_marks func134 rfl trivial ?_ rfl
 simp only[ntmps134,List.size_toArray,List.length_cons,List.length_nil,Nat.reduceAdd,Nat.reduceSub,Array.replicate_succ,Array.replicate_zero,List.push_toArray,List.append_toArray,List.nil_append,List.cons_append]
 gi_wp2_with fail
 refine⟨trivial,(callsIn_wide.2 HC.o).mono ?_⟩
 rintro e W3 (⟨rfl,hj3⟩|⟨rfl,pre,hp,hx⟩)
 ·have HJ:=hide hj3;clear HC hj3;gi_wp2;exact⟨_,results_none rfl _ _ _,⟨_,rfl⟩,.inl HJ.o⟩
 have HX:=hide (show ∃pre,pre <+: n.row.map (fun x=>x.2)/\Jx pre W3 from ⟨pre,hp,hx⟩)
 clear HC hp hx
 gi_wp2
 exact⟨_,results_none rfl _ _ _,⟨_,rfl⟩,.inr HX.o⟩
theorem Qhm (Bt:Nat):Iters1 prog 134 #[.pointer (some ⟨Bt,0,none⟩)] encB []
  (fun w=>w.cell? ⟨Bt,0,none⟩=some .nilIface):=by
 intro l J Jx W hN hY hj
 have ct:=hN _ _ hj
 have hbz:=Z3 ct
 have HJ:=hide hj
 clear hY hN hj
 refine (callsIn_wide (n:=9)).1 ?_
 refine callsIn_of_wp_marks func134 rfl trivial ?_ rfl
 simp only[ntmps134,List.size_toArray,List.length_cons,List.length_nil,Nat.reduceAdd,Nat.reduceSub,Array.replicate_succ,Array.replicate_zero,List.push_toArray,List.append_toArray,List.nil_append,List.cons_append]
 gi_wp2
 exact⟨_,results_none rfl _ _ _,⟨_,rfl⟩,.inl HJ.o⟩
theorem Qkk (t:Option Nd) (R:List (Cn × ByteArray)) (Bt:Nat) (h1:∀n,t=some n->n.row=R) (h2:t=none->R=[]) :
  Iters1 prog 134 #[.pointer (some ⟨Bt,0,none⟩)] encB (R.map (fun x=>x.2)) (fun w=>w.cell? ⟨Bt,0,none⟩=some (trv t)/\∀n,t=some n->n.In w):=by
 cases t with
 |none =>
  have:=h2 rfl;subst this;intro l J Jx W hN hY hj;exact Qhm Bt l J Jx W (fun s A h=>(hN s A h).1) hY hj
 |some n =>
  have:=h1 n rfl;subst this;intro l J Jx W hN hY hj;exact Qia n Bt l J Jx W (fun s A h=>⟨(hN s A h).1,(hN s A h).2 n rfl⟩) hY hj
end Go.Proofs.YtoejbngihecafaaGreatDoor
