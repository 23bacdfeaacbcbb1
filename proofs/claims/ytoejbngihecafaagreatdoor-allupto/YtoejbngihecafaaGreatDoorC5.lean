import Derived.RangeFuncNested
import Derived.RangeFuncLeaves
import Derived.Scope
import Derived.Test.YtoejbngihecafaaGreatDoorC0
namespace Go.Vit
open Go.RowKit
variable {lo lo' l n fn:Nat} {A B W w:World} {p:Addr} {P:Program} {tmps:Array Value}
def MLow (M:World->Nat->Prop) (lo:Nat):Prop:=∀A B:World,(∀k,k<lo->B.heap[k]?=A.heap[k]?)->∀k,M B k->M A k
structure ItStep (M:World->Nat->Prop) (lo:Nat) (W W':World):Prop where
 os:W'.os=W.os
 tape:W'.tape=W.tape
 output:W'.output=W.output
 size:W.heap.size<=W'.heap.size
 low:∀k,k<lo->W'.heap[k]?=W.heap[k]?
 own:∀k,M W k->W'.heap[k]?=W.heap[k]?
structure BodyStep (M:World->Nat->Prop) (lo:Nat) (W W':World):Prop where
 os:W'.os=W.os
 tape:W'.tape=W.tape
 output:W'.output=W.output
 size:W.heap.size<=W'.heap.size
 keep:∀k,lo<=k->k<W.heap.size->¬M W k->W'.heap[k]?=W.heap[k]?
 new:∀k,M W' k->k<lo\/M W k\/W.heap.size<=k
theorem MLow.of {M:World->Nat->Prop} (h:MLow M lo) (hl:lo<=lo'):MLow M lo':=fun A B hk=>h A B (fun k hlt=>hk k (by omega))
theorem Qbg (lo:Nat):MLow (fun _ _=>False) lo:=fun _ _ _ _ h=>h
theorem ItStep.mono {M:World->Nat->Prop} (h:ItStep M lo A B) (hl:lo'<=lo):ItStep M lo' A B :=
 ⟨h.os,h.tape,h.output,h.size,fun k hk=>h.low k (by omega),h.own⟩
theorem ItStep.of_below {M:World->Nat->Prop} (h:Below A.heap.size A B) (hlo:lo<=A.heap.size) (hm:∀k,M A k->k<A.heap.size):ItStep M lo A B :=
 ⟨h.os,h.tape,h.output,h.size,fun k hk=>h.block k (by omega),fun k hk=>h.block k (hm k hk)⟩
theorem ItStep.putObj {M:World->Nat->Prop} (o':Obj) (hlo:lo<=l) (hm:¬M A l):ItStep M lo A (A.putObj l o') :=
 ⟨rfl,rfl,rfl,by simp,fun k hk=>World.putObj_heap_other (by omega),fun k hk=>World.putObj_heap_other (fun e=>hm (e ▸ hk))⟩
theorem ItStep.setCell {M:World->Nat->Prop} (A:World) (h1:lo<=p.block) (hm:¬M A p.block) (v:Value):ItStep M lo A (A.setCell p v) :=
 ⟨rfl,rfl,rfl,by simp [World.setCell],fun k hk=>Below.heap_setCell _ _ _ _ (by omega),fun k hk=>Below.heap_setCell _ _ _ _ (fun e=>hm (e ▸ hk))⟩
theorem ItStep.same {M:World->Nat->Prop} (hM:MLow M lo) (h:ItStep M lo A B) (k:Nat):M B k->M A k:=hM A B h.low k
theorem BodyStep.refl (M:World->Nat->Prop) (lo:Nat) (W:World):BodyStep M lo W W:=⟨rfl,rfl,rfl,Z6 _,fun _ _ _ _=>rfl,fun _ h=>.inr (.inl h)⟩
theorem BodyStep.trans {M:World->Nat->Prop} {C:World} (h:BodyStep M lo A B) (k:BodyStep M lo B C):BodyStep M lo A C :=
 ⟨k.os.trans h.os,k.tape.trans h.tape,k.output.trans h.output,Nat.le_trans h.size k.size,
  fun i h1 h2 h3=>(k.keep i h1 (Nat.lt_of_lt_of_le h2 h.size) (fun hb=>by
   rcases h.new i hb with x|x|x
   ·omega
   ·exact h3 x
   omega)).trans (h.keep i h1 h2 h3),
  fun i hi=>by
   have:=h.size
   rcases k.new i hi with x|x|x
   ·exact .inl x
   ·exact h.new i x
   exact .inr (.inr (by omega))⟩
theorem BodyStep.mono {M:World->Nat->Prop} (h:BodyStep M lo A B) (hl:lo<=lo'):BodyStep M lo' A B :=
 ⟨h.os,h.tape,h.output,h.size,fun k h1 h2 h3=>h.keep k (by omega) h2 h3,fun k hk=>by
  rcases h.new k hk with x|x|x
  ·exact .inl (by omega)
  ·exact .inr (.inl x)
  exact .inr (.inr x)⟩
theorem BodyStep.of_below {M:World->Nat->Prop} (hM:MLow M lo) (h:Below A.heap.size A B) (hlo:lo<=A.heap.size):BodyStep M lo A B :=
 ⟨h.os,h.tape,h.output,h.size,fun k _ h2 _=>h.block k h2,fun k hk=>.inr (.inl (hM A B (fun j hj=>h.block j (by omega)) k hk))⟩
theorem BodyStep.setCell {M:World->Nat->Prop} (A:World) (h:p.block<lo) (v:Value) (hm:∀k,M (A.setCell p v) k->M A k):BodyStep M lo A (A.setCell p v) :=
 ⟨rfl,rfl,rfl,by simp [World.setCell],fun k _ _ _=>Below.heap_setCell _ _ _ _ (by omega),fun k hk=>.inr (.inl (hm k hk))⟩
def Yields (P:Program) (l:Nat) (args:Array Value) (W:World) (R:Ending->World->Prop):Prop :=
 ∃fn tmps assign body,(Instr.yield l args).run P W=.ok (.round l fn tmps assign body) W/\RoundIn Fence.wide 0 P l fn tmps assign body W R
theorem Qam {m:Nat} {assign body:Code} {R:Ending->World->Prop} (r:Option Nat)
  (h:RoundIn Fence.wide n P l fn tmps assign body W R):RoundIn { Fence.wide with round:=r } m P l fn tmps assign body W R :=
 ⟨trivial,fun c cs _=>h.2 c cs (room_wide _)⟩
theorem Qgf {assign body:Code} {A B:World->Prop} (r:Option Nat) (m:Nat)
  (h:RoundIn Fence.wide n P l fn tmps assign body W fun e W'=>(e=.returned (.bool true)/\A W')\/(e=.returned (.bool false)/\B W')) :
  RoundIn { Fence.wide with round:=r } m P l fn tmps assign body W fun e W'=>∃q:Bool,e=.returned (.bool q)/\Hid ((q=true/\A W')\/(q=false/\B W')) :=
 (Qam r h).mono (fun e W' hd=>by
  rcases hd with ⟨h1,h2⟩|⟨h1,h2⟩
  ·exact⟨true,h1,.inl ⟨rfl,h2⟩⟩
  exact⟨false,h1,.inr ⟨rfl,h2⟩⟩)
def ItersA {α:Type} (P:Program) (g:Nat) (args:Value->Array Value) (encs:α->Array Value) (xs:List α) (Need:World->Prop):Prop :=
 ∀(M:World->Nat->Prop) (l:Nat) (J Jx:List α->World->Prop) (W:World),MLow M W.heap.size ->
  (∀s A B,J s A->ItStep M W.heap.size A B->J s B) ->
  (∀s A B,Jx s A->ItStep M W.heap.size A B->Jx s B) ->
  (∀s A,J s A->Need A/\∀k,M A k->k<A.heap.size) ->
  (∀pre x W1,J pre W1->W.heap.size<=W1.heap.size->pre++[x] <+: xs->Yields P l (encs x) W1 fun e W' =>
   (e=.returned (.bool true)/\J (pre++[x]) W'/\BodyStep M W.heap.size W1 W')\/(e=.returned (.bool false)/\Jx (pre++[x]) W'/\BodyStep M W.heap.size W1 W')) ->
  J [] W ->
  Calls P g (args (.func (.yield l) #[] #[])) W fun e W'=>(∃v,e=.returned v)/\(J xs W'\/(∃pre,pre <+: xs/\Jx pre W'))
def Iters {α:Type} (P:Program) (g:Nat) (lb:Array Value) (encs:α->Array Value) (xs:List α) (Need:World->Prop):Prop :=
 ItersA P g (fun y=>#[y]++lb) encs xs Need
def itPost {α:Type} (M:World->Nat->Prop) (lo:Nat) (I:List α->World->Prop) (Ix:Code->List α->World->Prop) (xs:List α) (W:World):Exit->Act->World->Prop
 |.normal,_,W'=>BodyStep M lo W W'/\I xs W'
 |.ret,_,W'=>BodyStep M lo W W'/\Ix .ret xs W'
 |.exit id,_,W'=>BodyStep M lo W W'/\Ix (.exit id) xs W'
 |.goto t,_,W'=>BodyStep M lo W W'/\Ix (.goto t) xs W'
 |.panic _,_,_=>False
 |.outgrown,_,_=>False
variable {P:Program}
theorem Qd9 {α:Type} {g:Operand} {ps:Array Tmp} {assign body:Code} {Q:Exit->Act->World->Prop} {a:Act}
  {gf:Nat} {lb:Array Value} (hg:a.eval g=.func (.func gf) #[] lb) (eg:∀args w,(callFunc gf args).run P w=.ok (.enter gf args) w)
  {encs:α->Array Value} {xs:List α} {Need:World->Prop} (hseq:Iters P gf lb encs xs Need) (hps:∀x,(encs x).size=ps.size)
  (M:World->Nat->Prop) (hM:MLow M w.heap.size) (I:List α->World->Prop) (Ix:Code->List α->World->Prop)
  (hI:∀s A B,I s A->ItStep M w.heap.size A B->I s B) (hIx:∀c s A B,Ix c s A->ItStep M w.heap.size A B->Ix c s B)
  (hN:∀s A,I s A->Need A/\∀k,M A k->k<A.heap.size) (h0:I [] w) (Ax:α->Act->World->Prop) (hAx:∀x a' A L r o,Ax x a' A->A.heap[L]?=some (.loop r)->Ax x a' (A.putObj L o))
  (hassign:∀(l:Nat) (pre:List α) (x:α) (W:World) (K:Act->World->Prop),w.heap.size<W.heap.size->I pre W->(∀a' W',BodyStep M w.heap.size W W'->I pre W'->Ax x a' W'->K a' W') ->
   assign.wpIn (Fence.wide.inRound l) (n - 1 - 1) P (Exit.then K (fun _ _ _=>False)) { tmps:=(ps.zip (encs x)).foldl (fun t (p,v)=>t.setIfInBounds p v) a.tmps,defers:=[] } W)
  (hbody:∀(l:Nat) (pre:List α) (x:α) (a':Act) (W:World),w.heap.size<W.heap.size->(∃r,W.heap[l]?=some (.loop r))->w.heap.size<=l->I pre W->Ax x a' W->pre++[x] <+: xs ->
   body.wpIn (Fence.wide.inRound l) (n - 1 - 1) P (itPost M w.heap.size I Ix (pre++[x]) W) a' W)
  (hdone:∀(W:World),w.heap.size<W.heap.size->I xs W->W.heap[w.heap.size]?=some (.deferred (some []))->¬M W w.heap.size->Q .normal { a with defers:={ target:=.collected w.heap.size,args:=#[] } :: a.defers } W)
  (hstop:∀(c:Code) (pre:List α) (W:World),w.heap.size<W.heap.size->pre <+: xs->Ix c pre W->W.heap[w.heap.size]?=some (.deferred (some []))->¬M W w.heap.size->c.wpIn Fence.wide n P Q { a with defers:={ target:=.collected w.heap.size,args:=#[] } :: a.defers } W) :
  (Code.rangeFunc g ps assign body).wpIn Fence.wide n P Q a w:=by
 refine wpIn_rangeFunc ?_
 intro fn hfn
 have hM0:∀k,M w k->k<w.heap.size:=(hN _ _ h0).2
 obtain⟨rec,hrec⟩:∃rec:LoopState->Option Code->Loop,rec=fun st pe=>{ state:=st,pending:=pe,fn,tmps:=a.tmps,params:=ps,assign,body,defers:=w.heap.size }:=⟨_,rfl⟩
 obtain⟨L,hLw⟩:∃L,L=w.heap.size+1:=⟨_,rfl⟩
 obtain⟨W1,hW1⟩:∃W1,(w.alloc (.deferred (some []))).alloc (.loop (rec .ready none))=W1:=⟨_,rfl⟩
 have hs1:W1.heap.size=L+1:=by rw[<-hW1,hLw];simp
 have hL1:W1.heap[L]?=some (.loop (rec .ready none)):=by
  rw[<-hW1,hLw];have:=World.alloc_heap_new (w.alloc (.deferred (some []))) (.loop (rec .ready none));rwa [World.size_alloc] at this
 have hK1:W1.heap[w.heap.size]?=some (.deferred (some [])):=by
  rw[<-hW1];exact (Below.heap_alloc _ _ _ (by simp)).trans (World.alloc_heap_new w _)
 have hb1:Below w.heap.size w W1:=by
  rw[<-hW1];exact ((Below.refl _ w).alloc (Z6 _) _).alloc (by simp) _
 have st1:ItStep M w.heap.size w W1:=ItStep.of_below hb1 (Z6 _) hM0
 have hI1:I [] W1:=hI _ _ _ h0 st1
 have hm1:∀k,w.heap.size<=k->¬M W1 k:=fun k hk h=>by have:=hM0 k (st1.same hM k h);omega
 refine⟨L,[{ target:=.collected w.heap.size,args:=#[] }],W1,{ target:=.fn (.func gf) lb,args:=#[.func (.yield L) #[] #[]] },W1,gf,
  #[.func (.yield L) #[] #[]]++lb,W1,?_,?_,?_,?_,(fun h=>by cases h),?_⟩
 ·rw[<-hW1,hrec,hLw];exact run_enterLoop_outer _ _ _ _ _
 ·simp only[resolve,hg];simp [go_sem]
 ·intro f' _;trivial
 ·simp [invoke,go_sem,eg]
 have hML:MLow M W1.heap.size:=hM.of (by rw[hs1];omega)
 have base:∀{A B:World},BodyStep M w.heap.size A B->∀k,w.heap.size<=k->k<A.heap.size->¬M A k->B.heap[k]?=A.heap[k]?/\¬M B k:=fun hb k h1 h2 h3 =>
  ⟨hb.keep k h1 h2 h3,fun h=>by
   rcases hb.new k h with x|x|x
   ·omega
   ·exact h3 x
   omega⟩
 refine callsIn_wide.2 ((hseq M L
  (fun pre W=>I pre W/\W.heap[L]?=some (.loop (rec .ready none))/\¬M W L/\W.heap[w.heap.size]?=some (.deferred (some []))/\¬M W w.heap.size)
  (fun pre W=>∃c,Ix c pre W/\W.heap[L]?=some (.loop (rec .done (some c)))/\¬M W L/\W.heap[w.heap.size]?=some (.deferred (some []))/\¬M W w.heap.size)
  W1 hML ?_ ?_ ?_ ?_ ⟨hI1,hL1,hm1 L (by omega),hK1,hm1 _ (Z6 _)⟩).mono ?_)
 ·rintro s A B ⟨hi,hl,hm,hk,hmk⟩ st;rw[hs1] at st;exact⟨hI s A B hi (st.mono (by omega)),(st.low _ (by omega)).trans hl,fun h=>hm (st.same (hM.of (by omega)) _ h),(st.low _ (by omega)).trans hk,fun h=>hmk (st.same (hM.of (by omega)) _ h)⟩
 ·rintro s A B ⟨c,hi,hl,hm,hk,hmk⟩ st;rw[hs1] at st;exact⟨c,hIx c s A B hi (st.mono (by omega)),(st.low _ (by omega)).trans hl,fun h=>hm (st.same (hM.of (by omega)) _ h),(st.low _ (by omega)).trans hk,fun h=>hmk (st.same (hM.of (by omega)) _ h)⟩
 ·rintro s A ⟨hi,_⟩;exact hN s A hi
 ·rintro pre x W ⟨hi,hl,hm,hk,hmk⟩ hsz hpre;rw[hs1] at hsz ⊢;have hlt:L<W.heap.size:=(Array.getElem?_eq_some_iff.1 hl).1;have hy:=run_yield (P:=P) (args:=encs x) hl (by rw[hrec];exact hps x);rw[hrec] at hy;refine⟨fn,_,assign,body,hy,Qam none (n:=n - 1 - 1) (roundIn_of_wpIn (F:=Fence.wide) trivial (hassign _ pre x W _ (by omega) hi ?_))⟩;clear hy;intro a' Wa hba hia hax;obtain⟨hla,hma⟩:=base hba L (by omega) hlt hm;rw[hl] at hla;obtain⟨hka,hmka⟩:=base hba w.heap.size (Z6 _) (by omega) hmk;rw[hk] at hka;have hza:=hba.size;have hlta:L<Wa.heap.size:=by omega
  refine⟨_,run_beginRound hla (by rw[hrec]),?_⟩;have hl2:(Wa.putObj L (.loop { rec .ready none with state:=.busy })).heap[L]?=some (.loop { rec .ready none with state:=.busy }):=World.putObj_heap_same hlta;have st2:ItStep M w.heap.size Wa (Wa.putObj L (.loop { rec .ready none with state:=.busy })):=ItStep.putObj _ (by omega) hma;have hm2:¬M (Wa.putObj L (.loop { rec .ready none with state:=.busy })) L:=fun h=>hma (st2.same hM _ h);have hk2:(Wa.putObj L (.loop { rec .ready none with state:=.busy })).heap[w.heap.size]?=some (.deferred (some [])):=(World.putObj_heap_other (by omega)).trans hka;have hmk2:¬M (Wa.putObj L (.loop { rec .ready none with state:=.busy })) w.heap.size:=fun h=>hmka (st2.same hM _ h)
  have bs2:BodyStep M (L+1) Wa (Wa.putObj L (.loop { rec .ready none with state:=.busy })) :=
   ⟨rfl,rfl,rfl,by simp,fun k h1 _ _=>World.putObj_heap_other (by omega),fun k hk=>.inr (.inl (st2.same hM k hk))⟩
  refine wpIn_mono (hbody _ pre x a' _ (by simp;omega) ⟨_,hl2⟩ (by omega) (hI _ _ _ hia st2) (hAx _ _ _ _ _ _ hax hla) hpre) ?_
  have fin:∀(jump:Option Code) (W3:World),BodyStep M w.heap.size (Wa.putObj L (.loop { rec .ready none with state:=.busy })) W3 ->
    (Instr.endRound L jump).run P W3=.ok (.bool jump.isNone) (W3.putObj L (.loop (rec (if jump.isNone then .ready else .done) jump))) /\
    ItStep M w.heap.size W3 (W3.putObj L (.loop (rec (if jump.isNone then .ready else .done) jump))) /\
    (W3.putObj L (.loop (rec (if jump.isNone then .ready else .done) jump))).heap[L]?=some (.loop (rec (if jump.isNone then .ready else .done) jump))/\¬M (W3.putObj L (.loop (rec (if jump.isNone then .ready else .done) jump))) L /\
    (W3.putObj L (.loop (rec (if jump.isNone then .ready else .done) jump))).heap[w.heap.size]?=some (.deferred (some []))/\¬M (W3.putObj L (.loop (rec (if jump.isNone then .ready else .done) jump))) w.heap.size:=fun jump W3 hk3=>by
   obtain⟨hl3,hm3⟩:=base hk3 L (by omega) (by simp;omega) hm2
   rw[hl2] at hl3
   have st3:ItStep M w.heap.size W3 (W3.putObj L (.loop (rec (if jump.isNone then .ready else .done) jump))):=ItStep.putObj _ (by omega) hm3
   have:=run_endRound (P:=P) jump hl3
   rw[hrec] at this ⊢
   rw[hrec] at st3
   exact⟨this,st3,World.putObj_heap_same (Array.getElem?_eq_some_iff.1 hl3).1,fun h=>hm3 (st3.same hM _ h),(World.putObj_heap_other (by omega)).trans (by obtain⟨h,_⟩:=base hk3 w.heap.size (Z6 _) (by simp;omega) hmk2;rw[h];exact hk2),fun h=>(base hk3 w.heap.size (Z6 _) (by simp;omega) hmk2).2 (st3.same hM _ h)⟩
  have bfin:∀(W3:World) (o:Obj),BodyStep M w.heap.size (Wa.putObj L (.loop { rec .ready none with state:=.busy })) W3->ItStep M w.heap.size W3 (W3.putObj L o)->BodyStep M (L+1) W (W3.putObj L o):=fun W3 o hk3 st3 =>
   (hba.mono (by omega)).trans (bs2.trans ((hk3.mono (by omega)).trans
    ⟨rfl,rfl,rfl,by simp,fun k h1 _ _=>World.putObj_heap_other (by omega),fun k hk=>.inr (.inl (st3.same hM k hk))⟩))
  rintro e a3 W3 hp;cases e with
  |normal =>
   obtain⟨hk3,hi3⟩:=hp;obtain⟨hr,st3,hl4,hm4,hk4,hmk4⟩:=fin none W3 hk3;exact⟨_,_,hr,.inl ⟨rfl,⟨hI _ _ _ hi3 st3,hl4,hm4,hk4,hmk4⟩,bfin _ _ hk3 st3⟩⟩
  |ret =>
   obtain⟨hk3,hi3⟩:=hp;obtain⟨hr,st3,hl4,hm4,hk4,hmk4⟩:=fin (some .ret) W3 hk3;exact⟨_,_,hr,.inr ⟨rfl,⟨.ret,hIx _ _ _ _ hi3 st3,hl4,hm4,hk4,hmk4⟩,bfin _ _ hk3 st3⟩⟩
  |exit id =>
   obtain⟨hk3,hi3⟩:=hp;obtain⟨hr,st3,hl4,hm4,hk4,hmk4⟩:=fin (some (.exit id)) W3 hk3;exact⟨_,_,hr,.inr ⟨rfl,⟨.exit id,hIx _ _ _ _ hi3 st3,hl4,hm4,hk4,hmk4⟩,bfin _ _ hk3 st3⟩⟩
  |goto t =>
   obtain⟨hk3,hi3⟩:=hp;obtain⟨hr,st3,hl4,hm4,hk4,hmk4⟩:=fin (some (.goto t)) W3 hk3;exact⟨_,_,hr,.inr ⟨rfl,⟨.goto t,hIx _ _ _ _ hi3 st3,hl4,hm4,hk4,hmk4⟩,bfin _ _ hk3 st3⟩⟩
  |panic ch=>exact hp.elim
  |outgrown=>exact hp.elim
 rintro e W2 ⟨⟨v,rfl⟩,(⟨hi,hl,hm,hk,hmk⟩|⟨pre,hpre,c,hi,hl,hm,hk,hmk⟩)⟩
 ·have st4:ItStep M w.heap.size W2 (W2.putObj L (.loop (rec .exhausted none))):=ItStep.putObj _ (by omega) hm;have hlt:L<W2.heap.size:=(Array.getElem?_eq_some_iff.1 hl).1;refine⟨none,W2.putObj L (.loop (rec .exhausted none)),by have:=run_endLoop (P:=P) hl (by rw[hrec];simp);rw[hrec] at this ⊢;exact this,hdone _ (by simp;omega) (hI _ _ _ hi st4) ((World.putObj_heap_other (by omega)).trans hk) (fun h=>hmk (st4.same hM _ h))⟩
 have st4:ItStep M w.heap.size W2 (W2.putObj L (.loop (rec .exhausted (some c)))):=ItStep.putObj _ (by omega) hm
 have hlt:L<W2.heap.size:=(Array.getElem?_eq_some_iff.1 hl).1
 refine⟨some c,W2.putObj L (.loop (rec .exhausted (some c))),by have:=run_endLoop (P:=P) hl (by rw[hrec];simp);rw[hrec] at this ⊢;exact this,hstop c pre _ (by simp;omega) hpre (hIx _ _ _ _ hi st4) ((World.putObj_heap_other (by omega)).trans hk) (fun h=>hmk (st4.same hM _ h))⟩
theorem QhH {α:Type} {g:Operand} {ps:Array Tmp} {assign body:Code} {Q:Exit->Act->World->Prop} {a:Act}
  {l₀:Nat} {r₀:Loop} (hl₀:w.heap[l₀]?=some (.loop r₀)) {gf:Nat} {lb:Array Value} (hg:a.eval g=.func (.func gf) #[] lb) (eg:∀args w,(callFunc gf args).run P w=.ok (.enter gf args) w)
  {encs:α->Array Value} {xs:List α} {Need:World->Prop} (hseq:Iters P gf lb encs xs Need) (hps:∀x,(encs x).size=ps.size)
  (M:World->Nat->Prop) (hM:MLow M w.heap.size) (I:List α->World->Prop) (Ix:Code->List α->World->Prop)
  (hI:∀s A B,I s A->ItStep M w.heap.size A B->I s B) (hIx:∀c s A B,Ix c s A->ItStep M w.heap.size A B->Ix c s B)
  (hN:∀s A,I s A->Need A/\∀k,M A k->k<A.heap.size) (h0:I [] w) (Ax:α->Act->World->Prop) (hAx:∀x a' A L r o,Ax x a' A->A.heap[L]?=some (.loop r)->Ax x a' (A.putObj L o))
  (hassign:∀(l:Nat) (pre:List α) (x:α) (W:World) (K:Act->World->Prop),w.heap.size<W.heap.size->I pre W->(∀a' W',BodyStep M w.heap.size W W'->I pre W'->Ax x a' W'->K a' W') ->
   assign.wpIn (Fence.wide.inRound l) (n - 1 - 1) P (Exit.then K (fun _ _ _=>False)) { tmps:=(ps.zip (encs x)).foldl (fun t (p,v)=>t.setIfInBounds p v) a.tmps,defers:=[] } W)
  (hbody:∀(l:Nat) (pre:List α) (x:α) (a':Act) (W:World),w.heap.size<W.heap.size->(∃r,W.heap[l]?=some (.loop r))->w.heap.size<=l->I pre W->Ax x a' W->pre++[x] <+: xs ->
   body.wpIn (Fence.wide.inRound l) (n - 1 - 1) P (itPost M w.heap.size I Ix (pre++[x]) W) a' W)
  (hdone:∀(W:World),w.heap.size<W.heap.size->I xs W->Q .normal a W)
  (hstop:∀(c:Code) (pre:List α) (W:World),w.heap.size<W.heap.size->pre <+: xs->Ix c pre W->c.wpIn (Fence.wide.inRound l₀) n P Q a W) :
  (Code.rangeFunc g ps assign body).wpIn (Fence.wide.inRound l₀) n P Q a w:=by
 refine wpIn_rangeFunc ?_
 intro fn hfn
 have hM0:∀k,M w k->k<w.heap.size:=(hN _ _ h0).2
 obtain⟨rec,hrec⟩:∃rec:LoopState->Option Code->Loop,rec=fun st pe=>{ state:=st,pending:=pe,fn,tmps:=a.tmps,params:=ps,assign,body,defers:=r₀.defers }:=⟨_,rfl⟩
 obtain⟨L,hLw⟩:∃L,L=w.heap.size:=⟨_,rfl⟩
 obtain⟨W1,hW1⟩:∃W1,w.alloc (.loop (rec .ready none))=W1:=⟨_,rfl⟩
 have hs1:W1.heap.size=L+1:=by rw[<-hW1,hLw];simp
 have hL1:W1.heap[L]?=some (.loop (rec .ready none)):=by
  rw[<-hW1,hLw];exact World.alloc_heap_new w _
 have hb1:Below w.heap.size w W1:=by
  rw[<-hW1];exact (Below.refl _ w).alloc (Z6 _) _
 have st1:ItStep M w.heap.size w W1:=ItStep.of_below hb1 (Z6 _) hM0
 have hI1:I [] W1:=hI _ _ _ h0 st1
 have hm1:∀k,w.heap.size<=k->¬M W1 k:=fun k hk h=>by have:=hM0 k (st1.same hM k h);omega
 refine⟨L,[],W1,{ target:=.fn (.func gf) lb,args:=#[.func (.yield L) #[] #[]] },W1,gf,
  #[.func (.yield L) #[] #[]]++lb,W1,?_,?_,?_,?_,(fun h=>by cases h),?_⟩
 ·rw[<-hW1,hrec,hLw];exact run_enterLoop_inner hl₀ _ _ _ _ _
 ·simp only[resolve,hg];simp [go_sem]
 ·intro f' _;trivial
 ·simp [invoke,go_sem,eg]
 have hML:MLow M W1.heap.size:=hM.of (by rw[hs1];omega)
 have base:∀{A B:World},BodyStep M w.heap.size A B->∀k,w.heap.size<=k->k<A.heap.size->¬M A k->B.heap[k]?=A.heap[k]?/\¬M B k:=fun hb k h1 h2 h3 =>
  ⟨hb.keep k h1 h2 h3,fun h=>by
   rcases hb.new k h with x|x|x
   ·omega
   ·exact h3 x
   omega⟩
 refine CallsIn.inRound l₀ (callsIn_wide.2 ((hseq M L
  (fun pre W=>I pre W/\W.heap[L]?=some (.loop (rec .ready none))/\¬M W L)
  (fun pre W=>∃c,Ix c pre W/\W.heap[L]?=some (.loop (rec .done (some c)))/\¬M W L)
  W1 hML ?_ ?_ ?_ ?_ ⟨hI1,hL1,hm1 L (by omega)⟩).mono ?_))
 ·rintro s A B ⟨hi,hl,hm⟩ st;rw[hs1] at st;exact⟨hI s A B hi (st.mono (by omega)),(st.low _ (by omega)).trans hl,fun h=>hm (st.same (hM.of (by omega)) _ h)⟩
 ·rintro s A B ⟨c,hi,hl,hm⟩ st;rw[hs1] at st;exact⟨c,hIx c s A B hi (st.mono (by omega)),(st.low _ (by omega)).trans hl,fun h=>hm (st.same (hM.of (by omega)) _ h)⟩
 ·rintro s A ⟨hi,_⟩;exact hN s A hi
 ·rintro pre x W ⟨hi,hl,hm⟩ hsz hpre;rw[hs1] at hsz ⊢;have hlt:L<W.heap.size:=(Array.getElem?_eq_some_iff.1 hl).1;have hy:=run_yield (P:=P) (args:=encs x) hl (by rw[hrec];exact hps x);rw[hrec] at hy;refine⟨fn,_,assign,body,hy,Qam none (n:=n - 1 - 1) (roundIn_of_wpIn (F:=Fence.wide) trivial (hassign _ pre x W _ (by omega) hi ?_))⟩;clear hy;intro a' Wa hba hia hax;obtain⟨hla,hma⟩:=base hba L (by omega) hlt hm;rw[hl] at hla;have hza:=hba.size;have hlta:L<Wa.heap.size:=by omega
  refine⟨_,run_beginRound hla (by rw[hrec]),?_⟩;have hl2:(Wa.putObj L (.loop { rec .ready none with state:=.busy })).heap[L]?=some (.loop { rec .ready none with state:=.busy }):=World.putObj_heap_same hlta;have st2:ItStep M w.heap.size Wa (Wa.putObj L (.loop { rec .ready none with state:=.busy })):=ItStep.putObj _ (by omega) hma;have hm2:¬M (Wa.putObj L (.loop { rec .ready none with state:=.busy })) L:=fun h=>hma (st2.same hM _ h)
  have bs2:BodyStep M (L+1) Wa (Wa.putObj L (.loop { rec .ready none with state:=.busy })) :=
   ⟨rfl,rfl,rfl,by simp,fun k h1 _ _=>World.putObj_heap_other (by omega),fun k hk=>.inr (.inl (st2.same hM k hk))⟩
  refine wpIn_mono (hbody _ pre x a' _ (by simp;omega) ⟨_,hl2⟩ (by omega) (hI _ _ _ hia st2) (hAx _ _ _ _ _ _ hax hla) hpre) ?_
  have fin:∀(jump:Option Code) (W3:World),BodyStep M w.heap.size (Wa.putObj L (.loop { rec .ready none with state:=.busy })) W3 ->
    (Instr.endRound L jump).run P W3=.ok (.bool jump.isNone) (W3.putObj L (.loop (rec (if jump.isNone then .ready else .done) jump))) /\
    ItStep M w.heap.size W3 (W3.putObj L (.loop (rec (if jump.isNone then .ready else .done) jump))) /\
    (W3.putObj L (.loop (rec (if jump.isNone then .ready else .done) jump))).heap[L]?=some (.loop (rec (if jump.isNone then .ready else .done) jump))/\¬M (W3.putObj L (.loop (rec (if jump.isNone then .ready else .done) jump))) L:=fun jump W3 hk3=>by
   obtain⟨hl3,hm3⟩:=base hk3 L (by omega) (by simp;omega) hm2
   rw[hl2] at hl3
   have st3:ItStep M w.heap.size W3 (W3.putObj L (.loop (rec (if jump.isNone then .ready else .done) jump))):=ItStep.putObj _ (by omega) hm3
   have:=run_endRound (P:=P) jump hl3
   rw[hrec] at this ⊢
   rw[hrec] at st3
   exact⟨this,st3,World.putObj_heap_same (Array.getElem?_eq_some_iff.1 hl3).1,fun h=>hm3 (st3.same hM _ h)⟩
  have bfin:∀(W3:World) (o:Obj),BodyStep M w.heap.size (Wa.putObj L (.loop { rec .ready none with state:=.busy })) W3->ItStep M w.heap.size W3 (W3.putObj L o)->BodyStep M (L+1) W (W3.putObj L o):=fun W3 o hk3 st3 =>
   (hba.mono (by omega)).trans (bs2.trans ((hk3.mono (by omega)).trans
    ⟨rfl,rfl,rfl,by simp,fun k h1 _ _=>World.putObj_heap_other (by omega),fun k hk=>.inr (.inl (st3.same hM k hk))⟩))
  rintro e a3 W3 hp;cases e with
  |normal =>
   obtain⟨hk3,hi3⟩:=hp;obtain⟨hr,st3,hl4,hm4⟩:=fin none W3 hk3;exact⟨_,_,hr,.inl ⟨rfl,⟨hI _ _ _ hi3 st3,hl4,hm4⟩,bfin _ _ hk3 st3⟩⟩
  |ret =>
   obtain⟨hk3,hi3⟩:=hp;obtain⟨hr,st3,hl4,hm4⟩:=fin (some .ret) W3 hk3;exact⟨_,_,hr,.inr ⟨rfl,⟨.ret,hIx _ _ _ _ hi3 st3,hl4,hm4⟩,bfin _ _ hk3 st3⟩⟩
  |exit id =>
   obtain⟨hk3,hi3⟩:=hp;obtain⟨hr,st3,hl4,hm4⟩:=fin (some (.exit id)) W3 hk3;exact⟨_,_,hr,.inr ⟨rfl,⟨.exit id,hIx _ _ _ _ hi3 st3,hl4,hm4⟩,bfin _ _ hk3 st3⟩⟩
  |goto t =>
   obtain⟨hk3,hi3⟩:=hp;obtain⟨hr,st3,hl4,hm4⟩:=fin (some (.goto t)) W3 hk3;exact⟨_,_,hr,.inr ⟨rfl,⟨.goto t,hIx _ _ _ _ hi3 st3,hl4,hm4⟩,bfin _ _ hk3 st3⟩⟩
  |panic ch=>exact hp.elim
  |outgrown=>exact hp.elim
 rintro e W2 ⟨⟨v,rfl⟩,(⟨hi,hl,hm⟩|⟨pre,hpre,c,hi,hl,hm⟩)⟩
 ·have st4:ItStep M w.heap.size W2 (W2.putObj L (.loop (rec .exhausted none))):=ItStep.putObj _ (by omega) hm;have hlt:L<W2.heap.size:=(Array.getElem?_eq_some_iff.1 hl).1;refine⟨none,W2.putObj L (.loop (rec .exhausted none)),by have:=run_endLoop (P:=P) hl (by rw[hrec];simp);rw[hrec] at this ⊢;exact this,hdone _ (by simp;omega) (hI _ _ _ hi st4)⟩
 have st4:ItStep M w.heap.size W2 (W2.putObj L (.loop (rec .exhausted (some c)))):=ItStep.putObj _ (by omega) hm
 have hlt:L<W2.heap.size:=(Array.getElem?_eq_some_iff.1 hl).1
 refine⟨some c,W2.putObj L (.loop (rec .exhausted (some c))),by have:=run_endLoop (P:=P) hl (by rw[hrec];simp);rw[hrec] at this ⊢;exact this,hstop c pre _ (by simp;omega) hpre (hIx _ _ _ _ hi st4)⟩
theorem QfW {α:Type} {g:Operand} {ps:Array Tmp} {assign body:Code} {Q:Exit->Act->World->Prop} {a:Act}
  {gf:Nat} {lb:Array Value} (hg:a.eval g=.func (.func gf) #[] lb) (eg:∀args w,(callFunc gf args).run P w=.ok (.enter gf args) w)
  {encs:α->Array Value} {xs:List α} {Need:World->Prop} (hseq:Iters P gf lb encs xs Need) (hps:∀x,(encs x).size=ps.size)
  (M:World->Nat->Prop) (hM:MLow M w.heap.size) (I:List α->World->Prop) (Ix:Code->List α->World->Prop)
  (hI:∀s A B,I s A->ItStep M w.heap.size A B->I s B) (hIx:∀c s A B,Ix c s A->ItStep M w.heap.size A B->Ix c s B)
  (hN:∀s A,I s A->Need A/\∀k,M A k->k<A.heap.size) (h0:I [] w) (a₁:α->Act)
  (hassign:∀(l:Nat) (x:α) (W:World) (K:Act->World->Prop),K (a₁ x) W ->
   assign.wpIn (Fence.wide.inRound l) (n - 1 - 1) P (Exit.then K (fun _ _ _=>False)) { tmps:=(ps.zip (encs x)).foldl (fun t (p,v)=>t.setIfInBounds p v) a.tmps,defers:=[] } W)
  (hbody:∀(l:Nat) (pre:List α) (x:α) (W:World),w.heap.size<W.heap.size->(∃r,W.heap[l]?=some (.loop r))->w.heap.size<=l->I pre W->pre++[x] <+: xs ->
   body.wpIn (Fence.wide.inRound l) (n - 1 - 1) P (itPost M w.heap.size I Ix (pre++[x]) W) (a₁ x) W)
  (hdone:∀(W:World),w.heap.size<W.heap.size->I xs W->W.heap[w.heap.size]?=some (.deferred (some []))->¬M W w.heap.size->Q .normal { a with defers:={ target:=.collected w.heap.size,args:=#[] } :: a.defers } W)
  (hstop:∀(c:Code) (pre:List α) (W:World),w.heap.size<W.heap.size->pre <+: xs->Ix c pre W->W.heap[w.heap.size]?=some (.deferred (some []))->¬M W w.heap.size->c.wpIn Fence.wide n P Q { a with defers:={ target:=.collected w.heap.size,args:=#[] } :: a.defers } W) :
  (Code.rangeFunc g ps assign body).wpIn Fence.wide n P Q a w :=
 Qd9 hg eg hseq hps M hM I Ix hI hIx hN h0 (fun x a' _=>a'=a₁ x) (fun _ _ _ _ _ _ h _=>h)
  (fun l pre x W K _ hi hK=>hassign l x W K (hK _ _ (BodyStep.refl _ _ _) hi rfl)) (fun l pre x a' W hsz hl hle hi e hp=>by subst e;exact hbody l pre x W hsz hl hle hi hp) hdone hstop
theorem QcW {c:Code} {Q:Exit->Act->World->Prop} {a:Act} (h:c.wpIn Fence.wide n P (Exit.noGoto Q) a w):(Code.scope c).wpIn Fence.wide n P Q a w :=
 wpIn_wide.2 (wp_scope_straight (wpIn_wide.1 h))
end Go.Vit
