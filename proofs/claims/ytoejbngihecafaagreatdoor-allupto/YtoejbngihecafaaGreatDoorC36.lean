import Derived.Maps.AppendAt
import Derived.Test.YtoejbngihecafaaGreatDoorC35
import Derived.Test.YtoejbngihecafaaGreatDoorC26
import Derived.Test.YtoejbngihecafaaGreatDoorC28
import Derived.Test.YtoejbngihecafaaGreatDoorC0
set_option maxRecDepth 100000
set_option maxHeartbeats 1000000
open Go.Proofs.Tryz
namespace Go.Proofs.YtoejbngihecafaaGreatDoor
open Go.RowKit
variable {w w' w2 w3:World} {e x:He} {B g p cap:Nat} {v dn un:Value} {l O U:List He}
def He.Ok (w:World) (e:He):Prop:=CtOk w e.k e.n e.R e.tail
theorem He.Ok.low (h:e.Ok w) (hb:Below w.heap.size w w'):e.Ok w':=CtOk.low h hb
def Hst (B:Nat) (w:World) (v:Value) (l:List He):Prop:=w.ownsRow B 91 4 v l.length (hcells l)
theorem Hst.low (h:Hst B w v l) (hb:∀g,v.ownBlock=some g->w'.heap[g]?=w.heap[g]?):Hst B w' v l:=by
 refine⟨h.1,?_⟩;rcases h.2 with x|⟨g,cap,cur,e1,e2,e3,r⟩
 ·exact .inl x
 exact .inr ⟨g,cap,cur,e1,e2,(hb g (by rw[e1];rfl)).trans e3,r⟩
theorem Hst.lt (h:Hst B w v l) (hg:v.ownBlock=some g):B<=g/\g<w.heap.size/\tyAt w g=some 91:=by
 rcases h.2 with ⟨x,_⟩|⟨g',cap,cur,e1,e2,e3,r⟩
 ·rw[x] at hg;cases hg
 rw[e1] at hg;have e:g'=g:=Option.some.inj hg;subst e;exact⟨e2,Z4 e3,by unfold tyAt;rw[e3]⟩
structure DocH (B:Nat) (w:World) (p:Nat) (x:He) (O U:List He) (dn un:Value):Prop where
 blk:w.heap[p]?=some (.cells #[.int .i64 x.k.enc,.bool x.k.mark,trv x.n,.string x.tail,dn,un] 110)
 ok:∀e∈x :: (O++U),e.Ok w
 hd:Hst B w dn O
 hu:Hst B w un U
 ne:∀g,dn.ownBlock=some g->un.ownBlock≠some g
 pB:B<=p
structure Dr (p:Nat) (dn un dn' un':Value) (w w':World):Prop where
 os:w'.os=w.os
 tape:w'.tape=w.tape
 output:w'.output=w.output
 size:w.heap.size<=w'.heap.size
 keep:∀k,k<w.heap.size->k≠p->dn.ownBlock≠some k->un.ownBlock≠some k->w'.heap[k]?=w.heap[k]?
 new:∀g,(dn'.ownBlock=some g\/un'.ownBlock=some g)->(dn.ownBlock=some g\/un.ownBlock=some g\/w.heap.size<=g)
theorem Dr.refl (p:Nat) (dn un:Value) (w:World):Dr p dn un dn un w w:=⟨rfl,rfl,rfl,Z6 _,fun _ _ _ _ _=>rfl,fun _ h=>h.elim .inl (fun x=>.inr (.inl x))⟩
theorem Dr.trans {d1 u1 d2 u2 d3 u3:Value} {w1:World} (h:Dr p d1 u1 d2 u2 w1 w2) (k:Dr p d2 u2 d3 u3 w2 w3):Dr p d1 u1 d3 u3 w1 w3 :=
 ⟨k.os.trans h.os,k.tape.trans h.tape,k.output.trans h.output,Nat.le_trans h.size k.size,
  fun i h1 h2 h3 h4=>(k.keep i (Nat.lt_of_lt_of_le h1 h.size) h2 (fun e=>by
   rcases h.new i (.inl e) with x|x|x
   ·exact h3 x
   ·exact h4 x
   ·omega) (fun e=>by
   rcases h.new i (.inr e) with x|x|x
   ·exact h3 x
   ·exact h4 x
   omega)).trans (h.keep i h1 h2 h3 h4),
  fun g hg=>by
   have:=h.size
   rcases k.new g hg with x|x|x
   ·exact h.new g (.inl x)
   ·exact h.new g (.inr x)
   exact .inr (.inr (by omega))⟩
theorem Dr.of_below (h:Below w.heap.size w w'):Dr p dn un dn un w w' :=
 ⟨h.os,h.tape,h.output,h.size,fun k h1 _ _ _=>h.block k h1,fun _ h=>h.elim .inl (fun x=>.inr (.inl x))⟩
theorem DocH.low (h:DocH B w p x O U dn un) (hb:Below w.heap.size w w'):DocH B w' p x O U dn un :=
 ⟨(hb.block p (Z4 h.blk)).trans h.blk,fun e he=>(h.ok e he).low hb,h.hd.low (fun g hg=>hb.block g (h.hd.lt hg).2.1),h.hu.low (fun g hg=>hb.block g (h.hu.lt hg).2.1),h.ne,h.pB⟩
theorem He.Ok.dr {dn' un':Value} (h:e.Ok w) (hd:DocH B w p x O U dn un) (hr:Dr p dn un dn' un' w w'):e.Ok w':=by
 have hp:tyAt w p=some 110:=by unfold tyAt;rw[hd.blk]
 refine⟨?_,h.bytes,h.atoms,h.gd,h.h0,h.h3⟩;refine h.tr.kept_ty (fun b c ty hk hty=>?_);have ht:tyAt w b=some ty:=by unfold tyAt;rw[hk]
 refine hr.keep b (Z4 hk) ?_ ?_ ?_
 ·intro e;subst e;rw[hp] at ht;have:=Option.some.inj ht;rcases hty with q|q<;>(rw[q] at this;exact absurd this (by decide))
 ·intro e;have h1:=(hd.hd.lt e).2.2;rw[h1] at ht;have:=Option.some.inj ht;rcases hty with q|q<;>(rw[q] at this;exact absurd this (by decide))
 intro e;have h1:=(hd.hu.lt e).2.2;rw[h1] at ht;have:=Option.some.inj ht;rcases hty with q|q<;>(rw[q] at this;exact absurd this (by decide))
theorem Qe4 :∃i,prog.info? 91=some i/\i.zero=some (.agg #[.int .i64 0,.bool false,.nilIface,.string ⟨#[]⟩])/\i.size=4/\i.bytes=48:=by
 have h:(prog.info? 91).map (fun i=>(i.zero,i.size,i.bytes))=some (some (.agg #[.int .i64 0,.bool false,.nilIface,.string ⟨#[]⟩]),4,48):=by kernel_rfl
 cases hi:prog.info? 91 with
 |none=>rw[hi] at h;cases h
 |some i =>
  rw[hi] at h;have:=Option.some.inj h;injection this with h1 h2
  injection h2 with h2 h3
  exact⟨i,rfl,h1,h2,h3⟩
def pushO (O:List He) (x:He):List He:=(if O.length=30 then O.drop 1 else O)++[x]
theorem Qan {j:Nat} {cs:Array Value} {t:TypeId} {fz:Nat × Nat} (h:w.heap[p]?=some (.cells cs t fz)) (v:Value):(w.setCell ⟨p,j,none⟩ v).heap[p]?=some (.cells (cs.setIfInBounds j v) t fz):=by
 show (w.heap.modify p _)[p]?=_;rw[Array.getElem?_modify,if_pos rfl,h];rfl
theorem Qgg {n:Nat} {y:He} {v':Value} {F:World} {o:Obj} (h:DocH B w p x O U dn un) (hy:y.Ok w) (hown:w2.ownsRow B 91 4 v' n (hcells O++x.cells)) (hgr:(w.alloc o).drew.grownBy w2 dn.ownBlock) (hat:v'.ownBlock=dn.ownBlock\/v'.ownBlock=some (w.alloc o).drew.heap.size)
  (hb2:w2.heap[p]?=some (.cells #[.int .i64 x.k.enc,.bool x.k.mark,trv x.n,.string x.tail,dn,un] 110))
  (hF:F=((((((w2.setCell ⟨p,4,none⟩ v').setCell ⟨p,5,none⟩ (.slice none 0 0)).setCell ⟨p,0,none⟩ (.int .i64 y.k.enc)).setCell ⟨p,1,none⟩ (.bool y.k.mark)).setCell ⟨p,2,none⟩ (trv y.n)).setCell ⟨p,3,none⟩ (.string y.tail))) :
  DocH B F p y (O++[x]) [] v' (.slice none 0 0)/\Dr p dn un v' (.slice none 0 0) w F:=by
 have htn:Tn p w2 F:=by
  rw[hF];exact ((((((Tn.refl p w2).setCell _).setCell _).setCell _).setCell _).setCell _).setCell _
 have hpz:=Z4 h.blk
 have hsz:w.heap.size+1<=w2.heap.size:=by have:=hgr.size;rwa [World.size_drew,World.size_alloc] at this
 have hsd:(w.alloc o).drew.heap.size=w.heap.size+1:=by rw[World.size_drew,World.size_alloc]
 have hpd:dn.ownBlock≠some p:=fun e=>by
  have h1:=(h.hd.lt e).2.2;unfold tyAt at h1;rw[h.blk] at h1;exact absurd (Option.some.inj h1) (by decide)
 have hpv:v'.ownBlock≠some p:=by
  rcases hat with e|e
  ·rw[e];exact hpd
  rw[e,hsd];intro q;have:=Option.some.inj q;omega
 have hdr:Dr p dn un v' (.slice none 0 0) w F:=by
  refine⟨htn.os.trans hgr.os,htn.tape.trans hgr.tape,htn.output.trans hgr.output,by have:=htn.size;omega,fun k h1 h2 h3 _=>?_,fun g hg=>?_⟩
  ·rw[htn.keep k (by omega) h2,hgr.block k (by rw[hsd];omega) (fun e=>h3 e.symm)];show (w.alloc o).heap[k]?=_;exact Below.heap_alloc _ _ _ h1
  rcases hg with hg|hg
  ·rcases hat with e|e
   ·rw[e] at hg;exact .inl hg
   rw[e,hsd] at hg;have:=Option.some.inj hg;exact .inr (.inr (by omega))
  cases hg
 have hnn:n=(O++[x]).length:=by
  have:=hown.1;rw[List.length_append,Qak] at this;have e4:x.cells.length=4:=rfl;rw[List.length_append,List.length_singleton];omega
 refine⟨⟨?_,?_,?_,World.ownsRow_nil _ _ _ _,fun g _ e=>(by cases e),h.pB⟩,hdr⟩
 ·rw[hF];exact Qan (Qan (Qan (Qan (Qan (Qan hb2 _) _) _) _) _) _
 ·intro e he;have:e=y\/e∈O\/e=x:=by simpa using he
  rcases this with rfl|q|rfl
  ·exact He.Ok.dr hy h hdr
  ·exact He.Ok.dr (h.ok e (by simp [q])) h hdr
  exact He.Ok.dr (h.ok e (by simp)) h hdr
 have e1:hcells (O++[x])=hcells O++x.cells:=by rw[QaR];simp [hcells]
 show F.ownsRow B _ 4 v' (O++[x]).length (hcells (O++[x]))
 rw[e1,<-hnn]
 refine⟨hown.1,?_⟩
 rcases hown.2 with z|⟨g,cap,cur,z1,z2,z3,r⟩
 ·exact .inl z
 exact .inr ⟨g,cap,cur,z1,z2,(htn.keep g (Z4 z3) (fun e=>hpv (by rw[z1,e];rfl))).trans z3,r⟩
theorem Hrow.low (h:Hrow w g cap l) (hb:Below w.heap.size w w'):Hrow w' g cap l:=by
 obtain⟨⟨cur,h1,h2,h3⟩,h4,h5⟩:=h;exact⟨⟨cur,(hb.block g (Z4 h1)).trans h1,h2,h3⟩,h4,h5⟩
theorem QlM (B p:Nat) (x y:He) (O U:List He) (dn un:Value) (w:World) (h:DocH B w p x O U dn un) (hy:y.Ok w) (hO:O.length<30) :
  Calls prog 65 #[.pointer (some ⟨p,0,none⟩),ctv y.k y.n y.tail] w fun e w'=>∃dn',e=.returned (.tuple #[])/\DocH B w' p y (O++[x]) [] dn' (.slice none 0 0)/\Dr p dn un dn' (.slice none 0 0) w w':=by
 unfold ctv
 obtain⟨q,cap,hdv⟩:∃q cap,dn=.slice q O.length cap:=by
  rcases h.hd.2 with ⟨x,y⟩|⟨g,c,cur,x,_⟩
  ·exact⟨none,0,by rw[x,y]⟩
  exact⟨_,_,x⟩
 subst hdv
 have c4:=C4 h.blk
 have hz:=Z3 c4
 have hO1:¬(O.length:Int)=30:=by omega
 have hO2:((O.length:Int)==30)=false:=by simpa using hO1
 have HH:=Z1 h
 have HY:=Z1 hy
 clear h hy
 go_enter func65,ntmps65
 go_wp2_with fail
 have h:=HH.o
 have hw1:Below w.heap.size w (w.alloc (.cells #[.int .i64 y.k.enc,.bool y.k.mark,trv y.n,.string y.tail] 91)):=Z7 _ _
 have h':=h.low hw1
 have hy':=HY.o.low hw1
 have hdw:Dr p (.slice q O.length cap) un (.slice q O.length cap) un w (w.alloc (.cells #[.int .i64 y.k.enc,.bool y.k.mark,trv y.n,.string y.tail] 91)):=Dr.of_below hw1
 have hC:=Go.Deep.blk_alloc_new w (.cells #[.int .i64 y.k.enc,.bool y.k.mark,trv y.n,.string y.tail] 91)
 have hCo:(Value.slice q O.length cap).ownBlock≠some w.heap.size:=fun e=>by have:=(h.hd.lt e).2.1;omega
 have hCp:w.heap.size≠p:=by omega
 have hCz:w.heap.size<(w.alloc (.cells #[.int .i64 y.k.enc,.bool y.k.mark,trv y.n,.string y.tail] 91)).heap.size:=by rw[World.size_alloc];omega
 clear h c4 hz hw1 HH HY
 generalize w.alloc (.cells #[.int .i64 y.k.enc,.bool y.k.mark,trv y.n,.string y.tail] 91)=w1 at *
 generalize hCe:w.heap.size=C at *
 clear hCe
 obtain⟨ii,hi1,hi2,hi3,hi4⟩:=Qe4
 have hown0:(w1.alloc (.cells #[.int .i64 x.k.enc,.bool x.k.mark,trv x.n,.string x.tail] 91)).drew.ownsRow B 91 4 (.slice q O.length cap) O.length (hcells O):=h'.hd.low (fun g hg=>by
  show (w1.alloc _).heap[g]?=_
  exact Below.heap_alloc _ _ _ (h'.hd.lt hg).2.1)
 have hp0:=h'.pB
 have hz1:p<w1.heap.size:=Z4 h'.blk
 have c0:=C0 h'.blk
 have c1:=C1 h'.blk
 have c2:=C2 h'.blk
 have c3:=C3 h'.blk
 have c4:=C4 h'.blk
 have c5:=C5 h'.blk
 have fc:=fun j=>Lib.frozen_of_heap h'.blk j
 obtain⟨v',w2,hrun,hown,hgr,_,hat⟩:=run_append_own_at (P:=prog) (w1.alloc (.cells #[.int .i64 x.k.enc,.bool x.k.mark,trv x.n,.string x.tail] 91)).drew B 106 106 91 ii (.agg #[.int .i64 0,.bool false,.nilIface,.string ⟨#[]⟩]) 4 48 underlying106 hi1 hi2 hi3 hi4 rfl (by decide) (.slice q O.length cap) O.length (hcells O) hown0 ⟨w1.heap.size,0,none⟩ 1 1 x.cells rfl (QaI w1 x.cells 91) (Qhs x) (by unfold maxLen;omega) (by omega) (by simp;omega)
 obtain⟨q',cap',rfl⟩:∃q' cap',v'=.slice q' (O.length+1) cap':=by
  rcases hown.2 with ⟨x,y⟩|⟨g,c,cur,x,_⟩
  ·omega
  exact⟨_,_,x⟩
 have hpo:∀g,(Value.slice q O.length cap).ownBlock=some g->g≠p:=fun g hg e=>by
  subst e;have h1:=(h'.hd.lt hg).2.2;unfold tyAt at h1;rw[h'.blk] at h1;exact absurd (Option.some.inj h1) (by decide)
 have hb2:w2.heap[p]?=some (.cells #[.int .i64 x.k.enc,.bool x.k.mark,trv x.n,.string x.tail,.slice q O.length cap,un] 110):=by
  rw[hgr.block p (by show p<(w1.alloc _).heap.size;rw[World.size_alloc];omega) (fun e=>hpo p e.symm rfl)];show (w1.alloc _).heap[p]?=_;rw[Below.heap_alloc _ _ _ hz1];exact h'.blk
 have d0:=C0 hb2
 have d1:=C1 hb2
 have d2:=C2 hb2
 have d3:=C3 hb2
 have d4:=C4 hb2
 have d5:=C5 hb2
 have hby:w2.heap[C]?=some (.cells #[.int .i64 y.k.enc,.bool y.k.mark,trv y.n,.string y.tail] 91):=by
  rw[hgr.block C (by show C<(w1.alloc _).heap.size;rw[World.size_alloc];omega) (fun e=>hCo e.symm)];show (w1.alloc _).heap[C]?=_;rw[Below.heap_alloc _ _ _ (by omega)];exact hC
 have y0:=C0 hby
 have y1:=C1 hby
 have y2:=C2 hby
 have y3:=C3 hby
 have hyz:=Z3 y0
 have fd:=fun j=>Lib.frozen_of_heap hb2 j
 have hz2:=Z3 d0
 have hst:=fun (X:World) (a:Addr) (hc:X.cell? a=some (trv x.n)) (hf:X.frozen? a=false)=>Qaq y.n hc hf
 have HFIN:=Z1 (fun F hF=>Qgg h' hy' hown hgr hat hb2 (F:=F) hF)
 have hmo:prog.follows Departure.mixedOrders=true:=by kernel_rfl
 have HDW:=Z1 hdw
 clear h' hy' hdw hown hown0 hgr hat hb2 hp0 hpo hby hC hCo
 go_region_law (refine Qat rfl _ _ _ _ rfl _ _ rfl rfl _ _ hrun ?_)
 all_goals
  clear hrun c0 c1 c2 c3 c4 c5 fc;go_wp2_with fail;go_returns;have hf:=HFIN.o _ rfl;exact⟨_,rfl,hf.1,HDW.o.trans hf.2⟩
theorem QnE {z:He} (h:DocH B w p x (z :: O) U (.slice (some ⟨g,0,none⟩) (z :: O).length cap) un) (hr:Hrow w3 g cap O) (ht:Tn g w w3) :
  w3.cell? ⟨p,4,none⟩=some (.slice (some ⟨g,0,none⟩) (z :: O).length cap)/\w3.frozen? ⟨p,4,none⟩=false/\DocH B (w3.setCell ⟨p,4,none⟩ (.slice (some ⟨g,0,none⟩) O.length cap)) p x O U (.slice (some ⟨g,0,none⟩) O.length cap) un /\
   Dr p (.slice (some ⟨g,0,none⟩) (z :: O).length cap) un (.slice (some ⟨g,0,none⟩) O.length cap) un w (w3.setCell ⟨p,4,none⟩ (.slice (some ⟨g,0,none⟩) O.length cap)):=by
 have hl:=h.hd.lt (g:=g) rfl
 have hpg:p≠g:=fun e=>by
  have h1:=hl.2.2;rw[<-e] at h1;unfold tyAt at h1;rw[h.blk] at h1;exact absurd (Option.some.inj h1) (by decide)
 have hb3:w3.heap[p]?=some (.cells #[.int .i64 x.k.enc,.bool x.k.mark,trv x.n,.string x.tail,.slice (some ⟨g,0,none⟩) (z :: O).length cap,un] 110):=(ht.keep p (Z4 h.blk) hpg).trans h.blk
 have hdr:Dr p (.slice (some ⟨g,0,none⟩) (z :: O).length cap) un (.slice (some ⟨g,0,none⟩) O.length cap) un w (w3.setCell ⟨p,4,none⟩ (.slice (some ⟨g,0,none⟩) O.length cap)):=by
  refine⟨ht.os,ht.tape,ht.output,by simpa [World.setCell] using ht.size,fun k h1 h2 h3 _=>?_,fun k hk=>hk.elim .inl (fun x=>.inr (.inl x))⟩;rw[Below.heap_setCell _ _ _ _ (by simpa using h2)];exact ht.keep k h1 (fun e=>h3 (by rw[e];rfl))
 refine⟨by rw[Lib.cell_of_heap hb3];rfl,Lib.frozen_of_heap hb3 4,⟨Qan hb3 _,fun e he=>?_,?_,?_,h.ne,h.pB⟩,hdr⟩
 ·have:e=x\/e∈O\/e∈U:=by simpa using he
  refine He.Ok.dr (h.ok e ?_) h hdr;rcases this with q|q|q<;>simp [q]
 ·obtain⟨⟨cur,h1,h2,h3⟩,h4,h5⟩:=hr;refine⟨Qak O,.inr ⟨g,cap,cur,rfl,hl.1,?_,h4,h5,h2,h3⟩⟩;rw[Below.heap_setCell _ _ _ _ (by simpa using Ne.symm hpg)];exact h1
 refine h.hu.low (fun k hk=>?_)
 have hk1:=h.hu.lt hk
 have hkp:k≠p:=fun e=>by
  have h1:=hk1.2.2;rw[e] at h1;unfold tyAt at h1;rw[h.blk] at h1;exact absurd (Option.some.inj h1) (by decide)
 rw[Below.heap_setCell _ _ _ _ (by simpa using hkp)]
 exact ht.keep k hk1.2.1 (fun e=>h.ne g rfl (by rw[<-e];exact hk))
theorem QlW (B p:Nat) (x y z:He) (O U:List He) (dn un:Value) (w:World) (h:DocH B w p x (z :: O) U dn un) (hy:y.Ok w) (hO:O.length=29) :
  Calls prog 65 #[.pointer (some ⟨p,0,none⟩),ctv y.k y.n y.tail] w fun e w'=>∃dn',e=.returned (.tuple #[])/\DocH B w' p y (O++[x]) [] dn' (.slice none 0 0)/\Dr p dn un dn' (.slice none 0 0) w w':=by
 unfold ctv
 obtain⟨g,cap,cur,rfl,hgB,hg,hgc,hgm,hgs,hgt⟩:=h.hd.2.resolve_left (fun q=>by have:=q.2;rw[List.length_cons] at this;omega)
 have c4:=C4 h.blk
 have f4:w.frozen? ⟨p,4,none⟩=false:=Lib.frozen_of_heap h.blk 4
 have hz:=Z3 c4
 have hl30:(z :: O).length=30:=by rw[List.length_cons,hO]
 rw[hl30] at c4
 have hrow:Hrow w g cap ([]++z :: O):=⟨⟨cur,hg,hgs,hgt⟩,hgc,hgm⟩
 have hw1:Below w.heap.size w (w.alloc (.cells #[.int .i64 y.k.enc,.bool y.k.mark,trv y.n,.string y.tail] 91)):=Z7 _ _
 have hgz:=Z4 hg
 have HDEL:=Z1 (QeE g cap [] O z (w.alloc (.cells #[.int .i64 y.k.enc,.bool y.k.mark,trv y.n,.string y.tail] 91)) (hrow.low hw1))
 have e30:([]++z :: O).length=30:=hl30
 have e29:([]++O:List He).length=29:=hO
 rw[e30,e29] at HDEL
 simp only[List.length_nil,Int.cast_ofNat_Int,List.nil_append,Int.zero_add] at HDEL
 have HH:=Z1 h
 have HY:=Z1 hy
 have HW1:=Z1 hw1
 clear h hy hrow hg hgs hgt e30 e29 hw1
 go_enter func65,ntmps65
 go_wp2_with fail
 refine HDEL.o.mono ?_
 rintro e w3 ⟨rfl,hrow3,htn3⟩
 have h:=HH.o
 have h1:=h.low HW1.o
 have hb3:=QnE h1 hrow3 htn3
 obtain⟨c43,f43,h',hdw3⟩:=hb3
 have hdw:Dr p (.slice (some ⟨g,0,none⟩) (z :: O).length cap) un (.slice (some ⟨g,0,none⟩) O.length cap) un w (w3.setCell ⟨p,4,none⟩ (.slice (some ⟨g,0,none⟩) O.length cap)):=(Dr.of_below HW1.o).trans hdw3
 have hy':y.Ok (w3.setCell ⟨p,4,none⟩ (.slice (some ⟨g,0,none⟩) O.length cap)):=He.Ok.dr (HY.o.low HW1.o) h1 hdw3
 have hCg:w.heap.size≠g:=by omega
 have hCp:w.heap.size≠p:=by omega
 have hC:(w3.setCell ⟨p,4,none⟩ (.slice (some ⟨g,0,none⟩) O.length cap)).heap[w.heap.size]?=some (.cells #[.int .i64 y.k.enc,.bool y.k.mark,trv y.n,.string y.tail] 91):=by
  rw[Below.heap_setCell _ _ _ _ (by simpa using hCp),htn3.keep _ (by rw[World.size_alloc];omega) hCg];exact Go.Deep.blk_alloc_new _ _
 have hCo:(Value.slice (some ⟨g,0,none⟩) O.length cap).ownBlock≠some w.heap.size:=fun e=>hCg (Option.some.inj e).symm
 have hCz:w.heap.size<(w3.setCell ⟨p,4,none⟩ (.slice (some ⟨g,0,none⟩) O.length cap)).heap.size:=Z4 hC
 have hz3:=Z3 c43
 rw[hl30] at c43 hdw
 clear h h1 HH HY HW1 hrow3 htn3 hdw3 c4 f4 hz HDEL hgB hgc hgm hgz
 have HOK:=Z1 hO
 rw[hO] at h' hdw hy' hC hCo hCz
 go_wp2_with fail
 generalize w3.setCell ⟨p,4,none⟩ (.slice (some ⟨g,0,none⟩) 29 cap)=w1 at *
 generalize hCe:w.heap.size=C at *
 clear hCe c43 f43 hz3
 obtain⟨ii,hi1,hi2,hi3,hi4⟩:=Qe4
 have hown0:(w1.alloc (.cells #[.int .i64 x.k.enc,.bool x.k.mark,trv x.n,.string x.tail] 91)).drew.ownsRow B 91 4 (.slice (some ⟨g,0,none⟩) 29 cap) 29 (hcells O):=by
  have hh:Hst B (w1.alloc (.cells #[.int .i64 x.k.enc,.bool x.k.mark,trv x.n,.string x.tail] 91)).drew (.slice (some ⟨g,0,none⟩) 29 cap) O:=h'.hd.low (fun g hg=>by
   show (w1.alloc _).heap[g]?=_
   exact Below.heap_alloc _ _ _ (h'.hd.lt hg).2.1)
  unfold Hst at hh;rw[HOK.o] at hh;exact hh
 have hp0:=h'.pB
 have hz1:p<w1.heap.size:=Z4 h'.blk
 have c0:=C0 h'.blk
 have c1:=C1 h'.blk
 have c2:=C2 h'.blk
 have c3:=C3 h'.blk
 have c4:=C4 h'.blk
 have c5:=C5 h'.blk
 have fc:=fun j=>Lib.frozen_of_heap h'.blk j
 obtain⟨v',w2,hrun,hown,hgr,_,hat⟩:=run_append_own_at (P:=prog) (w1.alloc (.cells #[.int .i64 x.k.enc,.bool x.k.mark,trv x.n,.string x.tail] 91)).drew B 106 106 91 ii (.agg #[.int .i64 0,.bool false,.nilIface,.string ⟨#[]⟩]) 4 48 underlying106 hi1 hi2 hi3 hi4 rfl (by decide) (.slice (some ⟨g,0,none⟩) 29 cap) 29 (hcells O) hown0 ⟨w1.heap.size,0,none⟩ 1 1 x.cells rfl (QaI w1 x.cells 91) (Qhs x) (by unfold maxLen;omega) (by omega) (by simp;omega)
 obtain⟨q',cap',rfl⟩:∃q' cap',v'=.slice q' 30 cap':=by
  rcases hown.2 with ⟨x,y⟩|⟨g,c,cur,x,_⟩
  ·omega
  exact⟨_,_,x⟩
 have hpo:∀k,(Value.slice (some ⟨g,0,none⟩) 29 cap).ownBlock=some k->k≠p:=fun k hg e=>by
  subst e;have h1:=(h'.hd.lt hg).2.2;unfold tyAt at h1;rw[h'.blk] at h1;exact absurd (Option.some.inj h1) (by decide)
 have hb2:w2.heap[p]?=some (.cells #[.int .i64 x.k.enc,.bool x.k.mark,trv x.n,.string x.tail,.slice (some ⟨g,0,none⟩) 29 cap,un] 110):=by
  rw[hgr.block p (by show p<(w1.alloc _).heap.size;rw[World.size_alloc];omega) (fun e=>hpo p e.symm rfl)];show (w1.alloc _).heap[p]?=_;rw[Below.heap_alloc _ _ _ hz1];exact h'.blk
 have d0:=C0 hb2
 have d1:=C1 hb2
 have d2:=C2 hb2
 have d3:=C3 hb2
 have d4:=C4 hb2
 have d5:=C5 hb2
 have hby:w2.heap[C]?=some (.cells #[.int .i64 y.k.enc,.bool y.k.mark,trv y.n,.string y.tail] 91):=by
  rw[hgr.block C (by show C<(w1.alloc _).heap.size;rw[World.size_alloc];omega) (fun e=>hCo e.symm)];show (w1.alloc _).heap[C]?=_;rw[Below.heap_alloc _ _ _ (by omega)];exact hC
 have y0:=C0 hby
 have y1:=C1 hby
 have y2:=C2 hby
 have y3:=C3 hby
 have hyz:=Z3 y0
 have fd:=fun j=>Lib.frozen_of_heap hb2 j
 have hz2:=Z3 d0
 have hst:=fun (X:World) (a:Addr) (hc:X.cell? a=some (trv x.n)) (hf:X.frozen? a=false)=>Qaq y.n hc hf
 have HFIN:=Z1 (fun F hF=>Qgg h' hy' hown hgr hat hb2 (F:=F) hF)
 have hmo:prog.follows Departure.mixedOrders=true:=by kernel_rfl
 have HDW:=Z1 hdw
 clear h' hy' hdw hown hown0 hgr hat hb2 hp0 hpo hby hC hCo
 go_region_law (refine Qat rfl _ _ _ _ rfl _ _ rfl rfl _ _ hrun ?_)
 all_goals
  clear hrun c0 c1 c2 c3 c4 c5 fc;go_wp2_with fail;go_returns;have hf:=HFIN.o _ rfl;refine⟨_,rfl,hf.1,?_⟩;have hd:=HDW.o.trans hf.2;have e31:O.length+1=30:=by rw[HOK.o]
  rw[e31];exact hd
theorem Qch (B p:Nat) (x y:He) (O U:List He) (dn un:Value) (w:World) (h:DocH B w p x O U dn un) (hy:y.Ok w) (hO:O.length<=30) :
  Calls prog 65 #[.pointer (some ⟨p,0,none⟩),ctv y.k y.n y.tail] w fun e w'=>∃dn',e=.returned (.tuple #[])/\DocH B w' p y (pushO O x) [] dn' (.slice none 0 0)/\Dr p dn un dn' (.slice none 0 0) w w':=by
 unfold pushO
 by_cases hl:O.length=30
 ·rw[if_pos hl];cases O with
  |nil=>simp at hl
  |cons z O =>
   rw[List.length_cons] at hl;rw[List.drop_one,List.tail_cons];exact QlW B p x y z O U dn un w h hy (by omega)
 rw[if_neg hl]
 exact QlM B p x y O U dn un w h hy (by omega)
end Go.Proofs.YtoejbngihecafaaGreatDoor
