import Derived.Test.YtoejbngihecafaaGreatDoorC36
import Derived.Test.YtoejbngihecafaaGreatDoorC0
set_option maxRecDepth 100000
set_option maxHeartbeats 1000000
open Go.Proofs.Tryz
namespace Go.Proofs.YtoejbngihecafaaGreatDoor
open Go.RowKit
variable {B p g cap n:Nat} {x z:He} {O U:List He} {dn un v':Value} {w F w2 w3:World} {o:Obj}
theorem QbJ (h:DocH B w p x O U dn un):(dn.ownBlock=some g->g≠p)/\(un.ownBlock=some g->g≠p):=by
 constructor
 ·intro hg e;have h1:=(h.hd.lt hg).2.2;rw[e] at h1;unfold tyAt at h1;rw[h.blk] at h1;exact absurd (Option.some.inj h1) (by decide)
 intro hg e;have h1:=(h.hu.lt hg).2.2;rw[e] at h1;unfold tyAt at h1;rw[h.blk] at h1;exact absurd (Option.some.inj h1) (by decide)
theorem Qlk (h:DocH B w p x O U dn un) (hz:z∈O++U)
  (hF:F=(((w.setCell ⟨p,0,none⟩ (.int .i64 z.k.enc)).setCell ⟨p,1,none⟩ (.bool z.k.mark)).setCell ⟨p,2,none⟩ (trv z.n)).setCell ⟨p,3,none⟩ (.string z.tail)):DocH B F p z O U dn un/\Dr p dn un dn un w F:=by
 have htn:Tn p w F:=by rw[hF];exact ((((Tn.refl p w).setCell _).setCell _).setCell _).setCell _
 have hdr:Dr p dn un dn un w F:=⟨htn.os,htn.tape,htn.output,htn.size,fun k h1 h2 _ _=>htn.keep k h1 h2,fun _ hk=>hk.elim .inl (fun x=>.inr (.inl x))⟩
 refine⟨⟨?_,fun e he=>?_,h.hd.low (fun g hg=>htn.keep g (h.hd.lt hg).2.1 ((QbJ h).1 hg)),h.hu.low (fun g hg=>htn.keep g (h.hu.lt hg).2.1 ((QbJ h).2 hg)),h.ne,h.pB⟩,hdr⟩
 ·rw[hF];exact Qan (Qan (Qan (Qan h.blk _) _) _) _
 refine He.Ok.dr (h.ok e ?_) h hdr
 have:e=z\/e∈O++U:=by simpa using he
 rcases this with rfl|q
 ·exact List.mem_cons_of_mem _ hz
 exact List.mem_cons_of_mem _ q
theorem QeV {L:List He} (h:Hst B w (.slice (some ⟨g,0,none⟩) (L.length+1) cap) (L++[z])):Hrow w g cap (L++z :: [])/\g<w.heap.size/\w.cell? ⟨g,L.length * 4,none⟩=some (.int .i64 z.k.enc)/\w.cell? ⟨g,L.length * 4+1,none⟩=some (.bool z.k.mark)/\w.cell? ⟨g,L.length * 4+2,none⟩=some (trv z.n)/\w.cell? ⟨g,L.length * 4+3,none⟩=some (.string z.tail):=by
 have hl1:(L++[z]).length=L.length+1:=by rw[List.length_append,List.length_singleton]
 rcases h.2 with ⟨e,q⟩|⟨g',cap',cur,e,hB,hg,hc,hm,hs,ht⟩
 ·rw[hl1] at q;omega
 have e1:=Value.slice.inj e;obtain⟨e2,_,e3⟩:=e1;have e4:g=g':=congrArg Addr.block (Option.some.inj e2);subst e4;subst e3
 have hcc:∀j u,z.cells[j]?=some u->w.cell? ⟨g,L.length * 4+j,none⟩=some u:=by
  intro j u hj;have hj4:j<4:=(List.getElem?_eq_some_iff.1 hj).1;rw[Lib.cell_of_heap hg,<-hj]
  have h1:(hcells (L++[z]))[L.length * 4+j]?=z.cells[j]?:=by
   rw[QaR,List.getElem?_append_right (by rw[Qak];omega),Qak,show L.length * 4+j - L.length * 4=j by omega];simp [hcells]
  rw[<-h1,<-ht,List.getElem?_take_of_lt (by rw[hl1];omega),Array.getElem?_toList]
 exact⟨⟨⟨cur,hg,hs,ht⟩,hc,hm⟩,Z4 hg,hcc 0 _ rfl,hcc 1 _ rfl,hcc 2 _ rfl,hcc 3 _ rfl⟩
theorem Qle (h:DocH B w p x O U dn un) (hown:w2.ownsRow B 91 4 v' n (hcells U++x.cells)) (hgr:(w.alloc o).drew.grownBy w2 un.ownBlock) (hat:v'.ownBlock=un.ownBlock\/v'.ownBlock=some (w.alloc o).drew.heap.size)
  (hF:F=w2.setCell ⟨p,5,none⟩ v'):DocH B F p x O (U++[x]) dn v'/\Dr p dn un dn v' w F/\w2.heap[p]?=w.heap[p]?:=by
 have htn:Tn p w2 F:=by rw[hF];exact (Tn.refl p w2).setCell _
 have hpz:=Z4 h.blk
 have hsd:(w.alloc o).drew.heap.size=w.heap.size+1:=by rw[World.size_drew,World.size_alloc]
 have hsz:w.heap.size+1<=w2.heap.size:=by have:=hgr.size;rwa [hsd] at this
 have hpv0:un.ownBlock≠some p:=fun e=>(QbJ h).2 e rfl
 have hpv:v'.ownBlock≠some p:=by
  rcases hat with e|e
  ·rw[e];exact hpv0
  rw[e,hsd];intro q;have:=Option.some.inj q;omega
 have hkw:∀k,k<w.heap.size->un.ownBlock≠some k->w2.heap[k]?=w.heap[k]?:=fun k h1 h3=>by
  rw[hgr.block k (by rw[hsd];omega) (fun e=>h3 e.symm)];show (w.alloc o).heap[k]?=_;exact Below.heap_alloc _ _ _ h1
 have hdr:Dr p dn un dn v' w F:=by
  refine⟨htn.os.trans hgr.os,htn.tape.trans hgr.tape,htn.output.trans hgr.output,by have:=htn.size;omega,fun k h1 h2 _ h4=>by rw[htn.keep k (by omega) h2,hkw k h1 h4],fun g hg=>?_⟩;rcases hg with hg|hg
  ·exact .inl hg
  rcases hat with e|e
  ·rw[e] at hg;exact .inr (.inl hg)
  rw[e,hsd] at hg;have:=Option.some.inj hg;exact .inr (.inr (by omega))
 have hnn:n=(U++[x]).length:=by
  have:=hown.1;rw[List.length_append,Qak] at this;have e4:x.cells.length=4:=rfl;rw[List.length_append,List.length_singleton];omega
 have hnew:Hst B F v' (U++[x]):=by
  have e1:hcells (U++[x])=hcells U++x.cells:=by rw[QaR];simp [hcells]
  show F.ownsRow B _ 4 v' (U++[x]).length (hcells (U++[x]));rw[e1,<-hnn];refine⟨hown.1,?_⟩;rcases hown.2 with z|⟨g,cap,cur,z1,z2,z3,r⟩
  ·exact .inl z
  exact .inr ⟨g,cap,cur,z1,z2,(htn.keep g (Z4 z3) (fun e=>hpv (by rw[z1,e];rfl))).trans z3,r⟩
 have hb2:w2.heap[p]?=w.heap[p]?:=hkw p hpz hpv0
 have hoth:Hst B F dn O:=h.hd.low (fun g hg=>by
  rw[htn.keep g (by have:=(h.hd.lt hg).2.1;omega) ((QbJ h).1 hg)]
  exact hkw g (h.hd.lt hg).2.1 (fun e=>h.ne g hg e))
 refine⟨⟨by rw[hF];exact Qan (hb2.trans h.blk) _,fun e he=>?_,hoth,hnew,fun g hg e=>?_,h.pB⟩,hdr,hb2⟩
 ·refine He.Ok.dr (h.ok e ?_) h hdr;have:e=x\/e∈O\/e∈U\/e=x:=by simpa using he
  rcases this with q|q|q|q<;>simp [q]
 have hl:=(h.hd.lt hg).2.1
 rcases hat with q|q
 ·rw[q] at e;exact h.ne g hg e
 rw[q,hsd] at e;have:=Option.some.inj e;omega
theorem Qla (h:DocH B w p x O U dn un) (hown:w2.ownsRow B 91 4 v' n (hcells O++x.cells)) (hgr:(w.alloc o).drew.grownBy w2 dn.ownBlock) (hat:v'.ownBlock=dn.ownBlock\/v'.ownBlock=some (w.alloc o).drew.heap.size)
  (hF:F=w2.setCell ⟨p,4,none⟩ v'):DocH B F p x (O++[x]) U v' un/\Dr p dn un v' un w F/\w2.heap[p]?=w.heap[p]?:=by
 have htn:Tn p w2 F:=by rw[hF];exact (Tn.refl p w2).setCell _
 have hpz:=Z4 h.blk
 have hsd:(w.alloc o).drew.heap.size=w.heap.size+1:=by rw[World.size_drew,World.size_alloc]
 have hsz:w.heap.size+1<=w2.heap.size:=by have:=hgr.size;rwa [hsd] at this
 have hpv0:dn.ownBlock≠some p:=fun e=>(QbJ h).1 e rfl
 have hpv:v'.ownBlock≠some p:=by
  rcases hat with e|e
  ·rw[e];exact hpv0
  rw[e,hsd];intro q;have:=Option.some.inj q;omega
 have hkw:∀k,k<w.heap.size->dn.ownBlock≠some k->w2.heap[k]?=w.heap[k]?:=fun k h1 h3=>by
  rw[hgr.block k (by rw[hsd];omega) (fun e=>h3 e.symm)];show (w.alloc o).heap[k]?=_;exact Below.heap_alloc _ _ _ h1
 have hdr:Dr p dn un v' un w F:=by
  refine⟨htn.os.trans hgr.os,htn.tape.trans hgr.tape,htn.output.trans hgr.output,by have:=htn.size;omega,fun k h1 h2 h3 _=>by rw[htn.keep k (by omega) h2,hkw k h1 h3],fun g hg=>?_⟩;rcases hg with hg|hg
  ·rcases hat with e|e
   ·rw[e] at hg;exact .inl hg
   rw[e,hsd] at hg;have:=Option.some.inj hg;exact .inr (.inr (by omega))
  exact .inr (.inl hg)
 have hnn:n=(O++[x]).length:=by
  have:=hown.1;rw[List.length_append,Qak] at this;have e4:x.cells.length=4:=rfl;rw[List.length_append,List.length_singleton];omega
 have hnew:Hst B F v' (O++[x]):=by
  have e1:hcells (O++[x])=hcells O++x.cells:=by rw[QaR];simp [hcells]
  show F.ownsRow B _ 4 v' (O++[x]).length (hcells (O++[x]));rw[e1,<-hnn];refine⟨hown.1,?_⟩;rcases hown.2 with z|⟨g,cap,cur,z1,z2,z3,r⟩
  ·exact .inl z
  exact .inr ⟨g,cap,cur,z1,z2,(htn.keep g (Z4 z3) (fun e=>hpv (by rw[z1,e];rfl))).trans z3,r⟩
 have hb2:w2.heap[p]?=w.heap[p]?:=hkw p hpz hpv0
 have hoth:Hst B F un U:=h.hu.low (fun g hg=>by
  rw[htn.keep g (by have:=(h.hu.lt hg).2.1;omega) ((QbJ h).2 hg)]
  exact hkw g (h.hu.lt hg).2.1 (fun e=>h.ne g e hg))
 refine⟨⟨by rw[hF];exact Qan (hb2.trans h.blk) _,fun e he=>?_,hnew,hoth,fun g hg e=>?_,h.pB⟩,hdr,hb2⟩
 ·refine He.Ok.dr (h.ok e ?_) h hdr;have:e=x\/e∈O\/e=x\/e∈U:=by simpa using he
  rcases this with q|q|q|q<;>simp [q]
 have hl:=(h.hu.lt e).2.1
 rcases hat with q|q
 ·rw[q] at hg;exact h.ne g hg e
 rw[q,hsd] at hg;have:=Option.some.inj hg;omega
theorem QlR (h:DocH B w p x (O++[z]) U (.slice (some ⟨g,0,none⟩) (O++[z]).length cap) un) (hr:Hrow w3 g cap O) (ht:Tn g w w3) :
  w3.heap[p]?=w.heap[p]?/\DocH B (w3.setCell ⟨p,4,none⟩ (.slice (some ⟨g,0,none⟩) O.length cap)) p x O U (.slice (some ⟨g,0,none⟩) O.length cap) un/\Dr p (.slice (some ⟨g,0,none⟩) (O++[z]).length cap) un (.slice (some ⟨g,0,none⟩) O.length cap) un w (w3.setCell ⟨p,4,none⟩ (.slice (some ⟨g,0,none⟩) O.length cap)):=by
 have hl:=h.hd.lt (g:=g) rfl
 have hpg:p≠g:=fun e=>(QbJ (g:=g) h).1 rfl e.symm
 have hb3:w3.heap[p]?=w.heap[p]?:=ht.keep p (Z4 h.blk) hpg
 have hdr:Dr p (.slice (some ⟨g,0,none⟩) (O++[z]).length cap) un (.slice (some ⟨g,0,none⟩) O.length cap) un w (w3.setCell ⟨p,4,none⟩ (.slice (some ⟨g,0,none⟩) O.length cap)):=by
  refine⟨ht.os,ht.tape,ht.output,by simpa [World.setCell] using ht.size,fun k h1 h2 h3 h4=>?_,fun k hk=>hk.elim .inl (fun x=>.inr (.inl x))⟩;rw[Below.heap_setCell _ _ _ _ (by simpa using h2)];exact ht.keep k h1 (fun e=>h3 (by rw[e];rfl))
 have hmine:Hst B (w3.setCell ⟨p,4,none⟩ (.slice (some ⟨g,0,none⟩) O.length cap)) (.slice (some ⟨g,0,none⟩) O.length cap) O:=by
  obtain⟨⟨cur,h1,h2,h3⟩,h4,h5⟩:=hr;refine⟨Qak O,.inr ⟨g,cap,cur,rfl,hl.1,?_,h4,h5,h2,h3⟩⟩;rw[Below.heap_setCell _ _ _ _ (by simpa using Ne.symm hpg)];exact h1
 have hoth:Hst B (w3.setCell ⟨p,4,none⟩ (.slice (some ⟨g,0,none⟩) O.length cap)) un U:=h.hu.low (fun k hk=>by
  rw[Below.heap_setCell _ _ _ _ (by simpa using (QbJ h).2 hk)]
  exact ht.keep k (h.hu.lt hk).2.1 (fun e=>h.ne g rfl (by rw[<-e];exact hk)))
 refine⟨hb3,⟨Qan (hb3.trans h.blk) _,fun e he=>?_,hmine,hoth,h.ne,h.pB⟩,hdr⟩
 refine He.Ok.dr (h.ok e ?_) h hdr
 have:e=x\/e∈O\/e∈U:=by simpa using he
 rcases this with q|q|q<;>simp [q]
theorem Qlp (h:DocH B w p x O (U++[z]) dn (.slice (some ⟨g,0,none⟩) (U++[z]).length cap)) (hr:Hrow w3 g cap U) (ht:Tn g w w3) :
  w3.heap[p]?=w.heap[p]?/\DocH B (w3.setCell ⟨p,5,none⟩ (.slice (some ⟨g,0,none⟩) U.length cap)) p x O U dn (.slice (some ⟨g,0,none⟩) U.length cap)/\Dr p dn (.slice (some ⟨g,0,none⟩) (U++[z]).length cap) dn (.slice (some ⟨g,0,none⟩) U.length cap) w (w3.setCell ⟨p,5,none⟩ (.slice (some ⟨g,0,none⟩) U.length cap)):=by
 have hl:=h.hu.lt (g:=g) rfl
 have hpg:p≠g:=fun e=>(QbJ (g:=g) h).2 rfl e.symm
 have hb3:w3.heap[p]?=w.heap[p]?:=ht.keep p (Z4 h.blk) hpg
 have hdr:Dr p dn (.slice (some ⟨g,0,none⟩) (U++[z]).length cap) dn (.slice (some ⟨g,0,none⟩) U.length cap) w (w3.setCell ⟨p,5,none⟩ (.slice (some ⟨g,0,none⟩) U.length cap)):=by
  refine⟨ht.os,ht.tape,ht.output,by simpa [World.setCell] using ht.size,fun k h1 h2 h3 h4=>?_,fun k hk=>hk.elim .inl (fun x=>.inr (.inl x))⟩;rw[Below.heap_setCell _ _ _ _ (by simpa using h2)];exact ht.keep k h1 (fun e=>h4 (by rw[e];rfl))
 have hmine:Hst B (w3.setCell ⟨p,5,none⟩ (.slice (some ⟨g,0,none⟩) U.length cap)) (.slice (some ⟨g,0,none⟩) U.length cap) U:=by
  obtain⟨⟨cur,h1,h2,h3⟩,h4,h5⟩:=hr;refine⟨Qak U,.inr ⟨g,cap,cur,rfl,hl.1,?_,h4,h5,h2,h3⟩⟩;rw[Below.heap_setCell _ _ _ _ (by simpa using Ne.symm hpg)];exact h1
 have hoth:Hst B (w3.setCell ⟨p,5,none⟩ (.slice (some ⟨g,0,none⟩) U.length cap)) dn O:=h.hd.low (fun k hk=>by
  rw[Below.heap_setCell _ _ _ _ (by simpa using (QbJ h).1 hk)]
  exact ht.keep k (h.hd.lt hk).2.1 (fun e=>h.ne k hk (by rw[e];rfl)))
 refine⟨hb3,⟨Qan (hb3.trans h.blk) _,fun e he=>?_,hoth,hmine,h.ne,h.pB⟩,hdr⟩
 refine He.Ok.dr (h.ok e ?_) h hdr
 have:e=x\/e∈O\/e∈U:=by simpa using he
 rcases this with q|q|q<;>simp [q]
theorem QnB (B p:Nat) (x:He) (U:List He) (dn un:Value) (w:World) (h:DocH B w p x [] U dn un) :
  Calls prog 110 #[.pointer (some ⟨p,0,none⟩),.pointer (some ⟨p,4,none⟩),.pointer (some ⟨p,5,none⟩)] w fun e w'=>e=.returned (.bool false)/\w'=w:=by
 obtain⟨q,cap,hdv⟩:∃q cap,dn=.slice q 0 cap:=by
  rcases h.hd.2 with ⟨x,y⟩|⟨g,c,cur,x,_⟩
  ·exact⟨none,0,x⟩
  exact⟨_,_,x⟩
 subst hdv
 have c4:=C4 h.blk
 have hz:=Z3 c4
 go_enter func110,ntmps110
 go_wp2_with fail
 go_ret
 exact⟨rfl,rfl⟩
theorem Qny (B p:Nat) (x:He) (O:List He) (dn un:Value) (w:World) (h:DocH B w p x O [] dn un) :
  Calls prog 110 #[.pointer (some ⟨p,0,none⟩),.pointer (some ⟨p,5,none⟩),.pointer (some ⟨p,4,none⟩)] w fun e w'=>e=.returned (.bool false)/\w'=w:=by
 obtain⟨q,cap,hdv⟩:∃q cap,un=.slice q 0 cap:=by
  rcases h.hu.2 with ⟨x,y⟩|⟨g,c,cur,x,_⟩
  ·exact⟨none,0,x⟩
  exact⟨_,_,x⟩
 subst hdv
 have c4:=C5 h.blk
 have hz:=Z3 c4
 go_enter func110,ntmps110
 go_wp2_with fail
 go_ret
 exact⟨rfl,rfl⟩
theorem QlB (B p:Nat) (x z:He) (O U:List He) (dn un:Value) (w:World) (h:DocH B w p x (O++[z]) U dn un) (hO:O.length+U.length<=30) :
  Calls prog 110 #[.pointer (some ⟨p,0,none⟩),.pointer (some ⟨p,4,none⟩),.pointer (some ⟨p,5,none⟩)] w fun e w'=>∃dn' un',e=.returned (.bool true)/\DocH B w' p z O (U++[x]) dn' un'/\Dr p dn un dn' un' w w':=by
 obtain⟨g,cap,cur,rfl,hgB,hg,hgc,hgm,hgs,hgt⟩:=h.hd.2.resolve_left (fun q=>by have:=q.2;rw[List.length_append,List.length_singleton] at this;omega)
 obtain⟨q,ucap,hdv⟩:∃q ucap,un=.slice q U.length ucap:=by
  rcases h.hu.2 with ⟨x,y⟩|⟨g,c,cur,x,_⟩
  ·exact⟨none,0,by rw[x,y]⟩
  exact⟨_,_,x⟩
 subst hdv
 have hl1:(O++[z]).length=O.length+1:=by rw[List.length_append,List.length_singleton]
 have hp0:=h.pB
 have hz:p<w.heap.size:=Z4 h.blk
 have c0:=C0 h.blk
 have c1:=C1 h.blk
 have c2:=C2 h.blk
 have c3:=C3 h.blk
 have cf:=C4 h.blk
 have ct:=C5 h.blk
 have fc:=fun j=>Lib.frozen_of_heap h.blk j
 obtain⟨ii,hi1,hi2,hi3,hi4⟩:=Qe4
 have hown0:(w.alloc (.cells #[.int .i64 x.k.enc,.bool x.k.mark,trv x.n,.string x.tail] 91)).drew.ownsRow B 91 4 (.slice q U.length ucap) U.length (hcells U):=h.hu.low (fun g hg=>by
  show (w.alloc _).heap[g]?=_
  exact Below.heap_alloc _ _ _ (h.hu.lt hg).2.1)
 obtain⟨v',w2,hrun,hown,hgr,_,hat⟩:=run_append_own_at (P:=prog) (w.alloc (.cells #[.int .i64 x.k.enc,.bool x.k.mark,trv x.n,.string x.tail] 91)).drew B 106 106 91 ii (.agg #[.int .i64 0,.bool false,.nilIface,.string ⟨#[]⟩]) 4 48 underlying106 hi1 hi2 hi3 hi4 rfl (by decide) (.slice q U.length ucap) U.length (hcells U) hown0 ⟨w.heap.size,0,none⟩ 1 1 x.cells rfl (QaI w x.cells 91) (Qhs x) (by unfold maxLen;omega) (by omega) (by simp;omega)
 obtain⟨q',cap',rfl⟩:∃q' cap',v'=.slice q' (U.length+1) cap':=by
  rcases hown.2 with ⟨x,y⟩|⟨g,c,cur,x,_⟩
  ·omega
  exact⟨_,_,x⟩
 obtain⟨h3,hd3,hbp⟩:=Qle h hown hgr hat rfl
 have hb2:=hbp.trans h.blk
 have d0:=C0 hb2
 have d1:=C1 hb2
 have d2:=C2 hb2
 have d3:=C3 hb2
 have df:=C4 hb2
 have dt:=C5 hb2
 have fd:=fun j=>Lib.frozen_of_heap hb2 j
 have hz2:=Z3 d0
 have hmo:prog.follows Departure.mixedOrders=true:=by kernel_rfl
 have H3:=Z1 h3
 have HD3:=Z1 hd3
 have hpg:p≠g:=fun e=>(QbJ (g:=g) h).1 rfl e.symm
 have hL30:O.length<=30:=by omega
 rw[hl1] at cf df H3 HD3
 obtain⟨hrow3,hg3,z0,z1,z2,z3⟩:=QeV H3.o.hd
 have HR3:=Z1 hrow3
 obtain⟨h4,hd4⟩:=Qlk H3.o (z:=z) (by simp) rfl
 have HDEL:=Z1 (QeE g cap O [] z _ (QeV h4.hd).1)
 rw[hl1] at HDEL
 simp only[List.append_nil] at HDEL
 rw[<-hl1] at h4
 have H4:=Z1 h4
 have HD4:=Z1 hd4
 clear h4 hd4
 have hst:=fun (X:World) (a:Addr) (hc:X.cell? a=some (trv x.n)) (hf:X.frozen? a=false)=>Qaq z.n hc hf
 clear hrow3
 clear h hb2 hbp h3 hd3 hown hown0 hgr hat hg hgs hgt hgB
 have hnn:¬(O.length:Int)<0:=by omega
 have hnn2:(0:Int)<=(O.length:Int):=by omega
 have hnn3:(O.length:Int)<(O.length:Int)+1:=by omega
 go_enter func110,ntmps110
 go_wp2_with fail
 go_region_law (refine Qat rfl _ _ _ _ rfl _ _ rfl rfl _ _ hrun ?_)
 all_goals
  clear hrun c0 c1 c2 c3 cf ct fc;go_wp2_with fail;refine HDEL.o.mono ?_;rintro e w3 ⟨rfl,hrow3,htn3⟩;obtain⟨hb3,h5,hd5⟩:=QlR H4.o hrow3 htn3;have hb4:=hb3.trans H4.o.blk;rw[hl1] at hb4 hd5;have d0:=C4 hb4;have fd:=fun j=>Lib.frozen_of_heap hb4 j;have hz3:=Z3 d0;have H5:=Z1 h5;have HD5:=Z1 ((HD3.o.trans HD4.o).trans hd5);clear h5 hd5 hb4 hb3 hrow3 htn3 HDEL HR3 H3 HD3 H4 HD4;go_wp2_with fail;go_ret;refine⟨_,_,rfl,H5.o,?_⟩;rw[hl1];exact HD5.o
theorem Ql9 (B p:Nat) (x z:He) (O U:List He) (dn un:Value) (w:World) (h:DocH B w p x O (U++[z]) dn un) (hO:O.length+U.length<=30) :
  Calls prog 110 #[.pointer (some ⟨p,0,none⟩),.pointer (some ⟨p,5,none⟩),.pointer (some ⟨p,4,none⟩)] w fun e w'=>∃dn' un',e=.returned (.bool true)/\DocH B w' p z (O++[x]) U dn' un'/\Dr p dn un dn' un' w w':=by
 obtain⟨g,cap,cur,rfl,hgB,hg,hgc,hgm,hgs,hgt⟩:=h.hu.2.resolve_left (fun q=>by have:=q.2;rw[List.length_append,List.length_singleton] at this;omega)
 obtain⟨q,ucap,hdv⟩:∃q ucap,dn=.slice q O.length ucap:=by
  rcases h.hd.2 with ⟨x,y⟩|⟨g,c,cur,x,_⟩
  ·exact⟨none,0,by rw[x,y]⟩
  exact⟨_,_,x⟩
 subst hdv
 have hl1:(U++[z]).length=U.length+1:=by rw[List.length_append,List.length_singleton]
 have hp0:=h.pB
 have hz:p<w.heap.size:=Z4 h.blk
 have c0:=C0 h.blk
 have c1:=C1 h.blk
 have c2:=C2 h.blk
 have c3:=C3 h.blk
 have cf:=C5 h.blk
 have ct:=C4 h.blk
 have fc:=fun j=>Lib.frozen_of_heap h.blk j
 obtain⟨ii,hi1,hi2,hi3,hi4⟩:=Qe4
 have hown0:(w.alloc (.cells #[.int .i64 x.k.enc,.bool x.k.mark,trv x.n,.string x.tail] 91)).drew.ownsRow B 91 4 (.slice q O.length ucap) O.length (hcells O):=h.hd.low (fun g hg=>by
  show (w.alloc _).heap[g]?=_
  exact Below.heap_alloc _ _ _ (h.hd.lt hg).2.1)
 obtain⟨v',w2,hrun,hown,hgr,_,hat⟩:=run_append_own_at (P:=prog) (w.alloc (.cells #[.int .i64 x.k.enc,.bool x.k.mark,trv x.n,.string x.tail] 91)).drew B 106 106 91 ii (.agg #[.int .i64 0,.bool false,.nilIface,.string ⟨#[]⟩]) 4 48 underlying106 hi1 hi2 hi3 hi4 rfl (by decide) (.slice q O.length ucap) O.length (hcells O) hown0 ⟨w.heap.size,0,none⟩ 1 1 x.cells rfl (QaI w x.cells 91) (Qhs x) (by unfold maxLen;omega) (by omega) (by simp;omega)
 obtain⟨q',cap',rfl⟩:∃q' cap',v'=.slice q' (O.length+1) cap':=by
  rcases hown.2 with ⟨x,y⟩|⟨g,c,cur,x,_⟩
  ·omega
  exact⟨_,_,x⟩
 obtain⟨h3,hd3,hbp⟩:=Qla h hown hgr hat rfl
 have hb2:=hbp.trans h.blk
 have d0:=C0 hb2
 have d1:=C1 hb2
 have d2:=C2 hb2
 have d3:=C3 hb2
 have df:=C5 hb2
 have dt:=C4 hb2
 have fd:=fun j=>Lib.frozen_of_heap hb2 j
 have hz2:=Z3 d0
 have hmo:prog.follows Departure.mixedOrders=true:=by kernel_rfl
 have H3:=Z1 h3
 have HD3:=Z1 hd3
 have hpg:p≠g:=fun e=>(QbJ (g:=g) h).2 rfl e.symm
 have hL30:U.length<=30:=by omega
 rw[hl1] at cf df H3 HD3
 obtain⟨hrow3,hg3,z0,z1,z2,z3⟩:=QeV H3.o.hu
 have HR3:=Z1 hrow3
 obtain⟨h4,hd4⟩:=Qlk H3.o (z:=z) (by simp) rfl
 have HDEL:=Z1 (QeE g cap U [] z _ (QeV h4.hu).1)
 rw[hl1] at HDEL
 simp only[List.append_nil] at HDEL
 rw[<-hl1] at h4
 have H4:=Z1 h4
 have HD4:=Z1 hd4
 clear h4 hd4
 have hst:=fun (X:World) (a:Addr) (hc:X.cell? a=some (trv x.n)) (hf:X.frozen? a=false)=>Qaq z.n hc hf
 clear hrow3
 clear h hb2 hbp h3 hd3 hown hown0 hgr hat hg hgs hgt hgB
 have hnn:¬(U.length:Int)<0:=by omega
 have hnn2:(0:Int)<=(U.length:Int):=by omega
 have hnn3:(U.length:Int)<(U.length:Int)+1:=by omega
 go_enter func110,ntmps110
 go_wp2_with fail
 go_region_law (refine Qat rfl _ _ _ _ rfl _ _ rfl rfl _ _ hrun ?_)
 all_goals
  clear hrun c0 c1 c2 c3 cf ct fc;go_wp2_with fail;refine HDEL.o.mono ?_;rintro e w3 ⟨rfl,hrow3,htn3⟩;obtain⟨hb3,h5,hd5⟩:=Qlp H4.o hrow3 htn3;have hb4:=hb3.trans H4.o.blk;rw[hl1] at hb4 hd5;have d0:=C5 hb4;have fd:=fun j=>Lib.frozen_of_heap hb4 j;have hz3:=Z3 d0;have H5:=Z1 h5;have HD5:=Z1 ((HD3.o.trans HD4.o).trans hd5);clear h5 hd5 hb4 hb3 hrow3 htn3 HDEL HR3 H3 HD3 H4 HD4;go_wp2_with fail;go_ret;refine⟨_,_,rfl,H5.o,?_⟩;rw[hl1];exact HD5.o
theorem Qol (B p:Nat) (x:He) (U:List He) (dn un:Value) (w:World) (h:DocH B w p x [] U dn un) :
  Calls prog 71 #[.pointer (some ⟨p,0,none⟩)] w fun e w'=>e=.returned (.bool false)/\Below w.heap.size w w':=by
 have hz:=Z4 h.blk
 have HS:=Z1 (QnB B p x U dn un w.drew (h.low (Below.refl _ _).drew))
 clear h
 go_enter func71,ntmps71
 go_wp2_with fail
 go_region_with (first|(go_at_call 110;refine HS.o.mono ?_;rintro e w1 ⟨rfl,rfl⟩)|fail)
 all_goals
  clear HS;go_wp2_with fail;go_ret;exact⟨rfl,(Below.refl _ _).drew⟩
theorem QmO (B p:Nat) (x z:He) (O U:List He) (dn un:Value) (w:World) (h:DocH B w p x (O++[z]) U dn un) (hO:O.length+U.length<=30) :
  Calls prog 71 #[.pointer (some ⟨p,0,none⟩)] w fun e w'=>∃dn' un',e=.returned (.bool true)/\DocH B w' p z O (U++[x]) dn' un'/\Dr p dn un dn' un' w w':=by
 have hz:=Z4 h.blk
 have HS:=Z1 (QlB B p x z O U dn un w.drew (h.low (Below.refl _ _).drew) hO)
 clear h
 go_enter func71,ntmps71
 go_wp2_with fail
 go_region_with (first|(go_at_call 110;refine HS.o.mono ?_;rintro e w1 ⟨dn',un',rfl,h1,h2⟩)|fail)
 all_goals
  have H1:=Z1 h1;have H2:=Z1 ((Dr.of_below (p:=p) (dn:=dn) (un:=un) (Below.refl _ _).drew).trans h2);clear HS h1 h2;go_wp2_with fail;go_ret;exact⟨dn',un',rfl,H1.o,H2.o⟩
theorem QkN (B p:Nat) (x:He) (U:List He) (dn un:Value) (w:World) (h:DocH B w p x [] U dn un) :
  Calls prog 34 #[.pointer (some ⟨p,0,none⟩)] w fun e w'=>e=.returned (.int .i64 8)/\Below w.heap.size w w':=by
 have hz:=Z4 h.blk
 have HS:=Z1 (Qol B p x U dn un w h)
 clear h
 go_enter func34,ntmps34
 go_wp2_with fail
 refine HS.o.mono ?_
 rintro e w1 ⟨rfl,hb1⟩
 have HB:=Z1 hb1
 clear HS hb1
 go_wp2_with fail
 go_ret
 exact⟨rfl,HB.o⟩
theorem Qi3 (B p:Nat) (x z:He) (O U:List He) (dn un:Value) (w:World) (h:DocH B w p x (O++[z]) U dn un) (hO:O.length+U.length<=30) :
  Calls prog 34 #[.pointer (some ⟨p,0,none⟩)] w fun e w'=>∃dn' un',e=.returned (.int .i64 0)/\DocH B w' p z O (U++[x]) dn' un'/\Dr p dn un dn' un' w w':=by
 have hz:=Z4 h.blk
 have HS:=Z1 (QmO B p x z O U dn un w h hO)
 clear h
 go_enter func34,ntmps34
 go_wp2_with fail
 refine HS.o.mono ?_
 rintro e w1 ⟨dn',un',rfl,h1,h2⟩
 have H1:=Z1 h1
 have H2:=Z1 h2
 clear HS h1 h2
 go_wp2_with fail
 go_ret
 exact⟨dn',un',rfl,H1.o,H2.o⟩
theorem Qn8 (B p:Nat) (x:He) (O:List He) (dn un:Value) (w:World) (h:DocH B w p x O [] dn un) :
  Calls prog 72 #[.pointer (some ⟨p,0,none⟩)] w fun e w'=>e=.returned (.bool false)/\Below w.heap.size w w':=by
 have hz:=Z4 h.blk
 have HS:=Z1 (Qny B p x O dn un w.drew (h.low (Below.refl _ _).drew))
 clear h
 go_enter func72,ntmps72
 go_wp2_with fail
 go_region_with (first|(go_at_call 110;refine HS.o.mono ?_;rintro e w1 ⟨rfl,rfl⟩)|fail)
 all_goals
  clear HS;go_wp2_with fail;go_ret;exact⟨rfl,(Below.refl _ _).drew⟩
theorem Qnh (B p:Nat) (x z:He) (O U:List He) (dn un:Value) (w:World) (h:DocH B w p x O (U++[z]) dn un) (hO:O.length+U.length<=30) :
  Calls prog 72 #[.pointer (some ⟨p,0,none⟩)] w fun e w'=>∃dn' un',e=.returned (.bool true)/\DocH B w' p z (O++[x]) U dn' un'/\Dr p dn un dn' un' w w':=by
 have hz:=Z4 h.blk
 have HS:=Z1 (Ql9 B p x z O U dn un w.drew (h.low (Below.refl _ _).drew) hO)
 clear h
 go_enter func72,ntmps72
 go_wp2_with fail
 go_region_with (first|(go_at_call 110;refine HS.o.mono ?_;rintro e w1 ⟨dn',un',rfl,h1,h2⟩)|fail)
 all_goals
  have H1:=Z1 h1;have H2:=Z1 ((Dr.of_below (p:=p) (dn:=dn) (un:=un) (Below.refl _ _).drew).trans h2);clear HS h1 h2;go_wp2_with fail;go_ret;exact⟨dn',un',rfl,H1.o,H2.o⟩
theorem Qkm (B p:Nat) (x:He) (O:List He) (dn un:Value) (w:World) (h:DocH B w p x O [] dn un) :
  Calls prog 35 #[.pointer (some ⟨p,0,none⟩)] w fun e w'=>e=.returned (.int .i64 9)/\Below w.heap.size w w':=by
 have hz:=Z4 h.blk
 have HS:=Z1 (Qn8 B p x O dn un w h)
 clear h
 go_enter func35,ntmps35
 go_wp2_with fail
 refine HS.o.mono ?_
 rintro e w1 ⟨rfl,hb1⟩
 have HB:=Z1 hb1
 clear HS hb1
 go_wp2_with fail
 go_ret
 exact⟨rfl,HB.o⟩
theorem Qi8 (B p:Nat) (x z:He) (O U:List He) (dn un:Value) (w:World) (h:DocH B w p x O (U++[z]) dn un) (hO:O.length+U.length<=30) :
  Calls prog 35 #[.pointer (some ⟨p,0,none⟩)] w fun e w'=>∃dn' un',e=.returned (.int .i64 0)/\DocH B w' p z (O++[x]) U dn' un'/\Dr p dn un dn' un' w w':=by
 have hz:=Z4 h.blk
 have HS:=Z1 (Qnh B p x z O U dn un w h hO)
 clear h
 go_enter func35,ntmps35
 go_wp2_with fail
 refine HS.o.mono ?_
 rintro e w1 ⟨dn',un',rfl,h1,h2⟩
 have H1:=Z1 h1
 have H2:=Z1 h2
 clear HS h1 h2
 go_wp2_with fail
 go_ret
 exact⟨dn',un',rfl,H1.o,H2.o⟩
end Go.Proofs.YtoejbngihecafaaGreatDoor
