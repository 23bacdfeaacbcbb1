import Derived.Maps.AppendAt
import Derived.Test.YtoejbngihecafaaGreatDoorC4
import Derived.Test.YtoejbngihecafaaGreatDoorC28
import Derived.Test.YtoejbngihecafaaGreatDoorC47
import Derived.Test.YtoejbngihecafaaGreatDoorC0
set_option maxRecDepth 100000
set_option maxHeartbeats 1000000
open Go.Proofs.Tryz
namespace Go.Proofs.YtoejbngihecafaaGreatDoor
open Go.RowKit
variable {w' w w1 w2:World} {q i g n j x y k:Nat} {enc m:Int} {v v' u:Value} {t:TypeId} {bs:List UInt8} {own:Nat->Nat × Nat} {s:St} {b:ByteArray}
theorem Qbe (c n:Int) (w:World) (h1:-9223372036854775808<=c) (h2:c<=9223372036854775807) (hn:0<n) (hx:n<=9223372036854775807) :
  Calls prog 12 #[.int .i64 c,.int .i64 n] w fun e w'=>e=.returned (.int .i64 (Vm.pick c n))/\w'=w:=by
 have hb:=Vm.QbY c n hn
 have hn0:¬n=0:=by omega
 by_cases h:c<0
 ·have e:Vm.pick c n=(-(c+1)).tmod n:=by unfold Vm.pick;rw[if_pos h,Qmx _ _ (by omega)]
  have e2:(-(c+1)).tmod n = -((c+1).tmod n):=Int.neg_tmod _ _;rw[e,e2] at hb ⊢;clear e e2;go_enter func12,ntmps12;go_wp2;go_ret;exact⟨rfl,rfl⟩
 have e:Vm.pick c n=c%n:=by unfold Vm.pick;rw[if_neg h]
 rw[e] at hb ⊢;clear e
 go_enter func12,ntmps12
 go_wp2
 go_ret
 exact⟨rfl,rfl⟩
structure SvAt (w:World) (s:Nat) (bs:List UInt8) (g:Nat) (enc:Int) (mark:Bool) (n:Option Nd) (R:List (Cn × ByteArray)) (tail:ByteArray):Prop where
 blk:w.heap[s]?=some (.cells #[.int .i64 enc,.bool mark,trv n,.string tail,.int .i64 g] 115)
 tr:TrAt w enc n R
 h0:0<=enc
 h3:enc<=3
 bytes:bs=ctB enc mark R tail
 size:(rowB R).length+tail.size<=1099511627776
 le:g<=bs.length
def SV (w:World) (s:Nat) (bs:List UInt8) (g:Nat):Prop:=∃enc mark n R tail,SvAt w s bs g enc mark n R tail
section
variable {w:World} {s:Nat} {bs:List UInt8} {g:Nat} {enc:Int} {mark:Bool} {n:Option Nd} {R:List (Cn × ByteArray)} {tail:ByteArray}
theorem SvAt.low (h:SvAt w s bs g enc mark n R tail) (hb:Below w.heap.size w w'):SvAt w' s bs g enc mark n R tail :=
 ⟨(hb.block s (Z4 h.blk)).trans h.blk,h.tr.low hb,h.h0,h.h3,h.bytes,h.size,h.le⟩
theorem SvAt.at_ (h:SvAt w s bs g enc mark n R tail) :
  w.cell? ⟨s,0,none⟩=some (.int .i64 enc)/\w.cell? ⟨s,1,none⟩=some (.bool mark)/\w.cell? ⟨s,2,none⟩=some (trv n)/\w.cell? ⟨s,3,none⟩=some (.string tail)/\w.cell? ⟨s,4,none⟩=some (.int .i64 g) :=
 ⟨by rw[Lib.cell_of_heap h.blk];rfl,by rw[Lib.cell_of_heap h.blk];rfl,by rw[Lib.cell_of_heap h.blk];rfl,by rw[Lib.cell_of_heap h.blk];rfl,by rw[Lib.cell_of_heap h.blk];rfl⟩
theorem SvAt.len (h:SvAt w s bs g enc mark n R tail):bs.length=(mkB enc mark).size+(rowB R).length+tail.size:=by
 rw[h.bytes];unfold ctB;rw[List.length_append,List.length_append];have e1:(mkB enc mark).data.toList.length=(mkB enc mark).size:=rfl;have e2:tail.data.toList.length=tail.size:=rfl;omega
theorem SvAt.nb (h:SvAt w s bs g enc mark n R tail):NoNd w s:=by
 have ht:tyAt w s=some 115:=by unfold tyAt;rw[h.blk]
 unfold NoNd;rw[ht];exact⟨by decide,by decide⟩
theorem SvAt.set (h:SvAt w s bs g enc mark n R tail) (v:Int) (g':Nat) (hv:v=g') (hg:g'<=bs.length):SvAt (w.setCell ⟨s,4,none⟩ (.int .i64 v)) s bs g' enc mark n R tail:=by
 subst hv;have t1:Tn s w (w.setCell ⟨s,4,none⟩ (.int .i64 g')):=(Tn.refl _ _).setCell _;refine⟨?_,h.tr.tn2 h.nb t1,h.h0,h.h3,h.bytes,h.size,hg⟩;show (w.heap.modify s _)[s]?=_;rw[Array.getElem?_modify,if_pos rfl,h.blk];rfl
end
theorem docSaver (p:Nat) (enc:Int) (mark:Bool) (body:ByteArray) (w:World) (hd:DD w p enc mark body) :
  Calls prog 48 #[.pointer (some ⟨p,0,none⟩)] w fun e w'=>∃s,e=.returned (.pointer (some ⟨s,0,none⟩))/\w.heap.size<=s/\SV w' s (bytesOf enc mark body).data.toList 0/\Below w.heap.size w w':=by
 obtain⟨n,R,tail,h⟩:=hd
 obtain⟨p0,p1,p2,p3⟩:=h.at_
 have hz:=Z3 p0
 have HD:=Z1 h
 clear h
 go_enter func48,ntmps48
 go_wp2_with fail
 go_ret
 have hba:=Z7 w (.cells #[.int .i64 enc,.bool mark,trv n,.string tail,.int .i64 0] 115)
 have hl:=HD.o.lens
 have hs:=HD.o.size
 exact⟨_,rfl,Z6 _,⟨enc,mark,n,R,tail,heap_alloc_new w _,HD.o.tr.low hba,HD.o.h0,HD.o.h3,HD.o.ct,by omega,Nat.zero_le _⟩,hba⟩
theorem Tabs.kept (h:Tabs w) (h1:w'.heap[2]?=w.heap[2]?) (h2:w'.heap[6]?=w.heap[6]?) (h3:w'.heap[5]?=w.heap[5]?):Tabs w':=by
 have g1:∀o,w'.cell? ⟨2,o,none⟩=w.cell? ⟨2,o,none⟩:=fun o=>World.cell?_of_block (w:=w) (a:=⟨2,o,none⟩) h1;have g2:∀o,w'.cell? ⟨6,o,none⟩=w.cell? ⟨6,o,none⟩:=fun o=>World.cell?_of_block (w:=w) (a:=⟨6,o,none⟩) h2;have g3:∀o,w'.cell? ⟨5,o,none⟩=w.cell? ⟨5,o,none⟩:=fun o=>World.cell?_of_block (w:=w) (a:=⟨5,o,none⟩) h3
 refine⟨⟨fun k hk=>(g2 _).trans (h.seq.up k hk),fun k hk=>(g2 _).trans (h.seq.size k hk),fun k hk=>(g2 _).trans (h.seq.bits k hk),fun k hk=>(g2 _).trans (h.seq.least k hk),fun k hk=>(g2 _).trans (h.seq.most k hk)⟩,
  ⟨(g3 _).trans h.half.c0,(g3 _).trans h.half.c1,(g3 _).trans h.half.c2,(g3 _).trans h.half.c3⟩,?_⟩
 exact⟨(g1 _).trans h.enc.m0,(g1 _).trans h.enc.g0,(g1 _).trans h.enc.l0,(g1 _).trans h.enc.h0,(g1 _).trans h.enc.m1,(g1 _).trans h.enc.g1,(g1 _).trans h.enc.l1,(g1 _).trans h.enc.h1,(g1 _).trans h.enc.m2,(g1 _).trans h.enc.g2,(g1 _).trans h.enc.l2,(g1 _).trans h.enc.h2,(g1 _).trans h.enc.m3,(g1 _).trans h.enc.g3,(g1 _).trans h.enc.l3,(g1 _).trans h.enc.h3⟩
theorem Tabs.tn {a:Int} (h:Tabs w) (hq:w.cell? ⟨q,0,none⟩=some (.int .i64 a)) (hs:Tn q w w'):Tabs w':=by
 have e1:=h.enc.m0;have e2:=h.seq.up 0 (by decide);have e3:=h.half.c0;refine h.kept (hs.keep _ (Z3 e1) (fun e=>?_)) (hs.keep _ (Z3 e2) (fun e=>?_)) (hs.keep _ (Z3 e3) (fun e=>?_))
 ·subst e;rw[hq] at e1;cases e1
 ·subst e;rw[Nat.zero_mul,hq] at e2;cases e2
 subst e;rw[hq] at e3;cases e3
theorem Qjv (s:Nat) (bs:List UInt8) (g:Nat) (c:Int) (w:World) (ht:Tabs w) (hs:SV w s bs g) :
  Calls prog 21 #[.pointer (some ⟨s,0,none⟩),.int .i64 c] w fun e w'=>e=.returned (.string ⟨((bs.drop g).take c.toNat).toArray⟩)/\SV w' s bs (g+min c.toNat (bs.length - g))/\Tn s w w':=by
 obtain⟨enc,mark,n,R,tail,h⟩:=hs
 have hlen:=h.len
 have hle:=h.le
 have hsz:=h.size
 have hms:=QcI enc mark
 have h0:=h.h0
 have h3:=h.h3
 have HZ:=Z1 (fun (x:Bl w)=>Qe0 enc mark n R tail x.val (ht.below x.2) (h.tr.low x.2) h.h0 h.h3 (by omega) (by omega))
 rw[<-hlen] at HZ
 have q0:∀x:Bl w,x.val.cell? ⟨s,0,none⟩=some (.int .i64 enc):=fun x=>(h.low x.2).at_.1
 have q1:∀x:Bl w,x.val.cell? ⟨s,1,none⟩=some (.bool mark):=fun x=>(h.low x.2).at_.2.1
 have q2:∀x:Bl w,x.val.cell? ⟨s,2,none⟩=some (trv n):=fun x=>(h.low x.2).at_.2.2.1
 have q3:∀x:Bl w,x.val.cell? ⟨s,3,none⟩=some (.string tail):=fun x=>(h.low x.2).at_.2.2.2.1
 have q4:∀x:Bl w,x.val.cell? ⟨s,4,none⟩=some (.int .i64 g):=fun x=>(h.low x.2).at_.2.2.2.2
 have hz:=Z4 h.blk
 have H:=Z1 h
 have HT:=Z1 ht
 clear h ht
 have f4:∀x:Bl w,x.val.frozen? ⟨s,4,none⟩=false:=fun x=>Lib.frozen_of_heap (H.o.low x.2).blk 4
 have hzx:∀x:Bl w,s<x.val.heap.size:=fun x=>Z4 (H.o.low x.2).blk
 generalize hL:bs.length=L at *
 have hLb:L<=2199023255552:=by omega
 have HL:=Z1 hL
 clear hlen hL
 have hwl:IntKind.i64.wrap ((L:Int) - (g:Int))=(L:Int) - (g:Int):=by rw[IntKind.wrap_i64];omega
 obtain⟨k,hk⟩:∃k,k=min c ((L:Int) - (g:Int)):=⟨_,rfl⟩
 have hmin:=hk.symm
 have hmo:prog.follows Departure.mixedOrders=true:=by kernel_rfl
 by_cases h1:k<1
 ·have hF:min c.toNat (L - g)=0:=by omega
  have HF:=Z1 hF
  have HE:=Z1 (show ((bs.drop g).take c.toNat)=[] by
   apply List.eq_nil_of_length_eq_zero
   rw[List.length_take,List.length_drop,HL.o];exact hF)
  clear hk hF;go_enter func21,ntmps21;go_wp2_with fail;refine Qai hmo (by kernel_rfl) ?_
  repeat (go_big_quiet_step (refine Calls.bl_of (HZ.o _)))
  refine wpQuiet_nil ?_;intro _ hw';obtain⟨x5,hx5⟩:=hw';subst hx5;go_wp2_with fail;go_ret;refine⟨by rw[HE.o];rfl,⟨enc,mark,n,R,tail,?_⟩,⟨x5.2.os,x5.2.tape,x5.2.output,x5.2.size,fun k hk _=>x5.2.block k hk⟩⟩;rw[HF.o];exact H.o.low x5.2
 obtain⟨m,rfl⟩:∃m:Nat,k=m:=⟨k.toNat,by omega⟩
 have hF:min c.toNat (L - g)=m:=by omega
 have hgm:g+m<=L:=by omega
 have HF:=Z1 hF
 have HE:=Z1 (show Vm.partL (ctB enc mark R tail) (g:Int) ((g+m:Nat):Int)=((bs.drop g).take c.toNat) by
  rw[<-H.o.bytes];unfold Vm.partL;rw[show ((g:Int)).toNat=g by omega,show (((g+m:Nat):Int)).toNat=g+m by omega,List.drop_take,show g+m - g=m by omega];by_cases hcm:c.toNat<=L - g
  ·rw[show c.toNat=m by omega]
  rw[List.take_of_length_le (by rw[List.length_drop,HL.o];omega),List.take_of_length_le (by rw[List.length_drop,HL.o];omega)])
 clear hk hF
 have hw1:IntKind.i64.wrap ((g:Int)+(m:Int))=(g:Int)+(m:Int):=by rw[IntKind.wrap_i64];omega
 have hw2:IntKind.i64.wrap (g:Int)=(g:Int):=by rw[IntKind.wrap_i64];omega
 have h1I:¬(m:Int)<1:=h1
 have H6:=Z1 (fun (x:Bl w)=>(H.o.low x.2).set ((g:Int)+(m:Int)) (g+m) (by omega) (by rw[HL.o];exact hgm))
 go_enter func21,ntmps21
 go_wp2_with fail
 refine Qai hmo (by kernel_rfl) ?_
 repeat (go_big_quiet_step (refine Calls.bl_of (HZ.o _)))
 refine wpQuiet_nil ?_
 intro _ hw'
 obtain⟨x5,hx5⟩:=hw'
 subst hx5
 go_wp2_with fail
 have H7:=Z1 (H6.o x5)
 have HT7:=Z1 (HT.o.below x5.2)
 have ts:Tn s x5.val (x5.val.setCell ⟨s,4,none⟩ (.int .i64 ((g:Int)+(m:Int)))):=(Tn.refl _ _).setCell _
 have TS:=Z1 ((⟨x5.2.os,x5.2.tape,x5.2.output,x5.2.size,fun k hk _=>x5.2.block k hk⟩:Tn s w x5.val).trans ts)
 have HT8:=Z1 (HT7.o.tn (H.o.low x5.2).at_.1 ts)
 clear H6 HZ q0 q1 q2 q3 q4 f4 hzx ts HT7
 generalize x5.val.setCell ⟨s,4,none⟩ (.int .i64 ((g:Int)+(m:Int)))=w6 at *
 have q0:∀x:Bl w6,x.val.cell? ⟨s,0,none⟩=some (.int .i64 enc):=fun x=>(H7.o.low x.2).at_.1
 have q1:∀x:Bl w6,x.val.cell? ⟨s,1,none⟩=some (.bool mark):=fun x=>(H7.o.low x.2).at_.2.1
 have q2:∀x:Bl w6,x.val.cell? ⟨s,2,none⟩=some (trv n):=fun x=>(H7.o.low x.2).at_.2.2.1
 have q3:∀x:Bl w6,x.val.cell? ⟨s,3,none⟩=some (.string tail):=fun x=>(H7.o.low x.2).at_.2.2.2.1
 have q4:∀x:Bl w6,x.val.cell? ⟨s,4,none⟩=some (.int .i64 ((g:Int)+(m:Int))):=fun x=>by have:=(H7.o.low x.2).at_.2.2.2.2;rwa [Int.natCast_add] at this
 have HP:=Z1 (fun (x:Bl w6)=>QdA enc mark n R tail g (g+m) x.val (HT8.o.below x.2) (H7.o.tr.low x.2) h0 h3 (by omega) (by omega) (by omega) (by omega))
 rw[HE.o] at HP
 simp only[Int.natCast_add] at HP
 refine Qai hmo (by kernel_rfl) ?_
 repeat (go_big_quiet_step (refine Calls.bl_of (HP.o _)))
 refine wpQuiet_nil ?_
 intro _ hw'
 obtain⟨x8,hx8⟩:=hw'
 subst hx8
 go_wp2_with fail
 go_ret
 refine⟨rfl,⟨enc,mark,n,R,tail,?_⟩,TS.o.low x8.2⟩
 rw[HF.o];exact H7.o.low x8.2
theorem LdC.same {mode:Int} {begun:Bool} {mark:Bool} {tv:Value} {tail:ByteArray} (h:LdC w q mode begun enc mark tv tail v) (hk:w'.heap[q]?=w.heap[q]?):LdC w' q mode begun enc mark tv tail v:=by
 have g:∀o,w'.cell? ⟨q,o,none⟩=w.cell? ⟨q,o,none⟩:=fun o=>by simp only[World.cell?,hk]
 refine⟨(g _).trans h.c0,(g _).trans h.c1,(g _).trans h.c2,(g _).trans h.c3,(g _).trans h.c4,(g _).trans h.c5,(g _).trans h.c6,fun j=>?_,?_⟩
 ·rw[<-h.fr j];simp only[World.frozen?,hk]
 unfold NoNd tyAt;rw[hk];exact h.nb
theorem TrAt.turn {t:Option Nd} {R:List (Cn × ByteArray)} {G G':Nat->Prop} (h:TrAt w enc t R) (ht:Turn G G' w w') (hn:∀i,G i->NoNd w i):TrAt w' enc t R:=by
 refine h.kept_ty (fun b c ty hb hty=>ht.keep b (Z4 hb) (fun g=>?_));have hq:=hn b g;have e1:tyAt w b=some ty:=by unfold tyAt;rw[hb]
 rcases hty with q|q
 ·exact hq.1 (by rw[e1,q])
 exact hq.2 (by rw[e1,q])
theorem QcP (h:tyAt w i=some t) (h1:t≠188) (h2:t≠217):NoNd w i:=by
 unfold NoNd;rw[h];exact⟨fun e=>h1 (Option.some.inj e),fun e=>h2 (Option.some.inj e)⟩
def LX (B:Nat) (w:World) (q:Nat) (mode:Int) (all:List UInt8) (F:Nat->Prop):Prop :=
 ∃begun enc mark t R v ws,LdS B q mode begun enc mark t R v ws w/\Inv mode all begun enc mark t R ws/\B<=q/\∀i,F i↔(i=q\/wblk v=some i)
section
variable {B:Nat} {w w':World} {q:Nat} {mode:Int} {all:List UInt8} {F G G':Nat->Prop}
theorem LX.low (h:LX B w q mode all F) (hb:Below w.heap.size w w'):LX B w' q mode all F:=by
 obtain⟨begun,enc,mark,t,R,v,ws,h1,h2,h3,h4⟩:=h;exact⟨begun,enc,mark,t,R,v,ws,h1.low hb,h2,h3,h4⟩
theorem LX.ty (h:LX B w q mode all F) (hi:F i):B<=i/\i<w.heap.size/\NoNd w i/\(i=q\/tyAt w i=some 5):=by
 obtain⟨begun,enc,mark,t,R,v,ws,h1,h2,h3,h4⟩:=h;rcases (h4 i).1 hi with rfl|e
 ·exact⟨h3,h1.ld.lt,h1.ld.nb,.inl rfl⟩
 have hl:=h1.wt.blk_lt e;rcases h1.wt with ⟨rfl,rfl⟩|⟨g,o,cap,cur,rfl,hg,hh,r⟩
 ·cases e
 cases e
 have b:tyAt w g=some 5:=by unfold tyAt;rw[hh]
 exact⟨hl.2,hl.1,QcP b (by decide) (by decide),.inr b⟩
theorem LX.self (h:LX B w q mode all F):F q:=by
 obtain⟨_,_,_,_,_,_,_,_,_,_,h4⟩:=h;exact (h4 q).2 (.inl rfl)
theorem LX.turn (h:LX B w q mode all F) (ht:Turn G G' w w') (hd:∀i,G i->¬F i) (hn:∀i,G i->NoNd w i):LX B w' q mode all F:=by
 obtain⟨begun,enc,mark,t,R,v,ws,h1,h2,h3,h4⟩:=h;exact⟨begun,enc,mark,t,R,v,ws,⟨h1.ld.same (ht.keep q h1.ld.lt (fun g=>hd q g ((h4 q).2 (.inl rfl)))),h1.wt.kept (fun k hk=>ht.keep k (h1.wt.blk_lt hk).1 (fun g=>hd k g ((h4 k).2 (.inr hk)))),h1.nq,h1.tr.turn ht hn⟩,h2,h3,h4⟩
theorem Turn.of_ps (h:Ps q v w v' w') (hF:∀i,F i↔(i=q\/wblk v=some i)):Turn F (fun i=>i=q\/wblk v'=some i) w w' :=
 ⟨h.os,h.tape,h.output,h.size,fun i h1 h2=>h.keep i h1 (fun e=>h2 ((hF i).2 (.inl e))) (fun e=>h2 ((hF i).2 (.inr e))),fun i hi=>by
  rcases hi with rfl|hi
  ·exact .inl ((hF _).2 (.inl rfl))
  rcases h.row with r|r|⟨k,r,hk⟩
  ·exact .inl ((hF _).2 (.inr (r.symm.trans hi)))
  ·rw[r] at hi;cases hi
  rw[r] at hi;cases hi;exact .inr hk⟩
end
theorem xBegin (B:Nat) (mode:Int) (w:World) (h0:0<=mode) (h7:mode<=7) (hB:B<=w.heap.size) :
  Calls prog 10 #[.int .i64 mode] w fun e w'=>∃q,e=.returned (.tuple #[.pointer (some ⟨q,0,none⟩),.int .i64 0])/\w.heap.size<=q/\LX B w' q mode [] (fun i=>i=q)/\Below w.heap.size w w' :=
 (QjW mode w h0 h7).mono fun e w' ⟨he,hw⟩=>by
  have hba:=Z7 w (.cells #[.int .i64 mode,.bool false,.int .i64 0,.bool false,.nilIface,.string ⟨#[]⟩,.slice none 0 0] 96)
  subst hw
  refine⟨_,he,Z6 _,⟨false,0,false,none,[],.slice none 0 0,[],⟨LdC.of_heap (heap_alloc_new w _) (by decide) (by decide),.inl ⟨rfl,rfl⟩,(by intro e;cases e),⟨fun n hn=>(by cases hn),fun _=>rfl,fun x hx=>(by cases hx)⟩⟩,.inl ⟨rfl,rfl,rfl,rfl⟩,hB,fun i=>⟨.inl,fun h=>?_⟩⟩,hba⟩
  rcases h with h|h
  ·exact h
  cases h
theorem xPush (w0 w:World) (q:Nat) (mode:Int) (all:List UInt8) (F:Nat->Prop) (b:ByteArray) (ht:Tabs w0) (hb0:Below w0.heap.size w0 w) (h:LX w0.heap.size w q mode all F) (h0:0<=mode) (h7:mode<=7) (hl:all.length+b.size<=1099511627776) :
  Calls prog 13 #[.pointer (some ⟨q,0,none⟩),.string b] w fun e w'=>e=.returned (.tuple #[])/\∃F',LX w0.heap.size w' q mode (all++b.data.toList) F'/\Turn F F' w w':=by
 obtain⟨begun,enc,mark,t,R,v,ws,h1,h2,h3,h4⟩:=h
 exact (Qj0 w0.heap.size q mode enc begun mark t R v ws all b w0 w ht h3 (Z6 _) hb0.size hb0 h1 h2 hl h0 h7).mono fun e w' ⟨begun',enc',mark',t',R',v',ws',he,hl',hi',hp'⟩ =>
  ⟨he,_,⟨begun',enc',mark',t',R',v',ws',hl',hi',h3,fun i=>Iff.rfl⟩,Turn.of_ps hp' h4⟩
theorem xEnd (B:Nat) (w:World) (q:Nat) (mode:Int) (b:ByteArray) (F:Nat->Prop) (ht:Tabs w) (h:LX B w q mode b.data.toList F) (h0:0<=mode) (h7:mode<=7) (hl:b.size<=1099511627776) :
  Calls prog 17 #[.pointer (some ⟨q,0,none⟩)] w fun e w'=>∃p,e=.returned (.pointer (some ⟨p,0,none⟩))/\w.heap.size<=p/\DF w' p (encOf b mode) (ofMark b (encOf b mode)) (ofBody b (encOf b mode))/\Below w.heap.size w w':=by
 obtain⟨begun,enc,mark,t,R,v,ws,h1,h2,h3,h4⟩:=h
 exact Qk0 B q mode enc begun mark t R v ws b w ht h1 h2 hl h0 h7
theorem endedX (B:Nat) (w:World) (q:Nat) (mode:Int) (b:ByteArray) (F:Nat->Prop) (ht:Tabs w) (h:LX B w q mode b.data.toList F) (h0:0<=mode) (h7:mode<=7) (hs:b.size<=1000000000) (hB:B<=w.heap.size) :
  Calls prog 14 #[.pointer (some ⟨q,0,none⟩),.string b,.int .i64 mode] w fun e w'=>∃x K,e=.returned (.tuple #[.pointer (some ⟨x,0,none⟩),.bool true])/\PX B w' x ⟨ofK b (encOf b mode),[],[]⟩ K/\(∀i,K i->w.heap.size<=i)/\Below w.heap.size w w':=by
 have hq:q<w.heap.size:=(h.ty h.self).2.1
 have hG:St.Good b.size ⟨ofK b (encOf b mode),[],[]⟩:=Qe2 (Qb3 b mode).1 (Qb3 b mode).2
 have R:=Z2 (QdK b mode w (by omega) h0 h7)
 have E:=Z2 (fun W (hb:Below w.heap.size w W)=>xEnd B W q mode b F (ht.below hb) (h.low hb) h0 h7 (by omega))
 have HT:=Z2 ht
 have HG:=Z2 hG
 clear h ht hG
 go_enter func14,ntmps14
 go_wp2_with fail
 refine R.o.mono ?_
 rintro e w1 ⟨r,rfl,hr,hrd,hb1⟩
 clear R
 go_wp2_with fail
 refine (E.o _ hb1).mono ?_
 rintro e w2 ⟨p,rfl,hp,hd,hb2⟩
 have hb12:=hb1.trans (hb2.mono hb1.size)
 have hz1:=hb1.size
 have hrd2:=(hb2.block r (Z4 hrd)).trans hrd
 have hba:=Z7 w2 (.cells #[.pointer (some ⟨p,0,none⟩),.pointer (some ⟨r,0,none⟩)] 46)
 have hE:EH B w2 p ⟨ofK b (encOf b mode),[],[]⟩ (fun i=>i=p):=EH.new hd (by omega)
 have hR:RH B w2 r ⟨ofK b (encOf b mode),[],[]⟩ (fun i=>i=r):=RH.new hrd2 (by omega)
 have hP:PX B (w2.alloc (.cells #[.pointer (some ⟨p,0,none⟩),.pointer (some ⟨r,0,none⟩)] 46)) w2.heap.size ⟨ofK b (encOf b mode),[],[]⟩ (fun i=>i=w2.heap.size\/i=p\/i=r) :=
  ⟨p,r,_,_,Go.Deep.blk_alloc_new _ _,by have:=hb12.size;omega,hE.low hba,hR.low hba,fun i=>Iff.rfl⟩
 have HLK:=Z2 (hP.looked ((HT.o.below hb12).below hba) HG.o hs)
 have HPP:=Z2 hP
 have HB:=Z2 (hb12.trans (hba.mono hb12.size))
 have hz2:=hb12.size
 clear hP hE hR hd hrd hrd2 hba E hb1 hb2 hb12
 go_wp2_with fail
 refine HLK.o.mono ?_
 rintro e w3 ⟨rfl,hb3⟩
 have hP3:=HPP.o.low hb3
 have hB3:=HB.o.trans (hb3.mono HB.o.size)
 clear HLK HPP HB hb3
 go_wp2_with fail
 go_ret2
 refine⟨_,_,rfl,hP3,fun i hi=>?_,hB3⟩
 rcases hi with rfl|rfl|rfl<;>omega
def YX (B:Nat) (w:World) (y:Nat) (mode:Int) (b:ByteArray) (K:Nat->Prop):Prop :=
 ∃q F,w.heap[y]?=some (.cells #[.pointer (some ⟨q,0,none⟩),.int .i64 mode,.string b] 57)/\B<=y/\y≠q/\LX B w q mode b.data.toList F/\∀i,K i↔(i=y\/F i)
section
variable {B:Nat} {w w':World} {y s:Nat} {mode:Int} {b:ByteArray} {K G G':Nat->Prop}
theorem YX.low (h:YX B w y mode b K) (hb:Below w.heap.size w w'):YX B w' y mode b K:=by
 obtain⟨q,F,h1,h2,h3,h4,h5⟩:=h;exact⟨q,F,(hb.block y (Z4 h1)).trans h1,h2,h3,h4.low hb,h5⟩
theorem YX.ty (h:YX B w y mode b K) (hi:K i):B<=i/\i<w.heap.size/\NoNd w i:=by
 obtain⟨q,F,h1,h2,h3,h4,h5⟩:=h;rcases (h5 i).1 hi with rfl|e
 ·exact⟨h2,Z4 h1,QcP (t:=57) (by unfold tyAt;rw[h1]) (by decide) (by decide)⟩
 exact⟨(h4.ty e).1,(h4.ty e).2.1,(h4.ty e).2.2.1⟩
theorem YX.turn (h:YX B w y mode b K) (ht:Turn G G' w w') (hd:∀i,G i->¬K i) (hn:∀i,G i->NoNd w i):YX B w' y mode b K:=by
 obtain⟨q,F,h1,h2,h3,h4,h5⟩:=h;exact⟨q,F,(ht.keep y (Z4 h1) (fun e=>hd y e ((h5 y).2 (.inl rfl)))).trans h1,h2,h3,h4.turn ht (fun i hi hf=>hd i hi ((h5 i).2 (.inr hf))) hn,h5⟩
theorem SV.turn (h:SV w s bs g) (ht:Turn G G' w w') (hd:¬G s) (hn:∀i,G i->NoNd w i):SV w' s bs g:=by
 obtain⟨enc,mark,n,R,tail,h⟩:=h;exact⟨enc,mark,n,R,tail,(ht.keep s (Z4 h.blk) hd).trans h.blk,h.tr.turn ht hn,h.h0,h.h3,h.bytes,h.size,h.le⟩
theorem SV.lt (h:SV w s bs g):s<w.heap.size/\NoNd w s:=by
 obtain⟨enc,mark,n,R,tail,h⟩:=h;exact⟨Z4 h.blk,h.nb⟩
theorem Turn.of_tn (h:Tn s w w'):Turn (fun i=>i=s) (fun i=>i=s) w w':=⟨h.os,h.tape,h.output,h.size,fun i h1 h2=>h.keep i h1 h2,fun _ hi=>.inl hi⟩
end
def lab (own:Nat->Nat × Nat) (n:Nat) (l:Nat × Nat) (i:Nat):Nat × Nat:=if i<n then own i else l
theorem Qaj {l:Nat × Nat} (h:i<n):lab own n l i=own i:=if_pos h
theorem Qce {l:Nat × Nat} (h:n<=i):lab own n l i=l:=if_neg (by omega)
def Rw (B:Nat) (w:World) (t:TypeId) (v:Value) (l:List Value):Prop:=w.ownsRow B t 1 v l.length l
section
variable {B:Nat} {w w':World} {t:TypeId} {v:Value} {l:List Value}
theorem Rw.keep (h:Rw B w t v l) (hb:∀g,v.ownBlock=some g->w'.heap[g]?=w.heap[g]?):Rw B w' t v l:=by
 refine⟨h.1,?_⟩;rcases h.2 with x|⟨g,cap,cur,e1,e2,e3,r⟩
 ·exact .inl x
 exact .inr ⟨g,cap,cur,e1,e2,(hb g (by rw[e1];rfl)).trans e3,r⟩
theorem Rw.lt (h:Rw B w t v l) (hg:v.ownBlock=some g):B<=g/\g<w.heap.size/\tyAt w g=some t:=by
 rcases h.2 with ⟨x,_⟩|⟨g',cap,cur,e1,e2,e3,r⟩
 ·rw[x] at hg;cases hg
 rw[e1] at hg;have e:g'=g:=Option.some.inj hg;subst e;exact⟨e2,Z4 e3,by unfold tyAt;rw[e3]⟩
theorem Rw.val (h:Rw B w t v l):∃q cap,v=.slice q l.length cap:=by
 rcases h.2 with ⟨x,y⟩|⟨g,cap,cur,e1,_⟩
 ·exact⟨none,0,by rw[x,y]⟩
 exact⟨_,cap,e1⟩
theorem Rw.at_ {q:Option Addr} {cap:Nat} (h:Rw B w t (.slice q n cap) l) (hj:l[j]?=some u):∃g,q=some ⟨g,0,none⟩/\w.cell? ⟨g,j,none⟩=some u:=by
 have hl:j<l.length:=(List.getElem?_eq_some_iff.1 hj).1;rcases h.2 with ⟨x,y⟩|⟨g,c,cur,e1,e2,e3,e4,e5,e6,e7⟩
 ·omega
 injection e1 with a1 a2 a3
 refine⟨g,a1,?_⟩;rw[Lib.cell_of_heap e3];have h8:(cur.toList.take (l.length * 1))[j]?=some u:=by rw[e7];exact hj
 rw[List.getElem?_take,if_pos (by omega)] at h8;rw[<-Array.getElem?_toList];exact h8
theorem Rw.nil (B:Nat) (w:World) (t:TypeId):Rw B w t (.slice none 0 0) []:=World.ownsRow_nil _ _ _ _
end
def ptr (x:Nat):Value:=.pointer (some ⟨x,0,none⟩)
structure Gm (B:Nat) (w:World) (own:Nat->Nat × Nat) (g:Nat) (vd vl vs vt:Value) (M:Nat) (Ds:List (Nat × St)) (Ls:List (Nat × Int × ByteArray)) (Ss:List (Nat × ByteArray)) (Ts:List ByteArray):Prop where
 blk:w.heap[g]?=some (.cells #[vd,vl,vs,vt] 52)
 gB:B<=g
 rd:Rw B w 33 vd (Ds.map fun x=>ptr x.1)
 rl:Rw B w 58 vl (Ls.map fun x=>ptr x.1)
 rs:Rw B w 59 vs (Ss.map fun x=>ptr x.1)
 rt:Rw B w 9 vt (Ts.map Value.string)
 og:own g=(3,0)
 od:∀i,vd.ownBlock=some i->own i=(3,0)
 ol:∀i,vl.ownBlock=some i->own i=(3,0)
 os:∀i,vs.ownBlock=some i->own i=(3,0)
 ot:∀i,vt.ownBlock=some i->own i=(3,0)
 dd:∀j x s,Ds[j]?=some (x,s)->∃K,PX B w x s K/\s.Good M/\∀i,K i->own i=(0,j)
 ll:∀j y m b,Ls[j]?=some (y,m,b)->∃K,YX B w y m b K/\0<=m/\m<=7/\b.size<=M/\∀i,K i->own i=(1,j)
 ss:∀j s b,Ss[j]?=some (s,b)->SV w s b.data.toList 0/\B<=s/\own s=(2,j)
section
variable {B:Nat} {w w':World} {own:Nat->Nat × Nat} {g M M':Nat} {vd vl vs vt vd' vl' vs' vt':Value} {Ds:List (Nat × St)} {Ls:List (Nat × Int × ByteArray)} {Ss:List (Nat × ByteArray)} {Ts:List ByteArray} {K K':Nat->Prop} {l:Nat × Nat}
theorem Gm.ddT (h:Gm B w own g vd vl vs vt M Ds Ls Ss Ts) (hM:M<=M') (ht:Turn K K' w w') (hn:∀i,K i->NoNd w i) (hd:∀i,K i->own i≠(0,j)) (hj:Ds[j]?=some (x,s)):∃K,PX B w' x s K/\s.Good M'/\∀i,K i->lab own w.heap.size l i=(0,j):=by
 obtain⟨K0,h1,h2,h3⟩:=h.dd j x s hj;exact⟨K0,h1.turn ht (fun i hi hk=>hd i hi (h3 i hk)) hn,h2.mono hM,fun i hi=>by rw[Qaj (h1.ty hi).2.1];exact h3 i hi⟩
theorem Gm.llT (h:Gm B w own g vd vl vs vt M Ds Ls Ss Ts) (hM:M<=M') (ht:Turn K K' w w') (hn:∀i,K i->NoNd w i) (hd:∀i,K i->own i≠(1,j)) (hj:Ls[j]?=some (y,m,b)):∃K,YX B w' y m b K/\0<=m/\m<=7/\b.size<=M'/\∀i,K i->lab own w.heap.size l i=(1,j):=by
 obtain⟨K0,h1,h2,h3,h4,h5⟩:=h.ll j y m b hj;exact⟨K0,h1.turn ht (fun i hi hk=>hd i hi (h5 i hk)) hn,h2,h3,by omega,fun i hi=>by rw[Qaj (h1.ty hi).2.1];exact h5 i hi⟩
theorem Gm.ssT (h:Gm B w own g vd vl vs vt M Ds Ls Ss Ts) (ht:Turn K K' w w') (hn:∀i,K i->NoNd w i) {s:Nat} (hd:∀i,K i->own i≠(2,j)) (hj:Ss[j]?=some (s,b)):SV w' s b.data.toList 0/\B<=s/\lab own w.heap.size l s=(2,j):=by
 obtain⟨h1,h2,h3⟩:=h.ss j s b hj;exact⟨h1.turn ht (fun hi=>hd s hi h3) hn,h2,by rw[Qaj h1.lt.1];exact h3⟩
theorem Gm.glt (h:Gm B w own g vd vl vs vt M Ds Ls Ss Ts):g<w.heap.size:=Z4 h.blk
theorem Gm.nd (h:Gm B w own g vd vl vs vt M Ds Ls Ss Ts):NoNd w g:=QcP (t:=52) (by unfold tyAt;rw[h.blk]) (by decide) (by decide)
theorem Gm.other (h:Gm B w own g vd vl vs vt M Ds Ls Ss Ts) (ht:Turn K K' w w') (hd:∀i,K i->own i≠(3,0)) (Ds':List (Nat × St)) (Ls':List (Nat × Int × ByteArray)) (hD:Ds'.map (fun x=>ptr x.1)=Ds.map (fun x=>ptr x.1)) (hL:Ls'.map (fun x=>ptr x.1)=Ls.map (fun x=>ptr x.1))
  (hdd:∀j x s,Ds'[j]?=some (x,s)->∃K,PX B w' x s K/\s.Good M'/\∀i,K i->lab own w.heap.size l i=(0,j))
  (hll:∀j y m b,Ls'[j]?=some (y,m,b)->∃K,YX B w' y m b K/\0<=m/\m<=7/\b.size<=M'/\∀i,K i->lab own w.heap.size l i=(1,j))
  (hss:∀j s b,Ss[j]?=some (s,b)->SV w' s b.data.toList 0/\B<=s/\lab own w.heap.size l s=(2,j)):Gm B w' (lab own w.heap.size l) g vd vl vs vt M' Ds' Ls' Ss Ts :=
 ⟨(
  ht.keep g h.glt (fun e=>hd g e h.og)).trans h.blk,h.gB,
  by rw[hD];exact h.rd.keep (fun i hi=>ht.keep i (h.rd.lt hi).2.1 (fun e=>hd i e (h.od i hi))),
  by rw[hL];exact h.rl.keep (fun i hi=>ht.keep i (h.rl.lt hi).2.1 (fun e=>hd i e (h.ol i hi))),
  h.rs.keep (fun i hi=>ht.keep i (h.rs.lt hi).2.1 (fun e=>hd i e (h.os i hi))),
  h.rt.keep (fun i hi=>ht.keep i (h.rt.lt hi).2.1 (fun e=>hd i e (h.ot i hi))),
  (Qaj h.glt).trans h.og,fun i hi=>(Qaj (h.rd.lt hi).2.1).trans (h.od i hi),fun i hi=>(Qaj (h.rl.lt hi).2.1).trans (h.ol i hi),fun i hi=>(Qaj (h.rs.lt hi).2.1).trans (h.os i hi),fun i hi=>(Qaj (h.rt.lt hi).2.1).trans (h.ot i hi),hdd,hll,hss⟩
theorem Gm.low (h:Gm B w own g vd vl vs vt M Ds Ls Ss Ts) (hb:Below w.heap.size w w') (l:Nat × Nat):Gm B w' (lab own w.heap.size l) g vd vl vs vt M Ds Ls Ss Ts:=by
 have ht:Turn (fun _=>False) (fun _=>False) w w':=Turn.of_below hb;exact h.other ht (fun _ e=>e.elim) Ds Ls rfl rfl (fun j x s hj=>h.ddT (Z6 _) ht (fun _ e=>e.elim) (fun _ e=>e.elim) hj) (fun j y m b hj=>h.llT (Z6 _) ht (fun _ e=>e.elim) (fun _ e=>e.elim) hj) (fun j s b hj=>h.ssT ht (fun _ e=>e.elim) (fun _ e=>e.elim) hj)
theorem Gm.mono (h:Gm B w own g vd vl vs vt M Ds Ls Ss Ts) (hM:M<=M'):Gm B w own g vd vl vs vt M' Ds Ls Ss Ts :=
 ⟨h.blk,h.gB,h.rd,h.rl,h.rs,h.rt,h.og,h.od,h.ol,h.os,h.ot,fun j x s hj=>by obtain⟨K,h1,h2,h3⟩:=h.dd j x s hj;exact⟨K,h1,h2.mono hM,h3⟩,fun j y m b hj=>by obtain⟨K,h1,h2,h3,h4,h5⟩:=h.ll j y m b hj;exact⟨K,h1,h2,h3,by omega,h5⟩,h.ss⟩
theorem map_set {α:Type} {f:α->Value} {l:List α} {a b:α} (hj:l[j]?=some a) (hf:f b=f a):(l.set j b).map f=l.map f:=by
 rw[List.map_set,hf];apply List.ext_getElem?;intro i;rw[List.getElem?_set];split
 ·rename_i e;subst e;rw[List.getElem?_map,hj];have:j<(l.map f).length:=by rw[List.length_map];exact (List.getElem?_eq_some_iff.1 hj).1
  rw[if_pos this];rfl
 rfl
theorem Gm.doc (h:Gm B w own g vd vl vs vt M Ds Ls Ss Ts) {s':St} (hj:Ds[j]?=some (x,s)) (hx:PX B w x s K) (hK:∀i,K i->own i=(0,j)) (hx':PX B w' x s' K') (hg:s'.Good M') (hM:M<=M') (ht:Turn K K' w w'):Gm B w' (lab own w.heap.size (0,j)) g vd vl vs vt M' (Ds.set j (x,s')) Ls Ss Ts:=by
 have hn:∀i,K i->NoNd w i:=fun i hi=>(hx.ty hi).2.2
 have ne:∀a b:Nat,a≠0->∀i,K i->own i≠(a,b):=fun a b ha i hi e=>by
  have:=(hK i hi).symm.trans e;exact ha (congrArg Prod.fst this).symm
 refine h.other ht (ne 3 0 (by decide)) _ Ls (map_set hj rfl) rfl (fun i y t hi=>?_) (fun i y m b hi=>h.llT hM ht hn (ne 1 i (by decide)) hi) (fun i y b hi=>h.ssT ht hn (ne 2 i (by decide)) hi);rw[List.getElem?_set] at hi;split at hi
 ·rename_i e;subst e;split at hi
  ·obtain⟨rfl,rfl⟩:=Prod.mk.inj (Option.some.inj hi);refine⟨K',hx',hg,fun i hi=>?_⟩;rcases ht.new i hi with q|q
   ·rw[Qaj (hx.ty q).2.1];exact hK i q
   exact Qce q
  cases hi
 rename_i e;exact h.ddT hM ht hn (fun k hk q=>e (congrArg Prod.snd ((hK k hk).symm.trans q))) hi
theorem Gm.ldr (h:Gm B w own g vd vl vs vt M Ds Ls Ss Ts) {b':ByteArray} (hj:Ls[j]?=some (y,m,b)) (hx:YX B w y m b K) (hK:∀i,K i->own i=(1,j)) (h0:0<=m) (h7:m<=7) (hx':YX B w' y m b' K') (hg:b'.size<=M') (hM:M<=M') (ht:Turn K K' w w'):Gm B w' (lab own w.heap.size (1,j)) g vd vl vs vt M' Ds (Ls.set j (y,m,b')) Ss Ts:=by
 have hn:∀i,K i->NoNd w i:=fun i hi=>(hx.ty hi).2.2
 have ne:∀a b:Nat,a≠1->∀i,K i->own i≠(a,b):=fun a b ha i hi e=>by
  have:=(hK i hi).symm.trans e;exact ha (congrArg Prod.fst this).symm
 refine h.other ht (ne 3 0 (by decide)) Ds _ rfl (map_set hj rfl) (fun i y t hi=>h.ddT hM ht hn (ne 0 i (by decide)) hi) (fun i y1 m1 b1 hi=>?_) (fun i y b hi=>h.ssT ht hn (ne 2 i (by decide)) hi);rw[List.getElem?_set] at hi;split at hi
 ·rename_i e;subst e;split at hi
  ·obtain⟨e1,e2⟩:=Prod.mk.inj (Option.some.inj hi);obtain⟨e3,e4⟩:=Prod.mk.inj e2;subst e1 e3 e4;refine⟨K',hx',h0,h7,hg,fun i hi=>?_⟩;rcases ht.new i hi with q|q
   ·rw[Qaj (hx.ty q).2.1];exact hK i q
   exact Qce q
  cases hi
 rename_i e;exact h.llT hM ht hn (fun k hk q=>e (congrArg Prod.snd ((hK k hk).symm.trans q))) hi
theorem QiJ {α:Type} {l:List α} {a b:α} (h:(l++[a])[j]?=some b):l[j]?=some b\/(j=l.length/\b=a):=by
 rw[List.getElem?_append] at h;split at h
 ·exact .inl h
 rename_i hl;right
 have:j - l.length=0:=by
  by_cases q:j - l.length=0
  ·exact q
  obtain⟨n,hn⟩:=Nat.exists_eq_succ_of_ne_zero q;rw[hn] at h;cases h
 rw[this] at h;exact⟨by omega,(Option.some.inj h).symm⟩
theorem QbP (hb:Below w.heap.size w w1) (hgr:w1.grownBy w2 v.ownBlock) (hat:v'.ownBlock=v.ownBlock\/v'.ownBlock=some w1.heap.size):Turn (fun i=>i=g\/v.ownBlock=some i) (fun i=>i=g\/v'.ownBlock=some i) w (w2.setCell ⟨g,k,none⟩ u):=by
 have h1:=hb.size;have h2:=hgr.size;refine⟨hgr.os.trans hb.os,hgr.tape.trans hb.tape,hgr.output.trans hb.output,?_,fun i hi hn=>?_,fun i hi=>?_⟩
 ·show _<=(w2.heap.modify g _).size;rw[Array.size_modify];omega
 ·show (w2.heap.modify g _)[i]?=_;rw[Array.getElem?_modify,if_neg (fun e=>hn (.inl e.symm)),hgr.block i (by omega) (fun e=>hn (.inr e.symm)),hb.block i hi]
 rcases hi with q|q
 ·exact .inl (.inl q)
 rcases hat with e|e
 ·exact .inl (.inr (e ▸ q))
 rw[e] at q;have:=Option.some.inj q;exact .inr (by omega)
theorem QjK {xs:List Value} {o:Array Value} (hn:n=xs.length) (h:w2.ownsRow B t 1 v' n xs) (hg:w2.heap[g]?=some (.cells o 52)) (ht:t≠52):Rw B (w2.setCell ⟨g,k,none⟩ u) t v' xs:=by
 subst hn;have h':Rw B w2 t v' xs:=h;refine h'.keep (fun i hi=>?_);show (w2.heap.modify g _)[i]?=_;rw[Array.getElem?_modify,if_neg (fun e=>?_)];subst e;have:=(h'.lt hi).2.2;unfold tyAt at this;rw[hg] at this;exact ht (Option.some.inj this).symm
theorem Gm.mine (h:Gm B w own g vd vl vs vt M Ds Ls Ss Ts) (ht:Turn K K' w w') (hn:∀i,K i->NoNd w i) (hK:∀i,K i->own i=(3,0)) :
  (∀j x s,Ds[j]?=some (x,s)->∃K,PX B w' x s K/\s.Good M/\∀i,K i->lab own w.heap.size (3,0) i=(0,j))/\(∀j y m b,Ls[j]?=some (y,m,b)->∃K,YX B w' y m b K/\0<=m/\m<=7/\b.size<=M/\∀i,K i->lab own w.heap.size (3,0) i=(1,j))/\(∀j s b,Ss[j]?=some (s,b)->SV w' s b.data.toList 0/\B<=s/\lab own w.heap.size (3,0) s=(2,j)):=by
 have ne:∀a b:Nat,a≠3->∀i,K i->own i≠(a,b):=fun a b ha i hi e=>ha (congrArg Prod.fst ((hK i hi).symm.trans e)).symm
 exact⟨fun j x s hj=>h.ddT (Z6 _) ht hn (ne 0 j (by decide)) hj,fun j y m b hj=>h.llT (Z6 _) ht hn (ne 1 j (by decide)) hj,fun j s b hj=>h.ssT ht hn (ne 2 j (by decide)) hj⟩
theorem Gm.appD (h:Gm B w own g vd vl vs vt M Ds Ls Ss Ts) (hx:PX B w x s K) (hK0:∀i,K i->own i=(0,Ds.length)) (hg:s.Good M) (hb:Below w.heap.size w w1) (hown:w2.ownsRow B 33 1 vd' ((Ds.map fun x=>ptr x.1).length+1) ((Ds.map fun x=>ptr x.1)++[ptr x])) (hgr:w1.grownBy w2 vd.ownBlock) (hat:vd'.ownBlock=vd.ownBlock\/vd'.ownBlock=some w1.heap.size):Gm B (w2.setCell ⟨g,0,none⟩ vd') (lab own w.heap.size (3,0)) g vd' vl vs vt M (Ds++[(x,s)]) Ls Ss Ts:=by
 have ht:=QbP (g:=g) (k:=0) (u:=vd') hb hgr hat;have tg:tyAt w g=some 52:=by unfold tyAt;rw[h.blk]
 have hn:∀i,(i=g\/vd.ownBlock=some i)->NoNd w i:=fun i hi=>by
  rcases hi with rfl|e
  ·exact h.nd
  exact QcP (h.rd.lt e).2.2 (by decide) (by decide)
 have hK:∀i,(i=g\/vd.ownBlock=some i)->own i=(3,0):=fun i hi=>by
  rcases hi with rfl|e
  ·exact h.og
  exact h.od i e
 have hg2:w2.heap[g]?=some (.cells #[vd,vl,vs,vt] 52):=by
  have hz:=h.glt;have hz1:=hb.size;rw[hgr.block g (by omega) (fun e=>?_),hb.block g hz,h.blk];have:=(h.rd.lt e.symm).2.2;rw[tg] at this;exact absurd (Option.some.inj this) (by decide)
 have hgb:(w2.setCell ⟨g,0,none⟩ vd').heap[g]?=some (.cells #[vd',vl,vs,vt] 52):=by
  show (w2.heap.modify g _)[g]?=_;rw[Array.getElem?_modify,if_pos rfl,hg2];rfl
 have hr:=QjK (k:=0) (u:=vd') (by rw[List.length_append];rfl) hown hg2 (by decide);obtain⟨md,ml,ms⟩:=h.mine ht hn hK
 have kp:∀{t:TypeId} {i:Nat},t≠52->t≠33->i<w.heap.size->tyAt w i=some t->(w2.setCell ⟨g,0,none⟩ vd').heap[i]?=w.heap[i]?:=fun {t i} h1 h2 h3 h4=>ht.keep i h3 (fun e=>by
  rcases e with rfl|e
  ·rw[tg] at h4;exact h1 (Option.some.inj h4).symm
  have:=(h.rd.lt e).2.2;rw[this] at h4;exact h2 (Option.some.inj h4).symm)
 have ho:∀i,vd'.ownBlock=some i->lab own w.heap.size (3,0) i=(3,0):=fun i hi=>by
  rcases ht.new i (.inr hi) with q|q
  ·have hlt:i<w.heap.size:=by
    rcases q with rfl|e
    ·exact h.glt
    exact (h.rd.lt e).2.1
   rw[Qaj hlt];exact hK i q
  exact Qce q
 refine⟨hgb,h.gB,by rw[List.map_append];exact hr,h.rl.keep (fun i hi=>kp (by decide) (by decide) (h.rl.lt hi).2.1 (h.rl.lt hi).2.2),h.rs.keep (fun i hi=>kp (by decide) (by decide) (h.rs.lt hi).2.1 (h.rs.lt hi).2.2),h.rt.keep (fun i hi=>kp (by decide) (by decide) (h.rt.lt hi).2.1 (h.rt.lt hi).2.2),(Qaj h.glt).trans h.og,ho,fun i hi=>(Qaj (h.rl.lt hi).2.1).trans (h.ol i hi),fun i hi=>(Qaj (h.rs.lt hi).2.1).trans (h.os i hi),fun i hi=>(Qaj (h.rt.lt hi).2.1).trans (h.ot i hi),?_,ml,ms⟩;intro j y t hj;rcases QiJ hj with q|⟨rfl,q⟩
 ·exact md j y t q
 obtain⟨rfl,rfl⟩:=Prod.mk.inj q;refine⟨K,hx.turn ht (fun i h1 h2=>?_) hn,hg,fun i hi=>by rw[Qaj (hx.ty hi).2.1];exact hK0 i hi⟩;have:=(hK i h1).symm.trans (hK0 i h2);exact absurd (congrArg Prod.fst this) (show ¬(3:Nat)=0 by decide)
theorem Gm.appL (h:Gm B w own g vd vl vs vt M Ds Ls Ss Ts) (hx:YX B w y m b K) (hK0:∀i,K i->own i=(1,Ls.length)) (h0:0<=m) (h7:m<=7) (hg:b.size<=M) (hb:Below w.heap.size w w1) (hown:w2.ownsRow B 58 1 vl' ((Ls.map fun x=>ptr x.1).length+1) ((Ls.map fun x=>ptr x.1)++[ptr y])) (hgr:w1.grownBy w2 vl.ownBlock) (hat:vl'.ownBlock=vl.ownBlock\/vl'.ownBlock=some w1.heap.size):Gm B (w2.setCell ⟨g,1,none⟩ vl') (lab own w.heap.size (3,0)) g vd vl' vs vt M Ds (Ls++[(y,m,b)]) Ss Ts:=by
 have ht:=QbP (g:=g) (k:=1) (u:=vl') hb hgr hat;have tg:tyAt w g=some 52:=by unfold tyAt;rw[h.blk]
 have hn:∀i,(i=g\/vl.ownBlock=some i)->NoNd w i:=fun i hi=>by
  rcases hi with rfl|e
  ·exact h.nd
  exact QcP (h.rl.lt e).2.2 (by decide) (by decide)
 have hK:∀i,(i=g\/vl.ownBlock=some i)->own i=(3,0):=fun i hi=>by
  rcases hi with rfl|e
  ·exact h.og
  exact h.ol i e
 have hg2:w2.heap[g]?=some (.cells #[vd,vl,vs,vt] 52):=by
  have hz:=h.glt;have hz1:=hb.size;rw[hgr.block g (by omega) (fun e=>?_),hb.block g hz,h.blk];have:=(h.rl.lt e.symm).2.2;rw[tg] at this;exact absurd (Option.some.inj this) (by decide)
 have hgb:(w2.setCell ⟨g,1,none⟩ vl').heap[g]?=some (.cells #[vd,vl',vs,vt] 52):=by
  show (w2.heap.modify g _)[g]?=_;rw[Array.getElem?_modify,if_pos rfl,hg2];rfl
 have hr:=QjK (k:=1) (u:=vl') (by rw[List.length_append];rfl) hown hg2 (by decide);obtain⟨md,ml,ms⟩:=h.mine ht hn hK
 have kp:∀{t:TypeId} {i:Nat},t≠52->t≠58->i<w.heap.size->tyAt w i=some t->(w2.setCell ⟨g,1,none⟩ vl').heap[i]?=w.heap[i]?:=fun {t i} h1 h2 h3 h4=>ht.keep i h3 (fun e=>by
  rcases e with rfl|e
  ·rw[tg] at h4;exact h1 (Option.some.inj h4).symm
  have:=(h.rl.lt e).2.2;rw[this] at h4;exact h2 (Option.some.inj h4).symm)
 have ho:∀i,vl'.ownBlock=some i->lab own w.heap.size (3,0) i=(3,0):=fun i hi=>by
  rcases ht.new i (.inr hi) with q|q
  ·have hlt:i<w.heap.size:=by
    rcases q with rfl|e
    ·exact h.glt
    exact (h.rl.lt e).2.1
   rw[Qaj hlt];exact hK i q
  exact Qce q
 refine⟨hgb,h.gB,h.rd.keep (fun i hi=>kp (by decide) (by decide) (h.rd.lt hi).2.1 (h.rd.lt hi).2.2),by rw[List.map_append];exact hr,h.rs.keep (fun i hi=>kp (by decide) (by decide) (h.rs.lt hi).2.1 (h.rs.lt hi).2.2),h.rt.keep (fun i hi=>kp (by decide) (by decide) (h.rt.lt hi).2.1 (h.rt.lt hi).2.2),(Qaj h.glt).trans h.og,fun i hi=>(Qaj (h.rd.lt hi).2.1).trans (h.od i hi),ho,fun i hi=>(Qaj (h.rs.lt hi).2.1).trans (h.os i hi),fun i hi=>(Qaj (h.rt.lt hi).2.1).trans (h.ot i hi),md,?_,ms⟩;intro j y1 m1 b1 hj;rcases QiJ hj with q|⟨rfl,q⟩
 ·exact ml j y1 m1 b1 q
 obtain⟨e1,e2⟩:=Prod.mk.inj q;obtain⟨e3,e4⟩:=Prod.mk.inj e2;subst e1 e3 e4;refine⟨K,hx.turn ht (fun i h1 h2=>?_) hn,h0,h7,hg,fun i hi=>by rw[Qaj (hx.ty hi).2.1];exact hK0 i hi⟩;have:=(hK i h1).symm.trans (hK0 i h2);exact absurd (congrArg Prod.fst this) (show ¬(3:Nat)=1 by decide)
theorem Gm.appS (h:Gm B w own g vd vl vs vt M Ds Ls Ss Ts) {s:Nat} (hx:SV w s b.data.toList 0) (hB:B<=s) (hK0:own s=(2,Ss.length)) (hb:Below w.heap.size w w1) (hown:w2.ownsRow B 59 1 vs' ((Ss.map fun x=>ptr x.1).length+1) ((Ss.map fun x=>ptr x.1)++[ptr s])) (hgr:w1.grownBy w2 vs.ownBlock) (hat:vs'.ownBlock=vs.ownBlock\/vs'.ownBlock=some w1.heap.size):Gm B (w2.setCell ⟨g,2,none⟩ vs') (lab own w.heap.size (3,0)) g vd vl vs' vt M Ds Ls (Ss++[(s,b)]) Ts:=by
 have ht:=QbP (g:=g) (k:=2) (u:=vs') hb hgr hat;have tg:tyAt w g=some 52:=by unfold tyAt;rw[h.blk]
 have hn:∀i,(i=g\/vs.ownBlock=some i)->NoNd w i:=fun i hi=>by
  rcases hi with rfl|e
  ·exact h.nd
  exact QcP (h.rs.lt e).2.2 (by decide) (by decide)
 have hK:∀i,(i=g\/vs.ownBlock=some i)->own i=(3,0):=fun i hi=>by
  rcases hi with rfl|e
  ·exact h.og
  exact h.os i e
 have hg2:w2.heap[g]?=some (.cells #[vd,vl,vs,vt] 52):=by
  have hz:=h.glt;have hz1:=hb.size;rw[hgr.block g (by omega) (fun e=>?_),hb.block g hz,h.blk];have:=(h.rs.lt e.symm).2.2;rw[tg] at this;exact absurd (Option.some.inj this) (by decide)
 have hgb:(w2.setCell ⟨g,2,none⟩ vs').heap[g]?=some (.cells #[vd,vl,vs',vt] 52):=by
  show (w2.heap.modify g _)[g]?=_;rw[Array.getElem?_modify,if_pos rfl,hg2];rfl
 have hr:=QjK (k:=2) (u:=vs') (by rw[List.length_append];rfl) hown hg2 (by decide);obtain⟨md,ml,ms⟩:=h.mine ht hn hK
 have kp:∀{t:TypeId} {i:Nat},t≠52->t≠59->i<w.heap.size->tyAt w i=some t->(w2.setCell ⟨g,2,none⟩ vs').heap[i]?=w.heap[i]?:=fun {t i} h1 h2 h3 h4=>ht.keep i h3 (fun e=>by
  rcases e with rfl|e
  ·rw[tg] at h4;exact h1 (Option.some.inj h4).symm
  have:=(h.rs.lt e).2.2;rw[this] at h4;exact h2 (Option.some.inj h4).symm)
 have ho:∀i,vs'.ownBlock=some i->lab own w.heap.size (3,0) i=(3,0):=fun i hi=>by
  rcases ht.new i (.inr hi) with q|q
  ·have hlt:i<w.heap.size:=by
    rcases q with rfl|e
    ·exact h.glt
    exact (h.rs.lt e).2.1
   rw[Qaj hlt];exact hK i q
  exact Qce q
 refine⟨hgb,h.gB,h.rd.keep (fun i hi=>kp (by decide) (by decide) (h.rd.lt hi).2.1 (h.rd.lt hi).2.2),h.rl.keep (fun i hi=>kp (by decide) (by decide) (h.rl.lt hi).2.1 (h.rl.lt hi).2.2),by rw[List.map_append];exact hr,h.rt.keep (fun i hi=>kp (by decide) (by decide) (h.rt.lt hi).2.1 (h.rt.lt hi).2.2),(Qaj h.glt).trans h.og,fun i hi=>(Qaj (h.rd.lt hi).2.1).trans (h.od i hi),fun i hi=>(Qaj (h.rl.lt hi).2.1).trans (h.ol i hi),ho,fun i hi=>(Qaj (h.rt.lt hi).2.1).trans (h.ot i hi),md,ml,?_⟩;intro j y1 b1 hj;rcases QiJ hj with q|⟨rfl,q⟩
 ·exact ms j y1 b1 q
 obtain⟨rfl,rfl⟩:=Prod.mk.inj q;refine⟨hx.turn ht (fun h1=>?_) hn,hB,by rw[Qaj hx.lt.1];exact hK0⟩;have:=(hK _ h1).symm.trans hK0;exact absurd (congrArg Prod.fst this) (show ¬(3:Nat)=2 by decide)
theorem Gm.appT (h:Gm B w own g vd vl vs vt M Ds Ls Ss Ts) (hb:Below w.heap.size w w1) (hown:w2.ownsRow B 9 1 vt' ((Ts.map Value.string).length+1) (Ts.map Value.string++[Value.string b])) (hgr:w1.grownBy w2 vt.ownBlock) (hat:vt'.ownBlock=vt.ownBlock\/vt'.ownBlock=some w1.heap.size):Gm B (w2.setCell ⟨g,3,none⟩ vt') (lab own w.heap.size (3,0)) g vd vl vs vt' M Ds Ls Ss (Ts++[b]):=by
 have ht:=QbP (g:=g) (k:=3) (u:=vt') hb hgr hat;have tg:tyAt w g=some 52:=by unfold tyAt;rw[h.blk]
 have hn:∀i,(i=g\/vt.ownBlock=some i)->NoNd w i:=fun i hi=>by
  rcases hi with rfl|e
  ·exact h.nd
  exact QcP (h.rt.lt e).2.2 (by decide) (by decide)
 have hK:∀i,(i=g\/vt.ownBlock=some i)->own i=(3,0):=fun i hi=>by
  rcases hi with rfl|e
  ·exact h.og
  exact h.ot i e
 have hg2:w2.heap[g]?=some (.cells #[vd,vl,vs,vt] 52):=by
  have hz:=h.glt;have hz1:=hb.size;rw[hgr.block g (by omega) (fun e=>?_),hb.block g hz,h.blk];have:=(h.rt.lt e.symm).2.2;rw[tg] at this;exact absurd (Option.some.inj this) (by decide)
 have hgb:(w2.setCell ⟨g,3,none⟩ vt').heap[g]?=some (.cells #[vd,vl,vs,vt'] 52):=by
  show (w2.heap.modify g _)[g]?=_;rw[Array.getElem?_modify,if_pos rfl,hg2];rfl
 have hr:=QjK (k:=3) (u:=vt') (by rw[List.length_append];rfl) hown hg2 (by decide);obtain⟨md,ml,ms⟩:=h.mine ht hn hK
 have kp:∀{t:TypeId} {i:Nat},t≠52->t≠9->i<w.heap.size->tyAt w i=some t->(w2.setCell ⟨g,3,none⟩ vt').heap[i]?=w.heap[i]?:=fun {t i} h1 h2 h3 h4=>ht.keep i h3 (fun e=>by
  rcases e with rfl|e
  ·rw[tg] at h4;exact h1 (Option.some.inj h4).symm
  have:=(h.rt.lt e).2.2;rw[this] at h4;exact h2 (Option.some.inj h4).symm)
 have ho:∀i,vt'.ownBlock=some i->lab own w.heap.size (3,0) i=(3,0):=fun i hi=>by
  rcases ht.new i (.inr hi) with q|q
  ·have hlt:i<w.heap.size:=by
    rcases q with rfl|e
    ·exact h.glt
    exact (h.rt.lt e).2.1
   rw[Qaj hlt];exact hK i q
  exact Qce q
 exact⟨hgb,h.gB,h.rd.keep (fun i hi=>kp (by decide) (by decide) (h.rd.lt hi).2.1 (h.rd.lt hi).2.2),h.rl.keep (fun i hi=>kp (by decide) (by decide) (h.rl.lt hi).2.1 (h.rl.lt hi).2.2),h.rs.keep (fun i hi=>kp (by decide) (by decide) (h.rs.lt hi).2.1 (h.rs.lt hi).2.2),by rw[List.map_append];exact hr,(Qaj h.glt).trans h.og,fun i hi=>(Qaj (h.rd.lt hi).2.1).trans (h.od i hi),fun i hi=>(Qaj (h.rl.lt hi).2.1).trans (h.ol i hi),fun i hi=>(Qaj (h.rs.lt hi).2.1).trans (h.os i hi),ho,md,ml,ms⟩
end
theorem Qcp (w:World) (l:List Value) (t:TypeId):∀j u,l[j]?=some u->(w.alloc (.cells l.toArray t)).cell? ((⟨w.heap.size,0,none⟩:Addr).add j)=some u:=by
 intro j u hj
 have e:(⟨w.heap.size,0,none⟩:Addr).add j=⟨w.heap.size,j,none⟩:=by
  unfold Addr.add;split
  ·simp_all
  simp
 rw[e,<-hj];simp
theorem QhI (q:Option Addr) (n cap:Nat) (a b c:Int) (S:ByteArray) (w:World) (hm:a<0\/7<a) :
  Calls prog 51 #[.slice q n cap,.agg #[.int .i64 11,.int .i64 a,.int .i64 b,.int .i64 c,.string S]] w fun e w'=>e=.returned (.tuple #[.slice q n cap,.pointer none,.bool true])/\Below w.heap.size w w':=by
 have hw1:Below w.heap.size w (w.alloc (.cells #[.int .i64 11,.int .i64 a,.int .i64 b,.int .i64 c,.string S] 55)):=Z7 _ _
 have BG:=Z2 (fun W=>Qhd a W hm)
 have R:=Z2 (fun W=>QjE ⟨#[]⟩ a W hm)
 have HW:=Z2 hw1
 clear hm hw1
 go_enter func51,ntmps51
 go_wp2_with fail
 refine (BG.o _).mono ?_
 rintro e w1 ⟨rfl,hq⟩
 subst hq
 go_wp2_with fail
 refine (R.o _).mono ?_
 rintro e w2 ⟨rfl,hq⟩
 subst hq
 clear BG R
 go_wp2_with fail
 go_returns
 exact⟨rfl,HW.o⟩
theorem Qlh (B:Nat) (q:Option Addr) (cap:Nat) (xs:List Value) (a b c:Int) (S:ByteArray) (w:World) (hr:Rw B w 58 (.slice q xs.length cap) xs) (h0:0<=a) (h7:a<=7) (hB:B<=w.heap.size) (hl:xs.length<=1000000000) :
  Calls prog 51 #[.slice q xs.length cap,.agg #[.int .i64 11,.int .i64 a,.int .i64 b,.int .i64 c,.string S]] w fun e w'=>∃v' y K w1,e=.returned (.tuple #[v',.pointer none,.bool true])/\Below w.heap.size w w1/\YX B w1 y a ⟨#[]⟩ K/\(∀i,K i->w.heap.size<=i)/\w'.ownsRow B 58 1 v' (xs.length+1) (xs++[ptr y])/\w1.grownBy w' (Value.slice q xs.length cap).ownBlock/\(v'.ownBlock=(Value.slice q xs.length cap).ownBlock\/v'.ownBlock=some w1.heap.size):=by
 have hw1:Below w.heap.size w (w.alloc (.cells #[.int .i64 11,.int .i64 a,.int .i64 b,.int .i64 c,.string S] 55)):=Z7 _ _
 have BG:=Z2 (xBegin B a (w.alloc (.cells #[.int .i64 11,.int .i64 a,.int .i64 b,.int .i64 c,.string S] 55)) h0 h7 (Nat.le_trans hB hw1.size))
 have R:=Z2 (fun W=>QdK ⟨#[]⟩ a W (by decide) h0 h7)
 have HW:=Z2 hw1
 have HR:=Z2 hr
 have hC0:=Go.Deep.blk_alloc_new w (.cells #[.int .i64 11,.int .i64 a,.int .i64 b,.int .i64 c,.string S] 55)
 obtain⟨i0,hi0⟩:=Option.isSome_iff_exists.1 (show (prog.info? 58).isSome=true by kernel_rfl)
 have hi1:i0.zero=some (.pointer none):=by
  have h1:(prog.info? 58).bind (fun x=>x.zero)=some (.pointer none):=by kernel_rfl
  rwa [hi0] at h1
 have hi2:i0.size=1:=by
  have h1:(prog.info? 58).map (fun x=>x.size)=some 1:=by kernel_rfl
  rw[hi0] at h1;simpa using h1
 have hi3:i0.bytes=8:=by
  have h1:(prog.info? 58).map (fun x=>x.bytes)=some 8:=by kernel_rfl
  rw[hi0] at h1;simpa using h1
 have hsz:=World.size_alloc w (.cells #[.int .i64 11,.int .i64 a,.int .i64 b,.int .i64 c,.string S] 55)
 have HC0:=Z2 hC0
 have HSZ:=Z2 hsz
 clear hr hw1 hC0 hsz
 go_enter func51,ntmps51
 go_wp2_with fail
 refine BG.o.mono ?_
 rintro e w1 ⟨q1,rfl,hq1,hx1,hb1⟩
 have hC1:=(hb1.block w.heap.size (by rw[HSZ.o];omega)).trans HC0.o
 have o1:=C1 hC1
 have hzo:=Z3 o1
 have HX1:=Z2 hx1
 have HB1:=Z2 (HW.o.trans (hb1.mono HW.o.size))
 have hq1':w.heap.size<=q1:=by have:=HW.o.size;omega
 clear BG HW hx1 hb1 HC0 HSZ hq1
 go_wp2_with fail
 refine (R.o _).mono ?_
 rintro e w2 ⟨r,rfl,_,_,hb2⟩
 have o1:=C1 ((hb2.block w.heap.size hzo).trans hC1)
 have hzo:=Z3 o1
 have hx2:=HX1.o.low hb2
 have hb2r:=HB1.o.trans (hb2.mono HB1.o.size)
 have hba:Below w2.heap.size w2 (w2.alloc (.cells #[.pointer (some ⟨q1,0,none⟩),.int .i64 a,.string ⟨#[]⟩] 57)):=Z7 _ _
 have hbb:Below w2.heap.size w2 ((w2.alloc (.cells #[.pointer (some ⟨q1,0,none⟩),.int .i64 a,.string ⟨#[]⟩] 57)).alloc (.cells #[.pointer (some ⟨w2.heap.size,0,none⟩)] 58)):=hba.alloc hba.size _
 have hqlt:=(hx2.ty hx2.self).2.1
 have hY:YX B ((w2.alloc (.cells #[.pointer (some ⟨q1,0,none⟩),.int .i64 a,.string ⟨#[]⟩] 57)).alloc (.cells #[.pointer (some ⟨w2.heap.size,0,none⟩)] 58)) w2.heap.size a ⟨#[]⟩ (fun i=>i=w2.heap.size\/i=q1):=by
  have h1:YX B (w2.alloc (.cells #[.pointer (some ⟨q1,0,none⟩),.int .i64 a,.string ⟨#[]⟩] 57)) w2.heap.size a ⟨#[]⟩ (fun i=>i=w2.heap.size\/i=q1) :=
   ⟨q1,_,Go.Deep.blk_alloc_new _ _,by have:=hb2r.size;omega,by omega,hx2.low hba,fun i=>Iff.rfl⟩
  exact h1.low (Z7 _ _)
 have hb4:=hb2r.trans (hbb.mono hb2r.size)
 have hown4:((w2.alloc (.cells #[.pointer (some ⟨q1,0,none⟩),.int .i64 a,.string ⟨#[]⟩] 57)).alloc (.cells #[.pointer (some ⟨w2.heap.size,0,none⟩)] 58)).ownsRow B 58 1 (.slice q xs.length cap) xs.length xs:=HR.o.keep (fun i hi=>hb4.block i (HR.o.lt hi).2.1)
 have HY:=Z2 hY
 have HB4:=Z2 hb4
 have hz2:=hb2r.size
 have hbs:B<=w2.heap.size:=by omega
 clear R HX1 HB1 hb2 hx2 hb2r hba hbb hY hb4 HR hC1
 go_wp2_with (at_builtin;refine wpList_append_own_at _ rfl _ _ 48 rfl B 58 i0 (.pointer none) 1 8 underlying48 hi0 hi1 hi2 hi3 rfl (by decide) _ xs.length xs rfl hown4 ⟨w2.heap.size+1,0,none⟩ 1 1 [.pointer (some ⟨w2.heap.size,0,none⟩)] rfl rfl ?hnews ?h1 ?h63 ?hby ?hbase ?_)
 case hnews =>
  intro j u hj;have h:=Qcp (w2.alloc (.cells #[.pointer (some ⟨q1,0,none⟩),.int .i64 a,.string ⟨#[]⟩] 57)) [.pointer (some ⟨w2.heap.size,0,none⟩)] 58 j u hj;rw[World.size_alloc] at h;exact h
 case h1=>simp [Value.oneCell']
 try case h63=>unfold maxLen;omega
 try case hby=>omega
 try case hbase=>first|omega|(simp;omega)
 intro v6 w6 hown6 hgr _ hat6
 have HO:=Z2 hown6
 have HG:=Z2 hgr
 have HA:=Z2 hat6
 clear hown4 hown6 hgr hat6
 go_wp2_with fail
 go_returns
 refine⟨v6,w2.heap.size,_,_,rfl,HB4.o,HY.o,fun i hi=>?_,HO.o,HG.o,by rw[World.size_alloc,World.size_alloc];exact HA.o⟩
 rcases hi with rfl|rfl
 ·exact hz2
 exact hq1'
theorem Qju (q:Option Addr) (n cap:Nat) (kind a b c:Int) (S:ByteArray) (w:World) (hn:n=0) (hk:(kind==11)=false) :
  Calls prog 51 #[.slice q n cap,.agg #[.int .i64 kind,.int .i64 a,.int .i64 b,.int .i64 c,.string S]] w fun e w'=>e=.returned (.tuple #[.slice q n cap,.pointer none,.bool true])/\Below w.heap.size w w':=by
 subst hn
 have HW:=Z2 (show Below w.heap.size w (w.alloc (.cells #[.int .i64 kind,.int .i64 a,.int .i64 b,.int .i64 c,.string S] 55)) from Z7 _ _)
 go_enter func51,ntmps51
 go_wp2_with fail
 go_returns
 exact⟨rfl,HW.o⟩
theorem QmZ (w0:World) (q:Option Addr) (cap:Nat) (Ls:List (Nat × Int × ByteArray)) (a b c:Int) (S:ByteArray) (w:World) (ht:Tabs w0) (hb0:Below w0.heap.size w0 w) (hr:Rw w0.heap.size w 58 (.slice q Ls.length cap) (Ls.map fun x=>ptr x.1)) (j y:Nat) (m:Int) (bb:ByteArray) (K:Nat->Prop) (hj:Vm.pick c Ls.length=j) (hjl:Ls[j]?=some (y,m,bb)) (hy:YX w0.heap.size w y m bb K) (h0:0<=m) (h7:m<=7) (hl:bb.size+S.size<=1000000000) (hc:-9223372036854775808<=c/\c<=9223372036854775807) (hLl:Ls.length<=1000000000) :
  Calls prog 51 #[.slice q Ls.length cap,.agg #[.int .i64 12,.int .i64 a,.int .i64 b,.int .i64 c,.string S]] w fun e w'=>e=.returned (.tuple #[.slice q Ls.length cap,.pointer none,.bool true])/\∃K',YX w0.heap.size w' y m (bb++S) K'/\Turn K K' w w':=by
 have hlt:j<Ls.length:=(List.getElem?_eq_some_iff.1 hjl).1
 obtain⟨g,rfl,hcg⟩:=hr.at_ (j:=j) (u:=.pointer (some ⟨y,0,none⟩)) (by rw[List.getElem?_map,hjl];rfl)
 have PK:=Z2 (fun W=>Qbe c Ls.length W hc.1 hc.2 (by omega) (by omega))
 rw[hj] at PK
 obtain⟨q1,F,y1,y2,y3,y4,y5⟩:=hy
 have hw1:Below w.heap.size w (w.alloc (.cells #[.int .i64 12,.int .i64 a,.int .i64 b,.int .i64 c,.string S] 55)):=Z7 _ _
 have hC0:=Go.Deep.blk_alloc_new w (.cells #[.int .i64 12,.int .i64 a,.int .i64 b,.int .i64 c,.string S] 55)
 have hy0:=(hw1.block y (Z4 y1)).trans y1
 have hcg0:=(hw1.cell (p:=⟨g,j,none⟩) (Z3 hcg)).trans hcg
 have hsz:=World.size_alloc w (.cells #[.int .i64 12,.int .i64 a,.int .i64 b,.int .i64 c,.string S] 55)
 have hyz:=Z4 y1
 have HY1:=Z2 y1
 have HX:=Z2 y4
 have HW:=Z2 hw1
 have HK:=Z2 y5
 have HC0:=Z2 hC0
 have HSZ:=Z2 hsz
 have HT:=Z2 ht
 have HB0:=Z2 hb0
 have hmo:prog.follows Departure.mixedOrders=true:=by kernel_rfl
 have hltI:(j:Int)<(Ls.length:Int):=by omega
 have hne:¬(Ls.length:Int)=0:=by omega
 have hnb:((Ls.length:Int)==0)=false:=by simpa using hne
 have d0:=C0 hy0
 have d1:=C1 hy0
 have d2:=C2 hy0
 have o0:=C0 hC0
 have o3:=C3 hC0
 have o4:=C4 hC0
 clear hr hjl hcg hy0 hw1 y1 y4 y5 hC0 hsz ht hb0 hc hj
 go_enter func51,ntmps51
 go_wp2_with fail
 generalize w.alloc (.cells #[.int .i64 12,.int .i64 a,.int .i64 b,.int .i64 c,.string S] 55)=W0 at *
 refine (PK.o _).mono ?_
 rintro e w1 ⟨rfl,hq⟩
 subst hq
 clear PK
 have z1:=Z3 d0
 have z2:=Z3 o0
 have z3:=Z3 hcg0
 have hbd:Below w1.heap.size w1 w1.drew:=(Below.refl _ _).drew
 have P:=Z2 (xPush w0 w1.drew q1 m bb.data.toList F S HT.o (HB0.o.trans ((HW.o.trans (hbd.mono HW.o.size)).mono HB0.o.size)) ((HX.o.low HW.o).low hbd) h0 h7 (by show bb.size+S.size<=_;omega))
 clear hbd
 go_wp2_with fail
 refine wp_region_still_tail 6 hmo (by kernel_rfl) ?_
 simp only[List.take_succ_cons,List.take_zero,List.drop_succ_cons,List.drop_zero]
 repeat still_step
 refine wpStill_nil ?_
 go_wp2_with fail
 refine P.o.mono ?_
 rintro e w2 ⟨rfl,F',hx2,t2⟩
 have hnFy:¬F y:=fun e=>by
  rcases (HX.o.ty e).2.2.2 with e|e
  ·exact y3 e
  unfold tyAt at e;rw[HY1.o] at e;exact absurd (Option.some.inj e) (by decide)
 have hy2:w2.heap[y]?=some (.cells #[.pointer (some ⟨q1,0,none⟩),.int .i64 m,.string bb] 57):=(t2.keep y z1 hnFy).trans ((HW.o.block y hyz).trans HY1.o)
 have hC2:w2.heap[w.heap.size]?=some (.cells #[.int .i64 12,.int .i64 a,.int .i64 b,.int .i64 c,.string S] 55):=(t2.keep w.heap.size z2 (fun q=>by have:=(HX.o.ty q).2.1;omega)).trans HC0.o
 have e0:=C0 hy2
 have e2:=C2 hy2
 have p4:=C4 hC2
 have yf:=fun j=>Lib.frozen_of_heap hy2 j
 have z4:=Z3 e0
 have z5:=Z3 p4
 have hyn:NoNd w2 y:=QcP (t:=57) (by unfold tyAt;rw[hy2]) (by decide) (by decide)
 have HX2:=Z2 hx2
 have HT2:=Z2 ((Turn.of_below (HW.o.trans (((Below.refl _ _).drew).mono HW.o.size))).trans t2)
 have hnF':¬F' y:=fun e=>by
  rcases t2.new y e with q|q
  ·exact hnFy q
  have:w1.drew.heap.size=w1.heap.size:=World.size_drew _;omega
 have HY2:=Z2 hy2
 have HYN:=Z2 hyn
 have HSS:=Z2 (show (bb++S).data.toList=bb.data.toList++S.data.toList by rw[ByteArray.data_append,Array.toList_append])
 have hbs:bb.size+S.size<=1000000000:=hl
 have n1:¬9223372036854775807<bb.size+S.size:=by omega
 clear P hx2 t2 hy2 hC2 HC0 d0 d1 d2 o0 o3 o4 hyn z1 z2 z3 hcg0 HX HY1
 go_wp2_with fail
 refine wp_region_still_tail 10 hmo (by kernel_rfl) ?_
 simp only[List.take_succ_cons,List.take_zero,List.drop_succ_cons,List.drop_zero]
 repeat still_step
 refine wpStill_nil ?_
 go_wp2_with fail
 go_returns
 have hbd:Below w2.heap.size w2 w2.drew:=(Below.refl _ _).drew
 have ht3:Turn (fun i=>i=y) (fun i=>i=y) w2.drew (w2.drew.setCell ⟨y,2,none⟩ (.string (bb++S))):=Turn.of_tn ((Tn.refl _ _).setCell _)
 have hx3:LX w0.heap.size (w2.drew.setCell ⟨y,2,none⟩ (.string (bb++S))) q1 m (bb++S).data.toList F':=by
  rw[HSS.o];exact (HX2.o.low hbd).turn ht3 (fun i e=>by subst e;exact hnF') (fun i e=>by subst e;exact HYN.o)
 refine⟨rfl,fun i=>i=y\/F' i,⟨q1,F',?_,y2,y3,hx3,fun i=>Iff.rfl⟩,?_⟩
 ·show (w2.drew.heap.modify y _)[y]?=_;rw[Array.getElem?_modify,if_pos rfl,show w2.drew.heap[y]?=w2.heap[y]? from rfl,HY2.o];rfl
 have t4:=(HT2.o.trans (Turn.of_below hbd))
 have hs3:=ht3.size
 refine⟨ht3.os.trans t4.os,ht3.tape.trans t4.tape,ht3.output.trans t4.output,Nat.le_trans t4.size ht3.size,fun i h1 h2=>?_,fun i hi=>?_⟩
 ·show (w2.drew.setCell ⟨y,2,none⟩ (.string (bb++S))).heap[i]?=_;rw[ht3.keep i (Nat.lt_of_lt_of_le h1 t4.size) (fun e=>h2 ((HK.o i).2 (.inl e))),t4.keep i h1 (fun e=>h2 ((HK.o i).2 (.inr e)))]
 rcases hi with rfl|q
 ·exact .inl ((HK.o _).2 (.inl rfl))
 rcases t4.new i q with e|e
 ·exact .inl ((HK.o _).2 (.inr e))
 exact .inr e
theorem QoD (w0:World) (q:Option Addr) (cap:Nat) (Ls:List (Nat × Int × ByteArray)) (a b c:Int) (S:ByteArray) (w:World) (ht:Tabs w0) (hb0:Below w0.heap.size w0 w) (hr:Rw w0.heap.size w 58 (.slice q Ls.length cap) (Ls.map fun x=>ptr x.1)) (j y:Nat) (m:Int) (bb:ByteArray) (K:Nat->Prop) (hj:Vm.pick c Ls.length=j) (hjl:Ls[j]?=some (y,m,bb)) (hy:YX w0.heap.size w y m bb K) (h0:0<=m) (h7:m<=7) (hl:bb.size+S.size<=1000000000) (hc:-9223372036854775808<=c/\c<=9223372036854775807) (hLl:Ls.length<=1000000000) :
  Calls prog 51 #[.slice q Ls.length cap,.agg #[.int .i64 13,.int .i64 a,.int .i64 b,.int .i64 c,.string S]] w fun e w'=>∃x K',e=.returned (.tuple #[.slice q Ls.length cap,.pointer (some ⟨x,0,none⟩),.bool true])/\PX w0.heap.size w' x ⟨ofK bb (encOf bb m),[],[]⟩ K'/\(∀i,K' i->w.heap.size<=i)/\Below w.heap.size w w':=by
 have hlt:j<Ls.length:=(List.getElem?_eq_some_iff.1 hjl).1
 obtain⟨g,rfl,hcg⟩:=hr.at_ (j:=j) (u:=.pointer (some ⟨y,0,none⟩)) (by rw[List.getElem?_map,hjl];rfl)
 have PK:=Z2 (fun W=>Qbe c Ls.length W hc.1 hc.2 (by omega) (by omega))
 rw[hj] at PK
 obtain⟨q1,F,y1,y2,y3,y4,y5⟩:=hy
 have hw1:Below w.heap.size w (w.alloc (.cells #[.int .i64 13,.int .i64 a,.int .i64 b,.int .i64 c,.string S] 55)):=Z7 _ _
 have hC0:=Go.Deep.blk_alloc_new w (.cells #[.int .i64 13,.int .i64 a,.int .i64 b,.int .i64 c,.string S] 55)
 have hy0:=(hw1.block y (Z4 y1)).trans y1
 have hcg0:=(hw1.cell (p:=⟨g,j,none⟩) (Z3 hcg)).trans hcg
 have hsz:=World.size_alloc w (.cells #[.int .i64 13,.int .i64 a,.int .i64 b,.int .i64 c,.string S] 55)
 have hyz:=Z4 y1
 have HY1:=Z2 y1
 have HX:=Z2 y4
 have HW:=Z2 hw1
 have HK:=Z2 y5
 have HC0:=Z2 hC0
 have HSZ:=Z2 hsz
 have HT:=Z2 ht
 have HB0:=Z2 hb0
 have hmo:prog.follows Departure.mixedOrders=true:=by kernel_rfl
 have hltI:(j:Int)<(Ls.length:Int):=by omega
 have hne:¬(Ls.length:Int)=0:=by omega
 have hnb:((Ls.length:Int)==0)=false:=by simpa using hne
 have d0:=C0 hy0
 have d1:=C1 hy0
 have d2:=C2 hy0
 have o0:=C0 hC0
 have o3:=C3 hC0
 have o4:=C4 hC0
 clear hr hjl hcg hy0 hw1 y1 y4 y5 hC0 hsz ht hb0 hc hj
 go_enter func51,ntmps51
 go_wp2_with fail
 generalize w.alloc (.cells #[.int .i64 13,.int .i64 a,.int .i64 b,.int .i64 c,.string S] 55)=W0 at *
 refine (PK.o _).mono ?_
 rintro e w1 ⟨rfl,hq⟩
 subst hq
 clear PK
 have z1:=Z3 d0
 have z2:=Z3 o0
 have z3:=Z3 hcg0
 have hbd:Below w.heap.size w w1.drew:=HW.o.drew
 have hbd0:=HB0.o.trans (hbd.mono HB0.o.size)
 have P:=Z2 (endedX w0.heap.size w1.drew q1 m bb F (HT.o.below hbd0) (HX.o.low hbd) h0 h7 (by omega) hbd0.size)
 have HBD:=Z2 hbd
 clear hbd hbd0
 go_wp2_with fail
 go_region_with (first|(go_at_call 14;refine P.o.mono ?_;rintro e w2 ⟨x,K',rfl,hx2,hK2,hb2⟩)|fail)
 all_goals
  have HX2:=Z2 hx2;have HF:=Z2 (HBD.o.trans (hb2.mono HBD.o.size));have HK2:=Z2 (fun i hi=>Nat.le_trans HBD.o.size (hK2 i hi));clear P hx2 hK2 hb2 d0 d1 d2 o0 o3 o4 z1 z2 z3 hcg0 HX HY1 HC0 HW;go_wp2_with fail;go_returns;exact⟨x,K',rfl,HX2.o,HK2.o,HF.o⟩
end Go.Proofs.YtoejbngihecafaaGreatDoor
