import Derived.Test.YtoejbngihecafaaGreatDoorC30
import Derived.Test.YtoejbngihecafaaGreatDoorC28
import Derived.Test.YtoejbngihecafaaGreatDoorC41
import Derived.Test.YtoejbngihecafaaGreatDoorC37
import Derived.Test.YtoejbngihecafaaGreatDoorC0
set_option maxRecDepth 100000
set_option maxHeartbeats 4000000
open Go.Proofs.Tryz
namespace Go.Proofs.YtoejbngihecafaaGreatDoor
open Go.RowKit Go.Shelf Go.Vit
variable {W wq:World} {L q:Nat} {mode enc:Int} {begun mark:Bool} {v:Value} {t:Option Nd} {R:List (Cn × ByteArray)} {ws:List UInt8}
theorem QlH {j:Nat} {r:Loop} (h:W.heap[L]?=some (Obj.loop r)):W.cell? ⟨L,j,none⟩=none:=by
 unfold World.cell?;simp [h]
theorem Tn.putLoop (o:Loop):Tn L W (W.putObj L (Obj.loop o)) :=
 ⟨rfl,rfl,rfl,by simp,fun k _ hk=>World.putObj_heap_other hk⟩
theorem LdC.keptB {w w':World} {tv:Value} {tail:ByteArray} (h:LdC w q mode begun enc mark tv tail v) (hk:w'.heap[q]?=w.heap[q]?):LdC w' q mode begun enc mark tv tail v:=by
 have g:∀o,w'.cell? ⟨q,o,none⟩=w.cell? ⟨q,o,none⟩:=fun o=>World.cell?_of_block (w:=w) hk;refine⟨(g _).trans h.c0,(g _).trans h.c1,(g _).trans h.c2,(g _).trans h.c3,(g _).trans h.c4,(g _).trans h.c5,(g _).trans h.c6,fun j=>(World.frozen?_of_block (w:=w) hk).trans (h.fr j),?_⟩;have hn:=h.nb;unfold NoNd tyAt at *;rw[hk];exact hn
theorem LdS.putLoop {B:Nat} {r:Loop} (o:Loop) (h:LdS B q mode begun enc mark t R v ws W) (hL:W.heap[L]?=some (Obj.loop r)):LdS B q mode begun enc mark t R v ws (W.putObj L (Obj.loop o)):=by
 have hq:q≠L:=fun e=>by
  have:=h.ld.c0;rw[e,QlH hL] at this;cases this
 refine⟨h.ld.keptB (World.putObj_heap_other hq),h.wt.kept (fun k hk=>?_),h.nq,h.tr.tn2 ?_ (Tn.putLoop o)⟩
 ·refine World.putObj_heap_other (fun e=>?_);rcases h.wt with ⟨x,_⟩|⟨g,o,cap,cur,x,_,hh,_⟩
  ·rw[x] at hk;cases hk
  rw[x] at hk;have:g=k:=Option.some.inj hk;rw[this,e,hL] at hh;cases hh
 unfold NoNd tyAt;rw[hL];exact⟨by simp,by simp⟩
structure RdI (wq:World) (q Bt:Nat) (n:Option Nd) (oth:Int) (all:List UInt8) (W:World):Prop where
 ld:∃begun enc mark t R v ws,LdS q q oth begun enc mark t R v ws W/\Inv oth all begun enc mark t R ws/\wblk v≠some Bt
 low:Below q wq W
 tc:W.cell? ⟨Bt,0,none⟩=some (trv n)
 qB:q<Bt
section
variable {wq:World} {q Bt:Nat} {n:Option Nd} {oth:Int} {all:List UInt8} {W W':World}
theorem RdI.size (h:RdI wq q Bt n oth all W):Bt<W.heap.size:=Z3 h.tc
theorem RdI.step (h:RdI wq q Bt n oth all W) (hb:Below W.heap.size W W'):RdI wq q Bt n oth all W':=by
 obtain⟨begun,enc,mark,t,R,v,ws,h1,h2,h3⟩:=h.ld;have hz:=h.size;have hqB:=h.qB;exact⟨⟨begun,enc,mark,t,R,v,ws,h1.low hb,h2,h3⟩,h.low.trans (hb.mono (by omega)),(hb.cell (p:=⟨Bt,0,none⟩) hz).trans h.tc,h.qB⟩
theorem RdI.putLoop {r:Loop} (o:Loop) (h:RdI wq q Bt n oth all W) (hL:W.heap[L]?=some (Obj.loop r)) (hlo:Bt<L):RdI wq q Bt n oth all (W.putObj L (Obj.loop o)):=by
 obtain⟨begun,enc,mark,t,R,v,ws,h1,h2,h3⟩:=h.ld;have hqB:=h.qB;exact⟨⟨begun,enc,mark,t,R,v,ws,h1.putLoop o hL,h2,h3⟩,h.low.trans ⟨rfl,rfl,rfl,by simp,fun k hk=>World.putObj_heap_other (by omega)⟩,(World.cell?_of_block (w:=W) (World.putObj_heap_other (by show Bt≠L;omega))).trans h.tc,h.qB⟩
theorem RdI.take (ht:Tabs wq) (hwq:wq.heap.size=q) (h:RdI wq q Bt n oth all W) (b:ByteArray) (hl:all.length+b.size<=1099511627776) (o0:0<=oth) (o3:oth<=3) :
  Calls prog 43 #[.pointer (some ⟨q,0,none⟩),.string b] W fun e W'=>e=.returned (.tuple #[])/\RdI wq q Bt n oth (all++b.data.toList) W'/\Recs W W':=by
 obtain⟨begun,enc,mark,t,R,v,ws,h1,h2,h3⟩:=h.ld
 have hz:=h.size
 have hqB:=h.qB
 refine (QgN q q oth enc begun mark t R v ws all b wq W ht (by omega) (by omega) (by omega) (by rw[hwq];exact h.low) h1 h2 hl o0 (by omega)).mono ?_
 rintro e W' ⟨begun',enc',mark',t',R',v',ws',rfl,g1,g2,g3⟩
 have hlow:=g3.below (w00:=wq) h1.wt (by omega) (by omega) (by rw[hwq];exact h.low)
 rw[hwq] at hlow
 have hk:∀k,k<W.heap.size->k≠q->wblk v≠some k->W'.heap[k]?=W.heap[k]?:=g3.keep
 have hnq:∀k (o:Obj),W.heap[k]?=some o->(∀cs ty fz,o≠.cells cs ty fz)->k≠q/\wblk v≠some k:=fun k o ho hne=>by
  refine⟨fun e=>?_,fun e=>?_⟩
  ·have hc:=h1.ld.c0;rw[e] at ho;unfold World.cell? at hc;rw[ho] at hc;cases o with
   |cells cs ty fz=>exact hne _ _ _ rfl
   |_=>simp at hc
  rcases h1.wt with ⟨x,_⟩|⟨g,o',cap,cur,x,_,hh,_⟩
  ·rw[x] at e;cases e
  rw[x] at e;have:g=k:=Option.some.inj e;rw[this,ho] at hh;exact hne _ _ _ (Option.some.inj hh)
 refine⟨rfl,⟨⟨begun',enc',mark',t',R',v',ws',g1,g2,?_⟩,hlow,(World.cell?_of_block (w:=W) (hk Bt hz (by omega) h3)).trans h.tc,h.qB⟩,⟨g3.size,fun k r hr=>?_,fun k d hd=>?_⟩⟩
 ·rcases g3.row with e|e|⟨k,e,hk⟩
  ·rw[e];exact h3
  ·rw[e];simp
  rw[e];intro q;have:=Option.some.inj q;omega
 ·obtain⟨x1,x2⟩:=hnq k _ hr (fun _ _ _=>by simp);exact (hk k (QbR hr) x1 x2).trans hr
 obtain⟨x1,x2⟩:=hnq k _ hd (fun _ _ _=>by simp)
 exact (hk k (QbR hd) x1 x2).trans hd
end
attribute [local go_sem] Oper.semAt_some
def recP (enc oth:Int) (pre:List ByteArray):List UInt8:=Vm.nb (Vm.recL oth (atB enc pre))
theorem QhQ (enc oth:Int) (pre:List ByteArray) (x:ByteArray):recP enc oth (pre++[x])=recP enc oth pre++(strOfNums (Vm.recL oth (Vm.atoms enc x.data.toList))).data.toList:=by
 unfold recP;rw[QgM,Vm.Qiv,Vm.Qbd];rfl
theorem Qe7 {oth:Int} (hl:∀x∈R,LeafOk enc x) {pre:List ByteArray} (h:pre <+: R.map (fun y=>y.2)):(recP enc oth pre).length<=8 * (rowB R).length:=by
 unfold recP;rw[Vm.Qca];have h1:=Vm.Qhy oth (atB enc pre)
 have h2:(atB enc pre).length<=(rowA enc R).length:=by
  obtain⟨t,ht⟩:=h;rw[<-Qcd,<-ht];simp only[atB,List.flatMap_append,List.length_append];omega
 have h3:=Vm.Qau (Qa4 enc R);have h4:Vm.sizeA (rowA enc R)=(rowB R).length:=Qae hl;omega
structure RdB (w:World) (enc:Int) (mark:Bool) (n:Option Nd) (tail:ByteArray) (oth:Int) (wq:World):Prop where
 c:wq.heap[w.heap.size]?=some (.cells #[.int .i64 enc,.bool mark,trv n,.string tail] 91)
 e:wq.heap[w.heap.size+1]?=some (.cells #[.int .i64 oth] 3)
 r:wq.heap[w.heap.size+2]?=some (.cells #[.int .i64 0,.bool false,.nilIface,.string ⟨#[]⟩] 91)
 sz:wq.heap.size=w.heap.size+3
 low:Below w.heap.size w wq
theorem RdB.start (w:World) (enc:Int) (mark:Bool) (n:Option Nd) (tail:ByteArray) (oth:Int) (h:wq=((w.alloc (.cells #[.int .i64 enc,.bool mark,trv n,.string tail] 91)).alloc (.cells #[.int .i64 oth] 3)).alloc (.cells #[.int .i64 0,.bool false,.nilIface,.string ⟨#[]⟩] 91)):RdB w enc mark n tail oth wq:=by
 rw[h];refine⟨?_,?_,?_,by simp,((Z7 _ _).alloc (by simp) _).alloc (by simp;omega) _⟩
 ·rw[Below.heap_alloc _ _ _ (by simp;omega),Below.heap_alloc _ _ _ (by simp)];exact Go.Deep.blk_alloc_new _ _
 ·rw[Below.heap_alloc _ _ _ (by simp)];have:=Go.Deep.blk_alloc_new (w.alloc (.cells #[.int .i64 enc,.bool mark,trv n,.string tail] 91)) (.cells #[.int .i64 oth] 3);rwa [World.size_alloc] at this
 have:=Go.Deep.blk_alloc_new ((w.alloc (.cells #[.int .i64 enc,.bool mark,trv n,.string tail] 91)).alloc (.cells #[.int .i64 oth] 3)) (.cells #[.int .i64 0,.bool false,.nilIface,.string ⟨#[]⟩] 91);rwa [World.size_alloc,World.size_alloc] at this
theorem Qnz {e:Int} (e0:0<=e) (e3:e<=3) (L:List Int):bytesOf e (true&&decide (e≠3)) (strOfNums L)=ofL (([]++(markB e).data.toList)++Vm.nb L):=by
 refine QcO ?_;by_cases h:e=3
 ·subst h;rfl
 rw[decide_eq_true (show e≠3 from h)];show (markB e++strOfNums L).data.toList=_;rw[Qdx];rfl
theorem QoY (wq:World) (e:Int):LdS wq.heap.size wq.heap.size e false 0 false none [] (.slice none 0 0) [] (wq.alloc (.cells #[.int .i64 e,.bool false,.int .i64 0,.bool false,.nilIface,.string ⟨#[]⟩,.slice none 0 0] 94)) :=
 ⟨LdC.of_heap (heap_alloc_new wq _) (by decide) (by decide),.inl ⟨rfl,rfl⟩,(by intro e;cases e),⟨fun n hn=>(by cases hn),fun _=>rfl,fun x hx=>(by cases hx)⟩⟩
theorem QjF {W1 w3:World} {n:Option Nd} {e:Int} {ms:List UInt8} (h1:LdS wq.heap.size wq.heap.size e begun enc mark t R v ws W1) (h2:Inv e ms begun enc mark t R ws) (hb:Below wq.heap.size wq W1) (hw3:w3=W1.alloc (.cells #[trv n] 89)):RdI wq wq.heap.size W1.heap.size n e ms w3:=by
 have hb3:Below W1.heap.size W1 w3:=by rw[hw3];exact Z7 _ _
 have hq:=Z3 h1.ld.c0;refine⟨⟨begun,enc,mark,t,R,v,ws,h1.low hb3,h2,fun q=>?_⟩,hb.trans (hb3.mono hb.size),?_,hq⟩
 ·have:=(h1.wt.blk_lt q).1;omega
 rw[hw3];simp [go_sem]
theorem QkE (k:Kp) (n:Option Nd) (R:List (Cn × ByteArray)) (tail:ByteArray) (e:Int) (w:World) (ht:TabW w) (hc:CtOk w k n R tail) (e0:0<=e) (e3:e<=3) (hne:e≠k.enc) (hs:k.body.size<=34359738368) :
  Calls prog 109 #[ctv k n tail,.int .i64 e] w fun x w'=>∃n' R' tail',x=.returned (ctv (encK k e) n' tail')/\CtOk w' (encK k e) n' R' tail'/\Below w.heap.size w w':=by
 have hfo:prog.follows Departure.mixedOrders=true:=by kernel_rfl
 obtain⟨wq,hwq⟩:∃wq,wq=((w.alloc (.cells #[.int .i64 k.enc,.bool k.mark,trv n,.string tail] 91)).alloc (.cells #[.int .i64 e] 3)).alloc (.cells #[.int .i64 0,.bool false,.nilIface,.string ⟨#[]⟩] 91):=⟨_,rfl⟩
 have HB:=hide (RdB.start w k.enc k.mark n tail e hwq)
 have q1:=C0 HB.o.e
 have q0:=C0 HB.o.c
 have HWQ:=hide hwq
 have hit:=Qkk n R
 have HTB:=hide (Qdt n)
 have HR1:=hide (fun m (h:n=some m)=>(hc.tr.inn m h).2.2)
 have HR2:=hide hc.tr.non
 have HC:=hide hc
 have HT:=hide ht
 have hbe:(e==k.enc)=false:=by simpa using hne
 clear hwq hc ht
 unfold ctv
 refine (callsIn_wide (n:=9)).1 ?_
 refine callsIn_of_wp_marks func109 rfl trivial ?_ rfl
 simp only[ntmps109,List.size_toArray,List.length_cons,List.length_nil,Nat.reduceAdd,Nat.reduceSub,Array.replicate_succ,Array.replicate_zero,List.push_toArray,List.append_toArray,List.nil_append,List.cons_append]
 have hz:=HB.o.sz
 have hls0:=QoY wq e
 have hbl0:Below wq.heap.size wq (wq.alloc (.cells #[.int .i64 e,.bool false,.int .i64 0,.bool false,.nilIface,.string ⟨#[]⟩,.slice none 0 0] 94)):=Z7 _ _
 have HLS:=hide hls0
 have HBL:=hide hbl0
 clear hls0 hbl0
 cases hkm:k.mark with
 |false =>
  rw[hkm] at HWQ HB;gi_wp2_with fail;rw[<-HWQ.o];refine⟨trivial,(callsIn_wide.2 (HTB.o _)).mono ?_⟩;rintro x w3 ⟨rfl,hw3⟩;obtain⟨W1,hW1⟩:∃W1,W1=wq.alloc (.cells #[.int .i64 e,.bool false,.int .i64 0,.bool false,.nilIface,.string ⟨#[]⟩,.slice none 0 0] 94):=⟨_,rfl⟩;rw[<-hW1] at HLS HBL hw3;rw[<-hW1];simp only[show w.heap.size+1+1+1=wq.heap.size from hz.symm];have hz1:wq.heap.size<=w.heap.size+3:=by omega
  have hz2:w.heap.size+3<=wq.heap.size:=by omega
  clear hz hW1;obtain⟨ms,hms⟩:∃ms:List UInt8,ms=[]:=⟨_,rfl⟩;have hmsl:ms.length<=3:=by rw[hms];decide
  have hinv:Inv e ms false 0 false none [] []:=.inl ⟨rfl,rfl,rfl,hms.symm⟩;have HMS:=hide hms;clear hms;have hls:=HLS.o;have hbq:=HBL.o;have hI0:=QjF (n:=n) hls hinv hbq hw3;have hs3:w3.heap.size<=W1.heap.size+1:=by rw[hw3];simp
  have hs3b:W1.heap.size+1<=w3.heap.size:=by rw[hw3];simp
  have HI0:=hide hI0;clear hI0 hw3;gi_wp2
  refine QhC (gf:=134) rfl (enters_of func134 (by kernel_rfl) rfl) (hit W1.heap.size HR1.o HR2.o) (fun _=>rfl)
   (fun pre W=>RdI wq wq.heap.size W1.heap.size n e (ms++recP k.enc e pre) W) ?hB ?hL ?hN (by have h:=HI0.o;rw[show ms++recP k.enc e []=ms from List.append_nil _];exact h) ?a1 ?assign ?body ?done
  case hB=>intro s A B h hb;exact h.step hb
  case hL=>intro s A L r o hlo h hL;exact h.putLoop o hL (by omega)
  case hN =>
   intro s A h;exact⟨h.tc,(HC.o.tr.low (HB.o.low.trans (h.low.mono (by have:=HB.o.sz;omega)))).int⟩
  case assign =>
   intro l x W K hK;dsimp only [encB];gi_wp2;exact hK
  case body =>
   intro l2 pre x W hszW hi hpre;have kc:=(hi.low.block w.heap.size (by omega)).trans HB.o.c;have ke:=(hi.low.block (w.heap.size+1) (by omega)).trans HB.o.e;have c0:=C0 kc;have c1:=C0 ke;have hxm:x∈R.map (fun y=>y.2):=hpre.subset (by simp);have hxs:=QeX hxm;have hlens:=HC.o.lens;have HLW:=hide (HB.o.low.trans (hi.low.mono (by omega)));have HRC:=hide (Qfn k.enc e x W (HT.o.below HLW.o) HC.o.h0 HC.o.h3 e0 e3 (by omega));have hrl:=Qe7 (oth:=e) HC.o.tr.ok hpre;have hsn:=QhQ k.enc e pre x
   have hlx:(recP k.enc e pre).length+(strOfNums (Vm.recL e (Vm.atoms k.enc x.data.toList))).size=(recP k.enc e (pre++[x])).length:=by
    rw[hsn,List.length_append];rfl
   have HSN:=hide hsn;have HI:=hide hi;clear hi kc ke hsn;generalize strOfNums (Vm.recL e (Vm.atoms k.enc x.data.toList))=rx at *;gi_wp2_with fail;refine⟨trivial,(CallsIn.inRound l2 (callsIn_wide.2 HRC.o)).mono ?_⟩;rintro y W4 ⟨rfl,hb4⟩;have HT4:=hide (RdI.take (HT.o.below HB.o.low).tabs rfl (HI.o.step hb4) rx (by rw[List.length_append];omega) e0 e3);have HR4:=hide (Recs.of_below hb4);clear hb4 HRC HI;gi_wp2_with fail;refine⟨trivial,(CallsIn.inRound l2 (callsIn_wide.2 HT4.o)).mono ?_⟩;rintro y W5 ⟨rfl,h5,hr5⟩;rw[List.append_assoc,<-HSN.o] at h5;have H5:=hide h5;have HR5:=hide (HR4.o.trans hr5);clear h5 hr5 HT4 HR4;gi_wp2;exact⟨HR5.o,H5.o⟩
  case done =>
   intro W hszW hi hd;obtain⟨begun,enc',mark',t',R',v',ws',hl,hv,hnb⟩:=hi.ld;rw[show recP k.enc e (R.map (fun x=>x.2))=Vm.nb (Vm.recL e (rowA k.enc R)) from by unfold recP;rw[Qcd]] at hv;have hrl:=Qe7 (oth:=e) HC.o.tr.ok (List.prefix_refl (R.map (fun y=>y.2)));rw[show recP k.enc e (R.map (fun x=>x.2))=Vm.nb (Vm.recL e (rowA k.enc R)) from by unfold recP;rw[Qcd]] at hrl;have hlens:=HC.o.lens
   have hbs:(ofL (ms++Vm.nb (Vm.recL e (rowA k.enc R)))).size<=1099511627776:=by
    show (ms++Vm.nb (Vm.recL e (rowA k.enc R))).length<=_;rw[List.length_append];omega
   obtain⟨p,cap,rfl,hcap⟩:=hl.wt.val;have c0:=hl.ld.c0;have c1:=hl.ld.c1;have c2:=hl.ld.c2;have c3:=hl.ld.c3;have c4:=hl.ld.c4;have c5:=hl.ld.c5;have c6:=hl.ld.c6;have hzc:=Z3 c0;have HLW:=hide (HB.o.low.trans (hi.low.mono (by omega)));have HA:=hide (Qji wq.heap.size e enc' begun mark' t' R' _ ws' (ofL (ms++Vm.nb (Vm.recL e (rowA k.enc R)))) W (HT.o.below HLW.o).tabs hl.wt hl.tr hv hbs e0 (by omega));have kr:=(hi.low.block (w.heap.size+2) (by omega)).trans HB.o.r;have HKR:=hide kr;have hbz:=hi.size;have hw3z:w.heap.size+2<w3.heap.size:=by have:=hi.qB;omega
   clear hi hl hv hnb kr hbs hrl;generalize hbb:ofL (ms++Vm.nb (Vm.recL e (rowA k.enc R)))=bb at *;have hee:encOf bb e=e:=by unfold encOf;rw[if_neg (by omega)];exact Int.emod_eq_of_lt e0 (by omega)
   have RDKH:=hide (show encK k e=⟨encOf bb e,ofMark bb (encOf bb e),ofBody bb (encOf bb e)⟩ by
    rw[hee];show ofK _ e=ofK bb e;congr 1;rw[<-hbb]
    rw[hkm,HMS.o,<-HC.o.atoms];rfl)
   have RDEH:=hide hee;clear hbb hee;gi_wp2_with fail;refine⟨trivial,(callsIn_wide.2 HA.o).mono ?_⟩;rintro y W5 ⟨n',R5,tail5,rfl,htr,hby,hat,hgd,hb5⟩;have hK5:=(hb5.block _ (by omega)).trans hd;have kr5:=(hb5.block (w.heap.size+2) (by omega)).trans HKR.o;have r0:=C0 kr5;have r1:=C1 kr5;have r2:=C2 kr5;have r3:=C3 kr5;have rf:=fun j=>Lib.frozen_of_heap kr5 j;have zr:=Z3 r0;have HTR:=hide htr;have HL5:=hide (HLW.o.trans (hb5.mono (by omega)));clear htr hb5 HA c0 c1 c2 c3 c4 c5 c6;simp only[QbF];gi_wp2;obtain⟨X,hX⟩:∃X,X=(((W5.setCell ⟨w.heap.size+1+1,0,none⟩ (.int .i64 (encOf bb e))).setCell ⟨w.heap.size+1+1,1,none⟩ (.bool (ofMark bb (encOf bb e)))).setCell ⟨w.heap.size+1+1,2,none⟩ (.iface n'.ty (.pointer (some ⟨n'.blk,0,none⟩)))).setCell ⟨w.heap.size+1+1,3,none⟩ (.string tail5):=⟨_,rfl⟩;rw[<-hX];obtain⟨a0,a1,a2,a3,tn,_⟩:=QdZ (.int .i64 (encOf bb e)) (.bool (ofMark bb (encOf bb e))) (.iface n'.ty (.pointer (some ⟨n'.blk,0,none⟩))) (.string tail5) r0 r1 r2 r3 hX;have hKX:=(tn.keep _ (QbR hK5) (by omega)).trans hK5;have hpo:∀j,(X.putObj w3.heap.size (.deferred none)).cell? ⟨w.heap.size+1+1,j,none⟩=X.cell? ⟨w.heap.size+1+1,j,none⟩:=fun j=>World.cell?_of_block (w:=X) (World.putObj_heap_other (by show w.heap.size+1+1≠_;omega));have b0:=(hpo 0).trans a0;have b1:=(hpo 1).trans a1;have b2:=(hpo 2).trans a2;have b3:=(hpo 3).trans a3;refine⟨by simp,.inl ⟨_,_,rfl,run_takeDeferred hKX,?_⟩⟩;refine⟨.agg #[.int .i64 (encOf bb e),.bool (ofMark bb (encOf bb e)),.iface n'.ty (.pointer (some ⟨n'.blk,0,none⟩)),.string tail5],by simp [results,Tryz.results109,go_sem,b0,b1,b2,b3],some n',R5,tail5,?_,?_,?_⟩
   ·rw[RDKH.o];rfl
   ·rw[RDKH.o];have t1:TrAt X (encOf bb e) (some n') R5:=HTR.o.tn2 (by unfold NoNd tyAt;rw[kr5];exact⟨by decide,by decide⟩) tn;have t2:TrAt (X.putObj w3.heap.size (.deferred none)) (encOf bb e) (some n') R5:=t1.tn2 (by unfold NoNd tyAt;rw[hKX];exact⟨by simp,by simp⟩) ⟨rfl,rfl,rfl,by simp,fun k _ hk=>World.putObj_heap_other hk⟩;exact⟨t2,hby,hat,hgd,by rw[show (⟨encOf bb e,ofMark bb (encOf bb e),ofBody bb (encOf bb e)⟩:Kp).enc=encOf bb e from rfl,RDEH.o];exact e0,by rw[show (⟨encOf bb e,ofMark bb (encOf bb e),ofBody bb (encOf bb e)⟩:Kp).enc=encOf bb e from rfl,RDEH.o];exact e3⟩
   have hz:=QbK HL5.o (by omega) tn;exact⟨hz.os,hz.tape,hz.output,by simpa using hz.size,fun k hk=>(World.putObj_heap_other (by omega)).trans (hz.block k hk)⟩
 |true =>
  rw[hkm] at HWQ HB;gi_wp2_with fail;rw[<-HWQ.o];obtain⟨W0,hW0⟩:∃W0,W0=wq.alloc (.cells #[.int .i64 e,.bool false,.int .i64 0,.bool false,.nilIface,.string ⟨#[]⟩,.slice none 0 0] 94):=⟨_,rfl⟩;rw[<-hW0] at HLS HBL;rw[<-hW0];simp only[show w.heap.size+1+1+1=wq.heap.size from hz.symm];have hz1:wq.heap.size<=w.heap.size+3:=by omega
  have hz2:w.heap.size+3<=wq.heap.size:=by omega
  clear hz hW0;have HTQ:=hide (HT.o.below HB.o.low);refine⟨trivial,(callsIn_wide.2 (QbL e W0 (HTQ.o.below HBL.o).tabs.enc e0 e3)).mono ?_⟩;rintro x w2 ⟨rfl,hb2⟩;have hms3:=QaN e;have hz0:=HBL.o.size;have HBL2:=hide (HBL.o.trans (hb2.mono hz0));have hz2b:=HBL2.o.size;have HTK:=hide (QgN wq.heap.size wq.heap.size e 0 false false none [] (.slice none 0 0) [] [] (markB e) wq w2 HTQ.o.tabs (Z6 _) (Z6 _) hz2b HBL2.o (HLS.o.low hb2) (.inl ⟨rfl,rfl,rfl,rfl⟩) (by show 0+_<=_;omega) e0 (by omega));have HWT:=hide (HLS.o.low hb2).wt;clear hb2 HLS HBL;gi_wp2_with fail;refine⟨trivial,(callsIn_wide.2 HTK.o).mono ?_⟩;rintro x W1 ⟨begun1,enc1,mark1,t1,R1,v1,ws1,rfl,hls,hinv,hps⟩;have hbq:=hps.below (w00:=wq) HWT.o (Z6 _) (Z6 _) HBL2.o;have c2:=C2 ((hbq.block w.heap.size (by omega)).trans HB.o.c);obtain⟨ms,hms⟩:∃ms:List UInt8,ms=[]++(markB e).data.toList:=⟨_,rfl⟩;rw[<-hms] at hinv;have hmsl:ms.length<=3:=by rw[hms];exact hms3
  have HMS:=hide hms;have HLS:=hide hls;have HINV:=hide hinv;have HBQ:=hide hbq;clear hms hps HTK HWT HBL2 hls hinv hbq;gi_wp2_with fail;refine⟨trivial,(callsIn_wide.2 (HTB.o _)).mono ?_⟩;rintro x w3 ⟨rfl,hw3⟩;have hls:=HLS.o;have hinv:=HINV.o;have hbq:=HBQ.o;clear c2;have hI0:=QjF (n:=n) hls hinv hbq hw3;have hs3:w3.heap.size<=W1.heap.size+1:=by rw[hw3];simp
  have hs3b:W1.heap.size+1<=w3.heap.size:=by rw[hw3];simp
  have HI0:=hide hI0;clear hI0 hw3;gi_wp2
  refine QhC (gf:=134) rfl (enters_of func134 (by kernel_rfl) rfl) (hit W1.heap.size HR1.o HR2.o) (fun _=>rfl)
   (fun pre W=>RdI wq wq.heap.size W1.heap.size n e (ms++recP k.enc e pre) W) ?hB2 ?hL2 ?hN2 (by have h:=HI0.o;rw[show ms++recP k.enc e []=ms from List.append_nil _];exact h) ?a12 ?assign2 ?body2 ?done2
  case hB2=>intro s A B h hb;exact h.step hb
  case hL2=>intro s A L r o hlo h hL;exact h.putLoop o hL (by omega)
  case hN2 =>
   intro s A h;exact⟨h.tc,(HC.o.tr.low (HB.o.low.trans (h.low.mono (by have:=HB.o.sz;omega)))).int⟩
  case assign2 =>
   intro l x W K hK;dsimp only [encB];gi_wp2;exact hK
  case body2 =>
   intro l2 pre x W hszW hi hpre;have kc:=(hi.low.block w.heap.size (by omega)).trans HB.o.c;have ke:=(hi.low.block (w.heap.size+1) (by omega)).trans HB.o.e;have c0:=C0 kc;have c1:=C0 ke;have hxm:x∈R.map (fun y=>y.2):=hpre.subset (by simp);have hxs:=QeX hxm;have hlens:=HC.o.lens;have HLW:=hide (HB.o.low.trans (hi.low.mono (by omega)));have HRC:=hide (Qfn k.enc e x W (HT.o.below HLW.o) HC.o.h0 HC.o.h3 e0 e3 (by omega));have hrl:=Qe7 (oth:=e) HC.o.tr.ok hpre;have hsn:=QhQ k.enc e pre x
   have hlx:(recP k.enc e pre).length+(strOfNums (Vm.recL e (Vm.atoms k.enc x.data.toList))).size=(recP k.enc e (pre++[x])).length:=by
    rw[hsn,List.length_append];rfl
   have HSN:=hide hsn;have HI:=hide hi;clear hi kc ke hsn;generalize strOfNums (Vm.recL e (Vm.atoms k.enc x.data.toList))=rx at *;gi_wp2_with fail;refine⟨trivial,(CallsIn.inRound l2 (callsIn_wide.2 HRC.o)).mono ?_⟩;rintro y W4 ⟨rfl,hb4⟩;have HT4:=hide (RdI.take (HT.o.below HB.o.low).tabs rfl (HI.o.step hb4) rx (by rw[List.length_append];omega) e0 e3);have HR4:=hide (Recs.of_below hb4);clear hb4 HRC HI;gi_wp2_with fail;refine⟨trivial,(CallsIn.inRound l2 (callsIn_wide.2 HT4.o)).mono ?_⟩;rintro y W5 ⟨rfl,h5,hr5⟩;rw[List.append_assoc,<-HSN.o] at h5;have H5:=hide h5;have HR5:=hide (HR4.o.trans hr5);clear h5 hr5 HT4 HR4;gi_wp2;exact⟨HR5.o,H5.o⟩
  case done2 =>
   intro W hszW hi hd;obtain⟨begun,enc',mark',t',R',v',ws',hl,hv,hnb⟩:=hi.ld;rw[show recP k.enc e (R.map (fun x=>x.2))=Vm.nb (Vm.recL e (rowA k.enc R)) from by unfold recP;rw[Qcd]] at hv;have hrl:=Qe7 (oth:=e) HC.o.tr.ok (List.prefix_refl (R.map (fun y=>y.2)));rw[show recP k.enc e (R.map (fun x=>x.2))=Vm.nb (Vm.recL e (rowA k.enc R)) from by unfold recP;rw[Qcd]] at hrl;have hlens:=HC.o.lens
   have hbs:(ofL (ms++Vm.nb (Vm.recL e (rowA k.enc R)))).size<=1099511627776:=by
    show (ms++Vm.nb (Vm.recL e (rowA k.enc R))).length<=_;rw[List.length_append];omega
   obtain⟨p,cap,rfl,hcap⟩:=hl.wt.val;have c0:=hl.ld.c0;have c1:=hl.ld.c1;have c2:=hl.ld.c2;have c3:=hl.ld.c3;have c4:=hl.ld.c4;have c5:=hl.ld.c5;have c6:=hl.ld.c6;have hzc:=Z3 c0;have HLW:=hide (HB.o.low.trans (hi.low.mono (by omega)));have HA:=hide (Qji wq.heap.size e enc' begun mark' t' R' _ ws' (ofL (ms++Vm.nb (Vm.recL e (rowA k.enc R)))) W (HT.o.below HLW.o).tabs hl.wt hl.tr hv hbs e0 (by omega));have kr:=(hi.low.block (w.heap.size+2) (by omega)).trans HB.o.r;have HKR:=hide kr;have hbz:=hi.size;have hw3z:w.heap.size+2<w3.heap.size:=by have:=hi.qB;omega
   clear hi hl hv hnb kr hbs hrl;generalize hbb:ofL (ms++Vm.nb (Vm.recL e (rowA k.enc R)))=bb at *;have hee:encOf bb e=e:=by unfold encOf;rw[if_neg (by omega)];exact Int.emod_eq_of_lt e0 (by omega)
   have RDKH:=hide (show encK k e=⟨encOf bb e,ofMark bb (encOf bb e),ofBody bb (encOf bb e)⟩ by
    rw[hee];show ofK _ e=ofK bb e;congr 1;rw[<-hbb]
    rw[hkm,HMS.o,<-HC.o.atoms];exact Qnz e0 e3 _)
   have RDEH:=hide hee;clear hbb hee;gi_wp2_with fail;refine⟨trivial,(callsIn_wide.2 HA.o).mono ?_⟩;rintro y W5 ⟨n',R5,tail5,rfl,htr,hby,hat,hgd,hb5⟩;have hK5:=(hb5.block _ (by omega)).trans hd;have kr5:=(hb5.block (w.heap.size+2) (by omega)).trans HKR.o;have r0:=C0 kr5;have r1:=C1 kr5;have r2:=C2 kr5;have r3:=C3 kr5;have rf:=fun j=>Lib.frozen_of_heap kr5 j;have zr:=Z3 r0;have HTR:=hide htr;have HL5:=hide (HLW.o.trans (hb5.mono (by omega)));clear htr hb5 HA c0 c1 c2 c3 c4 c5 c6;simp only[QbF];gi_wp2;obtain⟨X,hX⟩:∃X,X=(((W5.setCell ⟨w.heap.size+1+1,0,none⟩ (.int .i64 (encOf bb e))).setCell ⟨w.heap.size+1+1,1,none⟩ (.bool (ofMark bb (encOf bb e)))).setCell ⟨w.heap.size+1+1,2,none⟩ (.iface n'.ty (.pointer (some ⟨n'.blk,0,none⟩)))).setCell ⟨w.heap.size+1+1,3,none⟩ (.string tail5):=⟨_,rfl⟩;rw[<-hX];obtain⟨a0,a1,a2,a3,tn,_⟩:=QdZ (.int .i64 (encOf bb e)) (.bool (ofMark bb (encOf bb e))) (.iface n'.ty (.pointer (some ⟨n'.blk,0,none⟩))) (.string tail5) r0 r1 r2 r3 hX;have hKX:=(tn.keep _ (QbR hK5) (by omega)).trans hK5;have hpo:∀j,(X.putObj w3.heap.size (.deferred none)).cell? ⟨w.heap.size+1+1,j,none⟩=X.cell? ⟨w.heap.size+1+1,j,none⟩:=fun j=>World.cell?_of_block (w:=X) (World.putObj_heap_other (by show w.heap.size+1+1≠_;omega));have b0:=(hpo 0).trans a0;have b1:=(hpo 1).trans a1;have b2:=(hpo 2).trans a2;have b3:=(hpo 3).trans a3;refine⟨by simp,.inl ⟨_,_,rfl,run_takeDeferred hKX,?_⟩⟩;refine⟨.agg #[.int .i64 (encOf bb e),.bool (ofMark bb (encOf bb e)),.iface n'.ty (.pointer (some ⟨n'.blk,0,none⟩)),.string tail5],by simp [results,Tryz.results109,go_sem,b0,b1,b2,b3],some n',R5,tail5,?_,?_,?_⟩
   ·rw[RDKH.o];rfl
   ·rw[RDKH.o];have t1:TrAt X (encOf bb e) (some n') R5:=HTR.o.tn2 (by unfold NoNd tyAt;rw[kr5];exact⟨by decide,by decide⟩) tn;have t2:TrAt (X.putObj w3.heap.size (.deferred none)) (encOf bb e) (some n') R5:=t1.tn2 (by unfold NoNd tyAt;rw[hKX];exact⟨by simp,by simp⟩) ⟨rfl,rfl,rfl,by simp,fun k _ hk=>World.putObj_heap_other hk⟩;exact⟨t2,hby,hat,hgd,by rw[show (⟨encOf bb e,ofMark bb (encOf bb e),ofBody bb (encOf bb e)⟩:Kp).enc=encOf bb e from rfl,RDEH.o];exact e0,by rw[show (⟨encOf bb e,ofMark bb (encOf bb e),ofBody bb (encOf bb e)⟩:Kp).enc=encOf bb e from rfl,RDEH.o];exact e3⟩
   have hz:=QbK HL5.o (by omega) tn;exact⟨hz.os,hz.tape,hz.output,by simpa using hz.size,fun k hk=>(World.putObj_heap_other (by omega)).trans (hz.block k hk)⟩
open Go.RowKit
theorem QhS (k:Kp) (n:Option Nd) (R:List (Cn × ByteArray)) (tail:ByteArray) (w:World) (hc:CtOk w k n R tail) :
  Calls prog 109 #[ctv k n tail,.int .i64 k.enc] w fun x w'=>x=.returned (ctv k n tail)/\CtOk w' k n R tail/\Below w.heap.size w w':=by
 have hb:Below w.heap.size w (((w.alloc (.cells #[.int .i64 k.enc,.bool k.mark,trv n,.string tail] 91)).alloc (.cells #[.int .i64 k.enc] 3)).alloc (.cells #[.int .i64 k.enc,.bool k.mark,trv n,.string tail] 91)):=((Z7 _ _).alloc (by simp) _).alloc (by simp;omega) _
 have HB:=Z1 hb
 have HC:=Z1 (hc.low hb)
 have hst:=fun (X:World) (a:Addr) (hc:X.cell? a=some .nilIface) (hf:X.frozen? a=false)=>Qaq n hc hf
 unfold ctv
 clear hc hb
 go_enter func109,ntmps109
 go_wp2_with fail
 exact bodyPost_ret (v:=.agg #[.int .i64 k.enc,.bool k.mark,trv n,.string tail]) (by simp [results,Tryz.results109,go_sem]) rfl ⟨rfl,HC.o,HB.o⟩
theorem QhX (k:Kp) (n:Option Nd) (R:List (Cn × ByteArray)) (tail:ByteArray) (e:Int) (w:World) (ht:TabW w) (hc:CtOk w k n R tail) (e0:0<=e) (e3:e<=3) (hs:k.body.size<=34359738368) (hk:k.Ok) (hf:fitsK k e=true) :
  Calls prog 109 #[ctv k n tail,.int .i64 e] w fun x w'=>∃n' R' tail',x=.returned (ctv (encK k e) n' tail')/\CtOk w' (encK k e) n' R' tail'/\Below w.heap.size w w':=by
 by_cases he:e=k.enc
 ·subst he;rw[Ql3 hk hf];refine (QhS k n R tail w hc).mono ?_;rintro x w' ⟨rfl,h1,h2⟩;exact⟨n,R,tail,rfl,h1,h2⟩
 exact QkE k n R tail e w ht hc e0 e3 he hs
def edE (kd:Int):Int:=if 0<=kd/\kd<=2 then 0 else 11
theorem docSetEndings (B p:Nat) (x:He) (O U:List He) (dn un:Value) (kd:Int) (w:World) (ht:TabA w) (h:DocH B w p x O U dn un) (hO:O.length<=30) (hs:x.k.body.size<=34359738368) :
  Calls prog 69 #[.pointer (some ⟨p,0,none⟩),.int .i64 kd] w fun e w'=>∃x' O' U' dn' un',e=.returned (.int .i64 (edE kd))/\DocH B w' p x' O' U' dn' un'/\Dr p dn un dn' un' w w' /\
   (edE kd=0->x'.k=endK x.k kd/\O'=pushO O x/\U'=[])/\(edE kd≠0->x'=x/\O'=O/\U'=U):=by
 have hx:x.Ok w:=h.ok x (by simp)
 have HT:=Z1 ht
 have HH:=Z1 h
 have HM:=Z1 (QhZ kd w)
 obtain⟨c0,c1,c2,c3⟩:=h.at_
 have hz:=Z3 c0
 clear ht h hx
 by_cases hk:0<=kd/\kd<=2
 ·have hE:edE kd=0:=if_pos hk;rw[hE];have hb:(decide (0<=kd)&&decide (kd<=2))=true:=by simp [hk.1,hk.2]
  rw[hb] at HM;have HRP:=Z1 (Qhx x.k x.n x.R x.tail kd w.drew (HT.o.tw.below (Below.refl _ _).drew) ((HH.o.low (Below.refl _ _).drew).ok x (by simp)) hk.1 hk.2 hs);generalize hkr:endK x.k kd=kr at *;have HKR:=Z1 hkr;clear hkr hb hk hE;unfold ctv at HRP;go_enter func69,ntmps69;have H3:=Z1 HH.o;have HD3:=Z1 (Dr.refl p dn un w);clear HH HT;go_wp2_with fail;refine HM.o.mono ?_;rintro e w1 ⟨rfl,rfl⟩;clear HM;go_wp2_with fail
  go_region_with
   (first
    |(have _hq:=hc4;go_at_call 65;refine (Qch B p x ⟨kr,n4,R4,x.tail⟩ O U dn un _ (H3.o.low (((Below.refl _ _).drew).trans hb4)) hc4 hO).mono ?_;rintro e w5 ⟨dn5,rfl,hd5,hr5⟩)
    |(go_at_call 106;refine HRP.o.mono ?_;rintro e w4 ⟨n4,R4,rfl,hc4,hb4⟩)
    |fail)
  all_goals
   have HX5:=Z1 hd5;have HR5:=Z1 (HD3.o.trans ((Dr.of_below (((Below.refl _ _).drew).trans hb4)).trans hr5));clear hd5 hr5 hc4 hb4 HRP H3 HD3 c0 c1 c2 c3 hz;go_wp2_with fail;go_ret;exact⟨⟨kr,n4,R4,x.tail⟩,pushO O x,[],dn5,.slice none 0 0,rfl,HX5.o,HR5.o,fun _=>⟨rfl,rfl,rfl⟩,fun q=>absurd rfl q⟩
 have hE:edE kd=11:=if_neg hk
 rw[hE]
 have hb:(decide (0<=kd)&&decide (kd<=2))=false:=by
  by_cases h1:0<=kd
  ·by_cases h2:kd<=2
   ·exact absurd ⟨h1,h2⟩ hk
   rw[decide_eq_false h2,Bool.and_false]
  rw[decide_eq_false h1,Bool.false_and]
 rw[hb] at HM
 clear hb hk hE
 go_enter func69,ntmps69
 go_wp2_with fail
 refine HM.o.mono ?_
 rintro e w1 ⟨rfl,rfl⟩
 clear HM
 go_wp2_with fail
 go_ret
 exact⟨x,O,U,dn,un,rfl,HH.o,Dr.refl _ _ _ _,fun q=>absurd q (by decide),fun _=>⟨rfl,rfl,rfl⟩⟩
def ecE (k:Kp) (e:Int):Int:=if 0<=e/\e<=3 then (if fitsK k e=true then 0 else 7) else 1
theorem docEncode (B p:Nat) (x:He) (O U:List He) (dn un:Value) (en:Int) (w:World) (ht:TabA w) (h:DocH B w p x O U dn un) (hO:O.length<=30) (hs:x.k.body.size<=34359738368) (hk:x.k.Ok) :
  Calls prog 70 #[.pointer (some ⟨p,0,none⟩),.int .i64 en] w fun e w'=>∃x' O' U' dn' un',e=.returned (.int .i64 (ecE x.k en))/\DocH B w' p x' O' U' dn' un'/\Dr p dn un dn' un' w w' /\
   (ecE x.k en=0->x'.k=encK x.k en/\O'=pushO O x/\U'=[])/\(ecE x.k en≠0->x'=x/\O'=O/\U'=U):=by
 have HT:=Z1 ht
 have HH:=Z1 h
 have HM:=Z1 (Qf6 en w)
 obtain⟨c0,c1,c2,c3⟩:=h.at_
 have hz:=Z3 c0
 have hx:x.Ok w:=h.ok x (by simp)
 by_cases hen:0<=en/\en<=3
 ·have hb:(decide (0<=en)&&decide (en<=3))=true:=by simp [hen.1,hen.2]
  rw[hb] at HM;have HF:=Z1 (Qna x.k x.n x.R x.tail en w ht.tw hx hen.1 hen.2 (by omega));clear ht h hx hb;cases hft:fitsK x.k en with
  |false =>
   have hE:ecE x.k en=7:=by unfold ecE;rw[if_pos hen,if_neg (by rw[hft];simp)]
   rw[hE];rw[hft] at HF;unfold ctv at HF;clear hE hen;go_enter func70,ntmps70;go_wp2_with fail;refine HM.o.mono ?_;rintro e w1 ⟨rfl,rfl⟩;clear HM;go_wp2_with fail;refine HF.o.mono ?_;rintro e w1 ⟨rfl,hb1⟩;have H1:=Z1 (HH.o.low hb1);have HD1:=Z1 (Dr.of_below (p:=p) (dn:=dn) (un:=un) hb1);clear hb1 HF HH;go_wp2_with fail;go_ret;exact⟨x,O,U,dn,un,rfl,H1.o,HD1.o,fun q=>absurd q (by decide),fun _=>⟨rfl,rfl,rfl⟩⟩
  |true =>
   have hE:ecE x.k en=0:=by unfold ecE;rw[if_pos hen,if_pos hft]
   rw[hE];have HCR:=Z1 (fun W (hW:Below w.heap.size w W)=>QhX x.k x.n x.R x.tail en W (HT.o.tw.below hW) ((HH.o.low hW).ok x (by simp)) hen.1 hen.2 hs hk hft);rw[hft] at HF;generalize hkr:encK x.k en=kr at *;unfold ctv at HF HCR;clear hE hen hft hkr;go_enter func70,ntmps70;go_wp2_with fail;refine HM.o.mono ?_;rintro e w1 ⟨rfl,rfl⟩;clear HM;go_wp2_with fail;refine HF.o.mono ?_;rintro e w2 ⟨rfl,hb2⟩;have H3:=Z1 (HH.o.low hb2);have HD3:=Z1 (Dr.of_below (p:=p) (dn:=dn) (un:=un) hb2);have HRP:=Z1 (HCR.o w2.drew (hb2.drew));clear hb2 HF HH HT HCR c0 c1 c2 c3 hz;obtain⟨c0,c1,c2,c3⟩:=H3.o.at_;have hz:=Z3 c0;go_wp2_with fail
   go_region_with
    (first
     |(have _hq:=hc4;go_at_call 65;refine (Qch B p x ⟨kr,n4,R4,tl4⟩ O U dn un _ (H3.o.low (((Below.refl _ _).drew).trans hb4)) hc4 hO).mono ?_;rintro e w5 ⟨dn5,rfl,hd5,hr5⟩)
     |(go_at_call 109;refine HRP.o.mono ?_;rintro e w4 ⟨n4,R4,tl4,rfl,hc4,hb4⟩)
     |fail)
   all_goals
    have HX5:=Z1 hd5;have HR5:=Z1 (HD3.o.trans ((Dr.of_below (((Below.refl _ _).drew).trans hb4)).trans hr5));clear hd5 hr5 hc4 hb4 HRP H3 HD3 c0 c1 c2 c3 hz;go_wp2_with fail;go_ret;exact⟨⟨kr,n4,R4,tl4⟩,pushO O x,[],dn5,.slice none 0 0,rfl,HX5.o,HR5.o,fun _=>⟨rfl,rfl,rfl⟩,fun q=>absurd rfl q⟩
 have hE:ecE x.k en=1:=if_neg hen
 rw[hE]
 have hb:(decide (0<=en)&&decide (en<=3))=false:=by
  by_cases h1:0<=en
  ·by_cases h2:en<=3
   ·exact absurd ⟨h1,h2⟩ hen
   rw[decide_eq_false h2,Bool.and_false]
  rw[decide_eq_false h1,Bool.false_and]
 rw[hb] at HM
 clear hb hen hE ht h hx
 go_enter func70,ntmps70
 go_wp2_with fail
 refine HM.o.mono ?_
 rintro e w1 ⟨rfl,rfl⟩
 clear HM
 go_wp2_with fail
 go_ret
 exact⟨x,O,U,dn,un,rfl,HH.o,Dr.refl _ _ _ _,fun q=>absurd q (by decide),fun _=>⟨rfl,rfl,rfl⟩⟩
end Go.Proofs.YtoejbngihecafaaGreatDoor
