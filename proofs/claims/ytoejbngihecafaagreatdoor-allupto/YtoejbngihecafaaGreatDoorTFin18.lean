import Derived.Test.YtoejbngihecafaaGreatDoorC50
import Derived.Test.YtoejbngihecafaaGreatDoorC51
import Derived.Test.YtoejbngihecafaaGreatDoorC0
set_option maxRecDepth 100000
set_option maxHeartbeats 200000
open Go.Proofs.Tryz
namespace Go.Proofs.YtoejbngihecafaaGreatDoor
open Go.ChangeShapes Go.WideShapes Go.ChangeAt Go.RowKit
theorem Qnk {H:Type} {enc:TypeId × Value->H} {W:World} {base:Nat} {sp:Nat->Bool} {held:Bool} {fuel:Nat} {cs:List Value} {x:DataW H × List MemPlace} (h:DataW.trod enc prog W base sp held fuel 55 cs=some x) :
  ∃(k a b c:Int) (s:ByteArray),cs=[.int .i64 k,.int .i64 a,.int .i64 b,.int .i64 c,.string s]/\x.1=.agg [.lit (.int .i64 k),.lit (.int .i64 a),.lit (.int .i64 b),.lit (.int .i64 c),.lit (.string s.data.toList)]/\(Lit.int .i64 c).wf=true:=by
 obtain⟨xs,n,_,hx,hcl,hxl,hall⟩:=DataW.trod_struct underlying55 h
 have c5:prog.cellsOf 55=5:=by kernel_rfl
 have ci:prog.cellsOf 3=1:=by kernel_rfl
 have cst:prog.cellsOf 9=1:=by kernel_rfl
 rw[c5] at hcl
 match cs,hcl with
 |[v0,v1,v2,v3,v4],_ =>
  match xs,hxl with
  |[y0,y1,y2,y3,y4],_ =>
   have h0:DataW.trod enc prog W base sp held n 3 (([v0,v1,v2,v3,v4].drop 0).take (prog.cellsOf 3))=some y0:=hall 0 _ rfl;have h1:DataW.trod enc prog W base sp held n 3 (([v0,v1,v2,v3,v4].drop 1).take (prog.cellsOf 3))=some y1:=hall 1 _ rfl;have h2:DataW.trod enc prog W base sp held n 3 (([v0,v1,v2,v3,v4].drop 2).take (prog.cellsOf 3))=some y2:=hall 2 _ rfl;have h3:DataW.trod enc prog W base sp held n 3 (([v0,v1,v2,v3,v4].drop 3).take (prog.cellsOf 3))=some y3:=hall 3 _ rfl;have h4:DataW.trod enc prog W base sp held n 9 (([v0,v1,v2,v3,v4].drop 4).take (prog.cellsOf 9))=some y4:=hall 4 _ rfl;rw[ci] at h0 h1 h2 h3;rw[cst] at h4;obtain⟨k,e0,z0,_⟩:=DataW.trod_int underlying3 h0;obtain⟨a,e1,z1,_⟩:=DataW.trod_int underlying3 h1;obtain⟨b,e2,z2,_⟩:=DataW.trod_int underlying3 h2;obtain⟨c,e3,z3,r3⟩:=DataW.trod_int underlying3 h3;obtain⟨s,e4,z4,_⟩:=DataW.trod_string underlying9 h4;have g0:v0=.int .i64 k:=by simpa using e0
   have g1:v1=.int .i64 a:=by simpa using e1
   have g2:v2=.int .i64 b:=by simpa using e2
   have g3:v3=.int .i64 c:=by simpa using e3
   have g4:v4=.string s:=by simpa using e4
   clear e0 e1 e2 e3 e4 h0 h1 h2 h3 h4 hall h;subst g0 g1 g2 g3 g4 z0 z1 z2 z3 z4;exact⟨k,a,b,c,s,rfl,by rw[hx];rfl,r3⟩
theorem Qnx {H:Type} {enc:TypeId × Value->H} {W:World} {base:Nat} {v:Value} {d:DataW H} {ps:List MemPlace} (hval:Value.okWide prog W .any base 41 v) (hd:DataW.Trod enc prog W 0 (fun _=>true) true 41 v d ps) (hlt:∀p∈ps,p.block<W.heap.size) :
  ∃l:List Opr,OpsAt W v l/\opsS l+l.length<=Rows.uptoBulk d/\(∀(i:Nat) (o:Opr),l[i]?=some o->-9223372036854775808<=o.c/\o.c<=9223372036854775807)/\(∀W',Below W.heap.size W W'->∀sp:Nat->Bool,(∀p∈ps,sp p.block=true)->DataW.Trod enc prog W' 0 sp true 41 v d ps):=by
 have hkeep:∀W',Below W.heap.size W W'->∀sp:Nat->Bool,(∀p∈ps,sp p.block=true)->DataW.Trod enc prog W' 0 sp true 41 v d ps:=fun W' hb sp hsp =>
  WideElems.Trod_stays Tryz.laidOutK (by kernel_rfl) (of_decide_eq_true (by kernel_rfl)) hd (fun x hx=>hb.same (hlt x hx)) hsp
 obtain⟨a0,len0,cap0,rfl⟩:=okWide_slice underlying41 hval
 have ce:prog.cellsOf 55=5:=by kernel_rfl
 obtain⟨fuel,hf⟩:=hd
 rcases Go.Deep.open_slice underlying41 hf with ⟨hcs,hx⟩|⟨a,len,cap,m,n,D,Pl,hcs,hb,hl,hm,hmm,hx,hcell⟩
 ·simp [Value.cells] at hcs;obtain⟨rfl,rfl,rfl⟩:=hcs;exact⟨[],⟨none,0,rfl,fun i o h=>by simp at h⟩,by simp [opsS],fun i o h=>by simp at h,hkeep⟩
 simp [Value.cells] at hcs
 obtain⟨rfl,rfl,rfl⟩:=hcs
 injection hx with hx1 hx2
 simp only[if_true] at hmm
 have hD:∀i,i<m->∃(k a' b c:Int) (s:ByteArray),D i=.agg [.lit (.int .i64 k),.lit (.int .i64 a'),.lit (.int .i64 b),.lit (.int .i64 c),.lit (.string s.data.toList)]/\(∀j,j<5->W.cell? ((a.add (i * 5)).add j)=[Value.int .i64 k,.int .i64 a',.int .i64 b,.int .i64 c,.string s][j]?)/\(Lit.int .i64 c).wf=true:=fun i hi=>by
  obtain⟨cs',h1,h2⟩:=hcell i hi;rw[ce] at h1;obtain⟨k,a',b,c,s,e1,e2,e3⟩:=Qnk h2;subst e1;exact⟨k,a',b,c,s,e2,(World.cells?_some h1).2.2,e3⟩
 refine⟨((List.range len0).map D).map dOp,⟨some a,cap0,by simp,fun i o hi=>?_⟩,?_,fun i o hi=>?_,hkeep⟩
 ·have hil:i<len0:=by
   have:=(List.getElem?_eq_some_iff.1 hi).1;simpa using this
  obtain⟨k,a',b,c,s,e1,e2,_⟩:=hD i (by omega)
  have ho:o=⟨k,a',b,c,s⟩:=by
   have:((List.range len0).map D).map dOp=(List.range len0).map (fun i=>dOp (D i)):=by simp
   rw[this,List.getElem?_map,List.getElem?_range hil] at hi;have h2:=Option.some.inj hi;rw[<-h2];show dOp (D i)=_;rw[e1];rfl
  subst ho;obtain⟨g,f,spot⟩:=a;obtain⟨_,_,_,_,_,_,e0,_⟩:=hD 0 (by omega);have hsp:=World.cell?_spot (e0 0 (by decide));have hspot:spot=none:=by simpa [Addr.add] using hsp
  subst hspot;simp only[Addr.add_lit] at e2;exact⟨g,f,rfl,e2 0 (by decide),e2 1 (by decide),e2 2 (by decide),e2 3 (by decide),e2 4 (by decide)⟩
 ·rw[hx1];simp only[Rows.uptoBulk]
  have:=Qj2 ((List.range len0).map D) (fun d hd=>by
   obtain⟨i,hi,rfl⟩:=List.mem_map.1 hd;obtain⟨k,a',b,c,s,e1,_⟩:=hD i (by have:=List.mem_range.1 hi;omega)
   exact⟨k,a',b,c,s,e1⟩)
  have hlen:(((List.range len0).map D).map dOp).length=((List.range len0).map D).length:=by simp
  rw[hlen];omega
 have hil:i<len0:=by
  have:=(List.getElem?_eq_some_iff.1 hi).1;simpa using this
 obtain⟨k,a',b,c,s,e1,_,e3⟩:=hD i (by omega)
 have ho:o=⟨k,a',b,c,s⟩:=by
  have:((List.range len0).map D).map dOp=(List.range len0).map (fun i=>dOp (D i)):=by simp
  rw[this,List.getElem?_map,List.getElem?_range hil] at hi;have h2:=Option.some.inj hi;rw[<-h2];show dOp (D i)=_;rw[e1];rfl
 subst ho
 simp only[Lit.wf,Bool.and_eq_true,decide_eq_true_eq] at e3
 exact⟨e3.1,e3.2⟩
end Go.Proofs.YtoejbngihecafaaGreatDoor
namespace Go.Proofs.YtoejbngihecafaaGreatDoor.all
open Go.ChangeShapes Go.WideShapes Go.ChangeAt Go.RowKit
open Go.Proofs.YtoejbngihecafaaGreatDoor.fin (own)
theorem tabs {W:World} (h:laidMetH prog Rows.allRow.laid W):TabA W:=by
 obtain⟨ps,hl,_⟩:=h;exact QoR hl (by simp [Rows.allRow]) (by simp [Rows.allRow]) (by simp [Rows.allRow]) (by simp [Rows.allRow]) (by simp [Rows.allRow]) (by simp [Rows.allRow])
theorem contract (H:Type) (enc:TypeId × Value->H) (W:World) (base:Nat) (args:Array Value) (ds gs:List (DataW H)) (before:List MemPlace)
  (hval:∀(j:Nat) t v,Tryz.f6.params[j]?=some t->args[j]?=some v->Value.okWide prog W .any base t v)
  (hW:DataW.Whole enc prog Tryz.f6.params.toList Rows.allSpec.vars false W args.toList ds gs before) (hL:laidMetH prog Rows.allRow.laid W)
  (hS:∀d∈ds,Rows.uptoBulk d<=1048576) :
  Calls prog 6 args W fun e W'=>∃v,e=.returned v/\Rows.allSpec.post enc prog Tryz.f6 false true false false W args v W':=by
 have hW':=hW
 have hlt:=hW.lt
 obtain⟨p,q,hA0,hV,rfl,hfz,hnd⟩:=hW
 have hA:DataW.TrodAll enc prog W 0 (fun _=>true) true Tryz.f6.params.toList args.toList ds p:=hA0
 rw[params6] at hA hval
 obtain⟨v0,vs0,d0,ds0,p0,q0,hargs,rfl,rfl,h0,r0⟩:=trodAll_cons hA
 obtain⟨rfl,rfl,rfl⟩:=trodAll_nil r0
 obtain rfl:args=#[v0]:=by cases args;simp_all
 obtain⟨rfl,rfl⟩:=trodVars_none hV
 obtain⟨l,hl1,hl2,hl4,hl3⟩:=Qnx (hval 0 41 v0 rfl rfl) h0 (fun x hx=>hlt x (by simp [hx]))
 clear hA0
 have hd0:=hS d0 (by simp)
 refine (Qkz v0 l W (tabs hL) hl1 hl4 (by omega) (by omega)).mono fun e W' ⟨he,hb⟩=>?_
 subst he
 have hps:∀sp:Nat->Bool,(∀p∈p0++[]++[],sp p.block=true)->(∀p∈p0,sp p.block=true):=fun sp h p hp=>h p (by simp [hp])
 exact⟨_,rfl,Qko (pv:=[]) hW' (fun _ _ _=>trodAll_cons_mk (shut_bool underlying4 _) trodAll_mk0)
  (fun sp hsp=>trodAll_cons_mk (hl3 W' hb sp (hps sp hsp)) trodAll_mk0) (fun _ _=>rfl) rfl hb
  (ok_one (by kernel_rfl) rfl (okWide_bool_mk underlying4 _))⟩
theorem QmH (os:Os):laidMet prog Rows.allRow.laid ((laidWorldE os).forCall (fun _ _=>0) ⟨#[],#[.slice none 0 0],[]⟩).memory :=
 laidMet_of_run' 8 (by kernel_rfl) (by kernel_rfl)
theorem reads (os:Os) {H:Type} (enc:TypeId × Value->H):∃places,DataW.whole enc prog ((laidWorldE os).forCall (fun _ _=>0) ⟨#[],#[.slice none 0 0],[]⟩).memory Tryz.f6.params.toList Rows.allSpec.vars false #[Value.slice none 0 0].toList 8=some ([.nil],[],places) :=
 ⟨[],by kernel_rfl⟩
theorem liftedUpto (os:Os) (started:os.Started) (H:Type) (enc:TypeId × Value->H) (F:Stop.Interp) :
  ReturnsInHanded {} Tryz.checked os 6 .any ((Rows.OpenSpec.upto Rows.allSpec).preRow enc prog Tryz.f6 Rows.allUptoRow.domain false Rows.allUptoRow.laid) (((Rows.OpenSpec.upto Rows.allSpec).at F).post enc prog Tryz.f6 false true false false):=by
 obtain⟨places,hx⟩:=reads os enc
 refine returnsInHanded_of_row (C:=Tryz.checked) (s:=Rows.OpenSpec.upto Rows.allSpec) own started (by kernel_rfl) func6
  (witness_row_at (enc:=enc) (C:=Tryz.checked) false (laidWorldE os) #[.slice none 0 0] rfl (by kernel_rfl) (by kernel_rfl) (by kernel_rfl)
   (OpenSpec.preRow_of_cond 8 hx (by kernel_rfl) (fun k hk=>by cases hk;kernel_rfl) (by kernel_rfl) (QmH os))) ?_
 intro W base args ds gs before hval hW _ hcond _ hL _ _
 have hk:=hcond _ rfl
 have h1:Rows.uptoBulkAll (ds++gs)<=1048576:=by simpa [Rows.uptoSmall] using hk
 exact contract H enc W base args ds gs before hval hW hL (fun d hd=>Nat.le_trans (Qm1 (List.mem_append_left gs hd)) h1)
theorem saidUpto:Rows.AllUptoSaid :=
 OpenClaim.holds_of_cond 6 Tryz.f6 rfl rfl rfl rfl rfl rfl rfl ⟨rfl,rfl,rfl,rfl,rfl⟩ rfl rfl rfl rfl rfl (by kernel_rfl) func6 (by kernel_rfl)
  (of_decide_eq_true (by kernel_rfl)) (by unfold Func.isWrapper;first|(rw[if_pos (by decide +kernel)];kernel_rfl)|(rw[if_neg (by decide +kernel)];exact⟨rfl,rfl⟩))
  (fun os started H enc _ F=>by rw[OpenClaim.pre_eq_preRow];exact liftedUpto os started H enc F)
theorem plain (f : FuncId) (fn : Func) (hf : Tryz.pinned.checked.prog.funcNamed "vellum/vellumlaw.All" = some f) (hfn : Tryz.pinned.checked.prog.funcs[f]? = some fn) :
  true=Tryz.pinned.checked.prog.looks []/\∀(j:Nat) t,fn.params[j]?=some t->Tryz.pinned.checked.prog.wantsStandIn t=false:=by
 obtain rfl : f = 6 := Option.some.inj ((show prog.funcNamed "vellum/vellumlaw.All" = some 6 by kernel_rfl).symm.trans hf) |>.symm
 obtain rfl:fn=Tryz.f6:=(Option.some.inj (func6.symm.trans hfn)).symm
 refine⟨by kernel_rfl,fun j t ht=>?_⟩
 rw[params6] at ht
 have hm:=Array.mem_of_getElem? ht
 have ht':t=41:=by simpa using hm
 subst ht'
 exact (show prog.wantsStandIn 41=false by kernel_rfl)
theorem cardUpto:Rows.AllUptoCardSaid :=
 Claim7.holds_tied_plain_at .later [] _ _ _ _ saidUpto (fun _ h=>by cases h) (by kernel_rfl) (fun _ h=>by cases h) allUpto_row_tie rfl ⟨rfl,rfl⟩ (by kernel_rfl) rfl plain (by kernel_rfl)
end Go.Proofs.YtoejbngihecafaaGreatDoor.all
namespace Go.Proofs.YtoejbngihecafaaGreatDoor
theorem all_upto_holds:Rows.AllUptoCardSaid:=all.cardUpto
end Go.Proofs.YtoejbngihecafaaGreatDoor
