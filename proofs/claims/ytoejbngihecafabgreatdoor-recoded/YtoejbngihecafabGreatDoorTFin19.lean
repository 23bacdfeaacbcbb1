import Derived.Test.YtoejbngihecafabGreatDoorB47
import Derived.Test.YtoejbngihecafabGreatDoorB52
import Derived.Test.YtoejbngihecafabGreatDoorB7
set_option maxRecDepth 100000
set_option maxHeartbeats 200000
namespace Go.Proofs.YtoejbngihecafabGreatDoor.recodedF
open Go.ChangeShapes Go.WideShapes Go.ChangeAt Go.RowKit
open Go.Proofs.YtoejbngihecafabGreatDoor.fin (bulk_str own)
noncomputable def laidWorldK (os:Os):World :=
 { fin.laidWorld os with heap:=(((fin.laidWorld os).heap.modify 3 (fin.putCells #[.string ⟨#[10]⟩,.string ⟨#[13,10]⟩,.string ⟨#[13]⟩])).modify 0 (fin.putCells (Lib.firstTab.map fun z=>Value.int .u8 z).toArray)).modify 1 (fin.putCells ((List.range 16).flatMap fun i=>[Value.int .u8 (Lib.accLo i),.int .u8 (Lib.accHi i)]).toArray) }
theorem tabs {W:World} (h:laidMetH Tryz.prog Rows.recodedRow.laid W):TabA W:=by
 obtain⟨ps,hl,_⟩:=h
 exact taba_of hl (by simp [Rows.recodedRow]) (by simp [Rows.recodedRow]) (by simp [Rows.recodedRow]) (by simp [Rows.recodedRow]) (by simp [Rows.recodedRow]) (by simp [Rows.recodedRow])
theorem wf_rngR {z:Int} (h:(Lit.int .i64 z).wf=true):-9223372036854775808<=z/\z<=9223372036854775807:=by
 simp only[Lit.wf,Bool.and_eq_true,decide_eq_true_eq] at h
 exact⟨h.1,h.2⟩
theorem rngs {zs:List Int} (hz2:∀z∈zs,(Lit.int .i64 z).wf=true):∀i,-9223372036854775808<=zs.getD i 0/\zs.getD i 0<=9223372036854775807:=by
 intro i
 by_cases hi:i<zs.length
 ·exact wf_rngR (hz2 (zs.getD i 0) (by simp [List.getD,List.getElem?_eq_getElem hi]))
 ·have:zs.getD i 0=0:=by simp [List.getD,List.getElem?_eq_none (Nat.le_of_not_lt hi)]
  rw[this];decide
theorem contract (H:Type) (enc:TypeId × Value->H) (W:World) (base:Nat) (args:Array Value) (ds gs:List (DataW H)) (before:List MemPlace)
  (hval:∀(j:Nat) t v,Tryz.f3.params[j]?=some t->args[j]?=some v->Value.okWide Tryz.prog W .any base t v)
  (hW:DataW.Whole enc Tryz.prog Tryz.f3.params.toList Rows.recodedSpec.vars false W args.toList ds gs before) (hL:laidMetH Tryz.prog Rows.recodedRow.laid W) :
  Calls Tryz.prog 3 args W fun e W'=>∃v,e=.returned v/\Rows.recodedSpec.post enc Tryz.prog Tryz.f3 false true false false W args v W':=by
 have hW':=hW
 have hlt:=hW.lt
 obtain⟨p,q,hA0,hV,rfl,hfz,hnd⟩:=hW
 have hA:DataW.TrodAll enc Tryz.prog W 0 (fun _=>true) true Tryz.f3.params.toList args.toList ds p:=hA0
 rw[Tryz.params3] at hA hval
 obtain⟨v0,vs0,d0,ds0,p0,q0,hargs,rfl,rfl,h0,r0⟩:=trodAll_cons hA
 obtain⟨v1,vs1,d1,ds1,p1,q1,hargs1,rfl,rfl,h1,r1⟩:=trodAll_cons r0
 obtain⟨v2,vs2,d2,ds2,p2,q2,hargs2,rfl,rfl,h2,r2⟩:=trodAll_cons r1
 obtain⟨v3,vs3,d3,ds3,p3,q3,hargs3,rfl,rfl,h3,r3⟩:=trodAll_cons r2
 obtain⟨rfl,rfl,rfl⟩:=trodAll_nil r3
 obtain rfl:args=#[v0,v1,v2,v3]:=by cases args;simp_all
 obtain⟨rfl,rfl⟩:=trodVars_none hV
 obtain⟨zs,hz1,hz2,hz3,hz4⟩:=arg_ints Tryz.underlying22 Tryz.underlying3 (by kernel_rfl) (hval 0 22 v0 rfl rfl) h0
 obtain⟨n,rfl,rfl,rfl,hn⟩:=open_int Tryz.underlying3 (hval 1 3 v1 rfl rfl) h1
 obtain⟨ts,ht1,ht2,ht3,ht4⟩:=arg_ints Tryz.underlying22 Tryz.underlying3 (by kernel_rfl) (hval 2 22 v2 rfl rfl) h2
 obtain⟨mk,rfl,rfl,rfl⟩:=open_bool Tryz.underlying4 (hval 3 4 v3 rfl rfl) h3
 clear hA0
 refine (recodedK_any v0 zs n v2 ts mk W (tabs hL) hz1 ht1 (rngs hz2) (rngs ht2) (wf_rngR hn)).mono fun e W' ⟨he,hb⟩=>?_
 subst he
 have hps:∀sp:Nat->Bool,(∀p∈p0++([]++(p2++([]++[])))++[],sp p.block=true)->(∀p∈p0,sp p.block=true)/\(∀p∈p2,sp p.block=true):=fun sp h=>⟨fun p hp=>h p (by simp [hp]),fun p hp=>h p (by simp [hp])⟩
 exact⟨_,rfl,post_below (pv:=[]) hW' (fun _ _ _=>trodAll_cons_mk (shut_bool Tryz.underlying4 _) trodAll_mk0)
  (fun sp hsp=>trodAll_cons_mk (hz4 W' hb sp (hps sp hsp).1) (trodAll_cons_mk (shut_int Tryz.underlying3 hn) (trodAll_cons_mk (ht4 W' hb sp (hps sp hsp).2) (trodAll_cons_mk (shut_bool Tryz.underlying4 _) trodAll_mk0)))) (fun _ _=>rfl) rfl hb
  (ok_one (by kernel_rfl) rfl (okWide_bool_mk Tryz.underlying4 _))⟩
theorem laid_met (os:Os):laidMet Tryz.prog Rows.recodedRow.laid ((laidWorldK os).forCall (fun _ _=>0) ⟨#[],#[.slice none 0 0,.int .i64 0,.slice none 0 0,.bool false],[]⟩).memory :=
 laidMet_of_run' 8 (by kernel_rfl) (by kernel_rfl)
theorem reads (os:Os) {H:Type} (enc:TypeId × Value->H):∃places,DataW.whole enc Tryz.prog ((laidWorldK os).forCall (fun _ _=>0) ⟨#[],#[.slice none 0 0,.int .i64 0,.slice none 0 0,.bool false],[]⟩).memory Tryz.f3.params.toList Rows.recodedSpec.vars false #[Value.slice none 0 0,.int .i64 0,.slice none 0 0,.bool false].toList 8=some ([.nil,.lit (.int .i64 0),.nil,.lit (.bool false)],[],places) :=
 ⟨[],by kernel_rfl⟩
theorem liftedUpto (os:Os) (started:os.Started) (H:Type) (enc:TypeId × Value->H) (F:Stop.Interp) :
  ReturnsInHanded {} Tryz.checked os 3 .any ((OpenSpec.ofChange Rows.recodedSpec).preRow enc Tryz.prog Tryz.f3 Rows.recodedRow.domain false Rows.recodedRow.laid) (((OpenSpec.ofChange Rows.recodedSpec).at F).post enc Tryz.prog Tryz.f3 false true false false):=by
 obtain⟨places,hx⟩:=reads os enc
 refine returnsInHanded_of_row (C:=Tryz.checked) (s:=OpenSpec.ofChange Rows.recodedSpec) own started (by kernel_rfl) Tryz.func3
  (witness_row_at (enc:=enc) (C:=Tryz.checked) false (laidWorldK os) #[.slice none 0 0,.int .i64 0,.slice none 0 0,.bool false] rfl (by kernel_rfl) (by kernel_rfl) (by kernel_rfl)
   (OpenSpec.preRow_of_cond 8 hx (by kernel_rfl) (fun k hk=>by cases hk) (by kernel_rfl) (laid_met os))) ?_
 intro W base args ds gs before hval hW _ _ _ hL _ _
 exact contract H enc W base args ds gs before hval hW hL
theorem saidUpto:Rows.RecodedSaid :=
 OpenClaim.holds_of_cond 3 Tryz.f3 rfl rfl rfl rfl rfl rfl rfl ⟨rfl,rfl,rfl,rfl,rfl⟩ rfl rfl rfl rfl rfl (by kernel_rfl) Tryz.func3 (by kernel_rfl)
  (of_decide_eq_true (by kernel_rfl)) (by unfold Func.isWrapper;first|(rw[if_pos (by decide +kernel)];kernel_rfl)|(rw[if_neg (by decide +kernel)];exact⟨rfl,rfl⟩))
  (fun os started H enc _ F=>by rw[OpenClaim.pre_eq_preRow];exact liftedUpto os started H enc F)
theorem plain (f : FuncId) (fn : Func) (hf : Tryz.pinned.checked.prog.funcNamed "vellum/vellumkeep.Recoded" = some f) (hfn : Tryz.pinned.checked.prog.funcs[f]? = some fn) :
  true=Tryz.pinned.checked.prog.looks []/\∀(j:Nat) t,fn.params[j]?=some t->Tryz.pinned.checked.prog.wantsStandIn t=false:=by
 obtain rfl : f = 3 := Option.some.inj ((show Tryz.prog.funcNamed "vellum/vellumkeep.Recoded" = some 3 by kernel_rfl).symm.trans hf) |>.symm
 obtain rfl:fn=Tryz.f3:=(Option.some.inj (Tryz.func3.symm.trans hfn)).symm
 refine⟨by kernel_rfl,fun j t ht=>?_⟩
 rw[Tryz.params3] at ht
 have hm:=Array.mem_of_getElem? ht
 have ht':t=22\/t=3\/t=22\/t=4:=by simpa using hm
 rcases ht' with rfl|rfl|rfl|rfl
 ·exact (show Tryz.prog.wantsStandIn 22=false by kernel_rfl)
 ·exact (show Tryz.prog.wantsStandIn 3=false by kernel_rfl)
 ·exact (show Tryz.prog.wantsStandIn 22=false by kernel_rfl)
 ·exact (show Tryz.prog.wantsStandIn 4=false by kernel_rfl)
theorem cardUpto:Rows.RecodedCardSaid :=
 Claim7.holds_tied_plain_at .later [] _ _ _ _ saidUpto (fun _ h=>by cases h) (by kernel_rfl) (fun _ h=>by cases h) recoded_row_tie rfl ⟨rfl,rfl⟩ (by kernel_rfl) rfl plain (by kernel_rfl)
end Go.Proofs.YtoejbngihecafabGreatDoor.recodedF
namespace Go.Proofs.YtoejbngihecafabGreatDoor
theorem recoded_holds:Rows.RecodedCardSaid:=recodedF.cardUpto
end Go.Proofs.YtoejbngihecafabGreatDoor
