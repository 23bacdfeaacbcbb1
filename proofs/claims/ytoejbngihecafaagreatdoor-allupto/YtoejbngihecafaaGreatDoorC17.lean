import Derived.Test.YtoejbngihecafaaGreatDoorC16
import Derived.Test.YtoejbngihecafaaGreatDoorC0
set_option maxRecDepth 100000
set_option maxHeartbeats 1000000
open Go.Proofs.Tryz
namespace Go.Proofs.YtoejbngihecafaaGreatDoor
open Go.RowKit Go.Shelf Go.Vit
attribute [local go_sem] Oper.semAt_some
theorem QkL (B:Nat) (enc:Int) (tr:Option Nd) (R:List (Cn × ByteArray)) (b:Nat) (bs:List Value) (f t:Int) (w:World) (ht:TrAt w enc tr R) (hu:∀n,tr=some n->n.Und B) (hd:Bd B b bs w) (hBw:B<=w.heap.size)
  (hlen:bs.length+(rowB R).length<=140737488355328) (h1:((rowB R).length:Int) - 4611686018427387904<=f) (h2:t<=4611686018427387904) (hft:f<=t) :
  Calls prog 89 #[.agg #[trv tr],.pointer (some ⟨b,0,none⟩),.int .i64 f,.int .i64 t] w fun e w'=>e=.returned (.tuple #[])/\Bd B b (bs++Lib.byteCells (Vm.partL (rowB R) f t)) w'/\Below B w w':=by
 cases tr with
 |none =>
  have hR:=ht.non rfl;subst hR;have hp:Vm.partL (rowB []) f t=[]:=by simp [rowB,Vm.partL]
  rw[hp,Qa8,List.append_nil];have hb':=Z7 w (.cells #[.nilIface] 89);have HD:=Z1 (hd.low hb');have HB:=Z1 (hb'.mono hBw);clear hd ht hu hb';simp only[trv];go_enter func89,ntmps89;go_wp2_with fail;go_returns;exact⟨rfl,HD.o,HB.o⟩
 |some n =>
  obtain⟨hn,ho,hr⟩:=ht.inn n rfl;subst hr;have hw:=Qec B n enc (hu n rfl) ho ht.ok;have hb':=Z7 w (.cells #[.iface n.ty (.pointer (some ⟨n.blk,0,none⟩))] 89);have hq:=hw b bs f t _ (Nd.low hb' hn) (hd.low hb') (Nat.le_trans hBw hb'.size) hlen h1 h2 hft;have HQ:=Z1 hq;have HB:=Z1 (hb'.mono hBw);have hw1:=Qcg n;have hm1:=QbT n 362;clear hd ht hu hb' hq hw;simp only[trv];go_enter func89,ntmps89;go_wp2_with fail;refine HQ.o.mono ?_;rintro e w1 ⟨rfl,hd1,hb1⟩;have HD1:=Z1 hd1;have HB1:=Z1 (HB.o.trans hb1);clear hd1 hb1 HQ HB;go_wp2_with fail;go_returns;exact⟨rfl,HD1.o,HB1.o⟩
def ItersB {α:Type} (P:Program) (g:Nat) (args:Value->Array Value) (encs:α->Array Value) (xs:List α) (Need:World->Prop):Prop :=
 ∀(M:World->Nat->Prop) (l:Nat) (J Jx:List α->World->Prop) (W:World),MLow M W.heap.size ->
  (∀s A B,J s A->ItStep M W.heap.size A B->J s B) ->
  (∀s A B,Jx s A->ItStep M W.heap.size A B->Jx s B) ->
  (∀s A,J s A->Need A/\∀k,M A k->k<A.heap.size) ->
  (∀pre x W1,J pre W1->W.heap.size<=W1.heap.size->pre++[x] <+: xs->Go.Vit.Yields P l (encs x) W1 fun e W' =>
   (e=.returned (.bool true)/\J (pre++[x]) W'/\BodyStep M W.heap.size W1 W')\/(e=.returned (.bool false)/\Jx (pre++[x]) W'/\BodyStep M W.heap.size W1 W')) ->
  J [] W ->
  Calls P g (args (.func (.yield l) #[] #[])) W fun e W'=>(e=.returned (.bool true)/\J xs W'/\W.heap.size<=W'.heap.size)\/(e=.returned (.bool false)/\∃pre,pre <+: xs/\Jx pre W')
def Nd.bf:Nd->Nat
 |.leaf _ _ _=>198
 |.inner _ _ _ _ _=>206
theorem QbA (n : Nd) (f : Nat) (v : Value) (w : World) : (method (f + 1) n.ty v "vellum/atoms.bodies").run prog w = .ok (n.bf, v) w := by
 cases n
 ·exact (show (method (f + 1) 184 v "vellum/atoms.bodies").run prog w = .ok (198, v) w by kernel_rfl)
 exact (show (method (f + 1) 215 v "vellum/atoms.bodies").run prog w = .ok (206, v) w by kernel_rfl)
theorem Qcv (n:Nd) (args:Array Value) (w:World):(callFunc n.bf args).run prog w=.ok (.enter n.bf args) w:=by
 cases n
 ·exact enters_of func198 (by kernel_rfl) rfl args w
 exact enters_of func206 (by kernel_rfl) rfl args w
def encB (s:ByteArray):Array Value:=#[.string s]
theorem Qjc (Bl:Nat) (c:Cn) (s:ByteArray):ItersB prog 198 (fun y=>#[.pointer (some ⟨Bl,0,none⟩),y]) encB [s] (fun w=>(Nd.leaf Bl c s).In w):=by
 intro M l J Jx W hM hJ hJx hN hY hj;have hl:=(hN _ _ hj).1;have c9:W.cell? ⟨Bl,9,none⟩=some (.string s):=by rw[Lib.cell_of_heap hl];rfl
 have hbz:=Z4 hl;obtain⟨fn,tmps,assign,body,hy,hR⟩:=hY [] s W hj (Z6 _) (by simp);refine (callsIn_wide (n:=9)).1 ?_;refine callsIn_of_wp_marks func198 rfl trivial ?_ rfl;simp only[ntmps198,List.size_toArray,List.length_cons,List.length_nil,Nat.reduceAdd,Nat.reduceSub,Array.replicate_succ,Array.replicate_zero,List.push_toArray,List.append_toArray,List.nil_append,List.cons_append];simp only[encB] at hy;gi_wp2_with fail;refine (Qam none hR).mono ?_;rintro e W3 (⟨rfl,hJ3,hk3⟩|⟨rfl,hJx3,hkx⟩)
 ·gi_wp2;exact⟨.bool true,by simp [results,Tryz.results198,go_sem],.inl ⟨rfl,hJ3,hk3.size⟩⟩
 gi_wp2;exact⟨.bool false,by simp [results,Tryz.results198,go_sem],.inr ⟨rfl,_,List.prefix_refl _,hJx3⟩⟩
theorem QhN (Bl:Nat) (c:Cn) (k:Nat) (n m:Nd) (xs ys:List ByteArray)
  (hn:ItersB prog n.bf (fun y=>#[.pointer (some ⟨n.blk,0,none⟩),y]) encB xs (fun w=>n.In w))
  (hm:ItersB prog m.bf (fun y=>#[.pointer (some ⟨m.blk,0,none⟩),y]) encB ys (fun w=>m.In w)) :
  ItersB prog 206 (fun y=>#[.pointer (some ⟨Bl,0,none⟩),y]) encB (xs++ys) (fun w=>(Nd.inner Bl c k n m).In w):=by
 intro M l J Jx W hM hJ hJx hN hY hj
 have hl:=(hN _ _ hj).1
 obtain⟨p9,p10⟩:=Qal hl
 have hbz:=Z4 hl.1
 have e1:=Qcv n
 have e2:=Qcv m
 have m1:=QbA n 362
 have m2:=QbA m 362
 have C1:=hn M l J Jx W hM hJ hJx (fun s A h=>⟨(hN s A h).1.2.1,(hN s A h).2⟩) (fun pre x W1 h1 h2 h3=>hY pre x W1 h1 h2 (h3.trans (List.prefix_append _ _))) hj
 refine (callsIn_wide (n:=9)).1 ?_
 refine callsIn_of_wp_marks func206 rfl trivial ?_ rfl
 simp only[ntmps206,List.size_toArray,List.length_cons,List.length_nil,Nat.reduceAdd,Nat.reduceSub,Array.replicate_succ,Array.replicate_zero,List.push_toArray,List.append_toArray,List.nil_append,List.cons_append]
 gi_wp2_with fail
 refine⟨trivial,(callsIn_wide.2 C1).mono ?_⟩
 rintro e W3 (⟨rfl,hj3,hs3⟩|⟨rfl,pre,hp,hx⟩)
 ·have hl3:=(hN _ _ hj3).1;obtain⟨q9,q10⟩:=Qal hl3;have hbz3:=Z4 hl3.1
  have C2:=hm M l (fun s=>J (xs++s)) (fun s=>Jx (xs++s)) W3 (hM.of hs3) (fun s A B h st=>hJ _ _ _ h (st.mono hs3)) (fun s A B h st=>hJx _ _ _ h (st.mono hs3))
   (fun s A h=>⟨(hN _ A h).1.2.2,(hN _ A h).2⟩) (fun pre x W1 h1 h2 h3=>by
    have hq:=hY (xs++pre) x W1 h1 (Nat.le_trans hs3 h2) (by rw[List.append_assoc];obtain⟨t,ht⟩:=h3;exact⟨t,by rw[List.append_assoc,ht]⟩);obtain⟨fn,tmps,assign,body,hy,hR⟩:=hq;refine⟨fn,tmps,assign,body,hy,hR.mono ?_⟩;rintro e W' (⟨a1,a2,a3⟩|⟨a1,a2,a3⟩)
    ·exact .inl ⟨a1,by rw[<-List.append_assoc];exact a2,a3.mono hs3⟩
    exact .inr ⟨a1,by rw[<-List.append_assoc];exact a2,a3.mono hs3⟩) (by rw[List.append_nil];exact hj3)
  have HC2:=hide C2;clear C2 C1 hY hJ hJx hN hn hm;gi_wp2_with fail;refine⟨trivial,(callsIn_wide.2 HC2.o).mono ?_⟩;rintro e W4 (⟨rfl,hj4,hs4⟩|⟨rfl,pre,hp,hx⟩)
  ·have HS:=hide (Nat.le_trans hs3 hs4);have HJ:=hide hj4;clear HC2 hj4 hj3 hs3 hs4 hl3 hl hj q9 q10 p9 p10 hM;gi_wp2;exact⟨.bool true,by simp [results,Tryz.results206,go_sem],.inl ⟨rfl,HJ.o,HS.o⟩⟩
  have HP:=hide (show xs++pre <+: xs++ys by obtain⟨t,ht⟩:=hp;exact⟨t,by rw[List.append_assoc,ht]⟩);have HX:=hide hx;clear HC2 hx hp hj3 hs3 hl3 hl hj q9 q10 p9 p10 hM;gi_wp2;exact⟨.bool false,by simp [results,Tryz.results206,go_sem],.inr ⟨rfl,_,HP.o,HX.o⟩⟩
 have HP:=hide (show pre <+: xs++ys from hp.trans (List.prefix_append _ _))
 have HX:=hide hx
 clear C1 hY hJ hJx hN hn hm hx hp hl hj p9 p10 hM
 gi_wp2
 all_goals
  refine⟨fun _ _=>trivial,?_⟩;gi_wp2;exact⟨.bool false,by simp [results,Tryz.results206,go_sem],.inr ⟨rfl,_,HP.o,HX.o⟩⟩
theorem Qeo :∀(n:Nd),ItersB prog n.bf (fun y=>#[.pointer (some ⟨n.blk,0,none⟩),y]) encB (n.row.map (fun x=>x.2)) (fun w=>n.In w)
 |.leaf Bl c s=>Qjc Bl c s
 |.inner Bl c k l r=>by
  have h:=QhN Bl c k l r _ _ (Qeo l) (Qeo r)
  rw[<-List.map_append] at h
  exact h
attribute [local go_sem] Oper.semAt_some
theorem Qdt (t:Option Nd) (w:World) :
  Calls prog 100 #[.agg #[trv t]] w fun e w'=>e=.returned (.func (.func 134) #[] #[.pointer (some ⟨w.heap.size,0,none⟩)])/\w'=w.alloc (.cells #[trv t] 89):=by
 generalize trv t=v
 go_enter func100,ntmps100
 go_wp2
 go_ret
 exact⟨rfl,rfl⟩
theorem Qij (n:Nd) (Bt:Nat):Iters prog 134 #[.pointer (some ⟨Bt,0,none⟩)] encB (n.row.map (fun x=>x.2))
  (fun w=>w.cell? ⟨Bt,0,none⟩=some (.iface n.ty (.pointer (some ⟨n.blk,0,none⟩)))/\n.In w):=by
 intro M l J Jx W hM hJ hJx hN hY hj
 obtain⟨ct,_⟩:=(hN _ _ hj).1
 have hbz:=Z3 ct
 have e1:=Qcv n
 have m1:=QbA n 362
 have C1:=Qeo n M l J Jx W hM hJ hJx (fun s A h=>⟨(hN s A h).1.2,(hN s A h).2⟩) hY hj
 have HC:=hide C1
 clear C1 hY hN hJ hJx hj hM
 refine (callsIn_wide (n:=9)).1 ?_
 refine callsIn_of_wp_marks func134 rfl trivial ?_ rfl
 simp only[ntmps134,List.size_toArray,List.length_cons,List.length_nil,Nat.reduceAdd,Nat.reduceSub,Array.replicate_succ,Array.replicate_zero,List.push_toArray,List.append_toArray,List.nil_append,List.cons_append]
 gi_wp2_with fail
 refine⟨trivial,(callsIn_wide.2 HC.o).mono ?_⟩
 rintro e W3 (⟨rfl,hj3,hs3⟩|⟨rfl,pre,hp,hx⟩)
 ·have HJ:=hide hj3;clear HC hj3;gi_wp2;exact⟨_,results_none rfl _ _ _,⟨_,rfl⟩,.inl HJ.o⟩
 have HX:=hide (show ∃pre,pre <+: n.row.map (fun x=>x.2)/\Jx pre W3 from ⟨pre,hp,hx⟩)
 clear HC hp hx
 gi_wp2
 exact⟨_,results_none rfl _ _ _,⟨_,rfl⟩,.inr HX.o⟩
theorem QhY (Bt:Nat):Iters prog 134 #[.pointer (some ⟨Bt,0,none⟩)] encB []
  (fun w=>w.cell? ⟨Bt,0,none⟩=some .nilIface):=by
 intro M l J Jx W hM hJ hJx hN hY hj
 have ct:=(hN _ _ hj).1
 have hbz:=Z3 ct
 have HJ:=hide hj
 clear hY hN hJ hJx hj hM
 refine (callsIn_wide (n:=9)).1 ?_
 refine callsIn_of_wp_marks func134 rfl trivial ?_ rfl
 simp only[ntmps134,List.size_toArray,List.length_cons,List.length_nil,Nat.reduceAdd,Nat.reduceSub,Array.replicate_succ,Array.replicate_zero,List.push_toArray,List.append_toArray,List.nil_append,List.cons_append]
 gi_wp2
 exact⟨_,results_none rfl _ _ _,⟨_,rfl⟩,.inl HJ.o⟩
theorem QgG (t:Option Nd) (R:List (Cn × ByteArray)) (Bt:Nat) (h1:∀n,t=some n->n.row=R) (h2:t=none->R=[]) :
  Iters prog 134 #[.pointer (some ⟨Bt,0,none⟩)] encB (R.map (fun x=>x.2)) (fun w=>w.cell? ⟨Bt,0,none⟩=some (trv t)/\∀n,t=some n->n.In w):=by
 cases t with
 |none =>
  have:=h2 rfl;subst this;intro M l J Jx W hM hJ hJx hN hY hj;exact QhY Bt M l J Jx W hM hJ hJx (fun s A h=>⟨(hN s A h).1.1,(hN s A h).2⟩) hY hj
 |some n =>
  have:=h1 n rfl;subst this;intro M l J Jx W hM hJ hJx hN hY hj;exact Qij n Bt M l J Jx W hM hJ hJx (fun s A h=>⟨⟨(hN s A h).1.1,(hN s A h).1.2 n rfl⟩,(hN s A h).2⟩) hY hj
end Go.Proofs.YtoejbngihecafaaGreatDoor
