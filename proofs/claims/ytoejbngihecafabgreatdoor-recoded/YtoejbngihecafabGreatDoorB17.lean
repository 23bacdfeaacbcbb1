import Derived.Test.YtoejbngihecafabGreatDoorB16
set_option maxRecDepth 100000
set_option maxHeartbeats 1000000
namespace Go.Proofs.YtoejbngihecafabGreatDoor
open Go.RowKit Go.Shelf Go.Vit
attribute [local go_sem] Oper.semAt_some
theorem twrite_any (B:Nat) (enc:Int) (tr:Option Nd) (R:List (Cn × ByteArray)) (b:Nat) (bs:List Value) (f t:Int) (w:World) (ht:TrAt w enc tr R) (hu:∀n,tr=some n->n.Und B) (hd:Bd B b bs w) (hBw:B<=w.heap.size)
  (hlen:bs.length+(rowB R).length<=140737488355328) (h1:((rowB R).length:Int) - 4611686018427387904<=f) (h2:t<=4611686018427387904) (hft:f<=t) :
  Calls Tryz.prog 59 #[.agg #[trv tr],.pointer (some ⟨b,0,none⟩),.int .i64 f,.int .i64 t] w fun e w'=>e=.returned (.tuple #[])/\Bd B b (bs++Lib.byteCells (Vm.partL (rowB R) f t)) w'/\Below B w w':=by
 cases tr with
 |none =>
  have hR:=ht.non rfl
  subst hR
  have hp:Vm.partL (rowB []) f t=[]:=by simp [rowB,Vm.partL]
  rw[hp,byteCells_nil,List.append_nil]
  have hb':=(Below.refl w.heap.size w).alloc (Nat.le_refl _) (.cells #[.nilIface] 51)
  have HD:=Z1 (hd.low hb')
  have HB:=Z1 (hb'.mono hBw)
  clear hd ht hu hb'
  simp only[trv]
  go_enter Tryz.func59,Tryz.ntmps59
  go_wp2_with fail
  go_returns
  exact⟨rfl,HD.out,HB.out⟩
 |some n =>
  obtain⟨hn,ho,hr⟩:=ht.inn n rfl
  subst hr
  have hw:=writes_all B n enc (hu n rfl) ho ht.ok
  have hb':=(Below.refl w.heap.size w).alloc (Nat.le_refl _) (.cells #[.iface n.ty (.pointer (some ⟨n.blk,0,none⟩))] 51)
  have hq:=hw b bs f t _ (Nd.low hb' hn) (hd.low hb') (Nat.le_trans hBw hb'.size) hlen h1 h2 hft
  have HQ:=Z1 hq
  have HB:=Z1 (hb'.mono hBw)
  have hw1:=wf_enters n
  have hm1:=meth_write n 284
  clear hd ht hu hb' hq hw
  simp only[trv]
  go_enter Tryz.func59,Tryz.ntmps59
  go_wp2_with fail
  refine HQ.out.mono ?_
  rintro e w1 ⟨rfl,hd1,hb1⟩
  have HD1:=Z1 hd1
  have HB1:=Z1 (HB.out.trans hb1)
  clear hd1 hb1 HQ HB
  go_wp2_with fail
  go_returns
  exact⟨rfl,HD1.out,HB1.out⟩
def ItersB {α:Type} (P:Program) (g:Nat) (args:Value->Array Value) (encs:α->Array Value) (xs:List α) (Need:World->Prop):Prop :=
 ∀(M:World->Nat->Prop) (l:Nat) (J Jx:List α->World->Prop) (W:World),MLow M W.heap.size ->
  (∀s A B,J s A->ItStep M W.heap.size A B->J s B) ->
  (∀s A B,Jx s A->ItStep M W.heap.size A B->Jx s B) ->
  (∀s A,J s A->Need A/\∀k,M A k->k<A.heap.size) ->
  (∀pre x W1,J pre W1->W.heap.size<=W1.heap.size->pre++[x] <+: xs->Go.Vit.Yields P l (encs x) W1 fun e W' =>
   (e=.returned (.bool true)/\J (pre++[x]) W'/\BodyStep M W.heap.size W1 W')\/(e=.returned (.bool false)/\Jx (pre++[x]) W'/\BodyStep M W.heap.size W1 W')) ->
  J [] W ->
  Calls P g (args (.func (.yield l) #[] #[])) W fun e W'=>(e=.returned (.bool true)/\J xs W'/\W.heap.size<=W'.heap.size)\/(e=.returned (.bool false)/\∃pre,pre <+: xs/\Jx pre W')
def Nd.bf:Nd->Nat
 |.leaf _ _ _=>126
 |.inner _ _ _ _ _=>134
theorem meth_bodies (n : Nd) (f : Nat) (v : Value) (w : World) : (method (f + 1) n.ty v "vellum/atoms.bodies").run Tryz.prog w = .ok (n.bf, v) w := by
 cases n
 ·exact (show (method (f + 1) 151 v "vellum/atoms.bodies").run Tryz.prog w = .ok (126, v) w by kernel_rfl)
 ·exact (show (method (f + 1) 158 v "vellum/atoms.bodies").run Tryz.prog w = .ok (134, v) w by kernel_rfl)
theorem bf_enters (n:Nd) (args:Array Value) (w:World):(callFunc n.bf args).run Tryz.prog w=.ok (.enter n.bf args) w:=by
 cases n
 ·exact enters_of Tryz.func126 (by kernel_rfl) rfl args w
 ·exact enters_of Tryz.func134 (by kernel_rfl) rfl args w
def encB (s:ByteArray):Array Value:=#[.string s]
theorem bodies_leaf (Bl:Nat) (c:Cn) (s:ByteArray):ItersB Tryz.prog 126 (fun y=>#[.pointer (some ⟨Bl,0,none⟩),y]) encB [s] (fun w=>(Nd.leaf Bl c s).In w):=by
 intro M l J Jx W hM hJ hJx hN hY hj
 have hl:=(hN _ _ hj).1
 have c9:W.cell? ⟨Bl,9,none⟩=some (.string s):=by rw[Lib.cell_of_heap hl];rfl
 have hbz:=Z4 hl
 obtain⟨fn,tmps,assign,body,hy,hR⟩:=hY [] s W hj (Nat.le_refl _) (by simp)
 refine (callsIn_wide (n:=9)).1 ?_
 refine callsIn_of_wp_marks Tryz.func126 rfl trivial ?_ rfl
 simp only[Tryz.ntmps126,List.size_toArray,List.length_cons,List.length_nil,Nat.reduceAdd,Nat.reduceSub,Array.replicate_succ,Array.replicate_zero,List.push_toArray,List.append_toArray,List.nil_append,List.cons_append]
 simp only[encB] at hy
 gi_wp2_with fail
 refine (roundIn_any none hR).mono ?_
 rintro e W3 (⟨rfl,hJ3,hk3⟩|⟨rfl,hJx3,hkx⟩)
 ·gi_wp2
  exact⟨.bool true,by simp [results,Tryz.results126,go_sem],.inl ⟨rfl,hJ3,hk3.size⟩⟩
 ·gi_wp2
  exact⟨.bool false,by simp [results,Tryz.results126,go_sem],.inr ⟨rfl,_,List.prefix_refl _,hJx3⟩⟩
theorem bodies_inner (Bl:Nat) (c:Cn) (k:Nat) (n m:Nd) (xs ys:List ByteArray)
  (hn:ItersB Tryz.prog n.bf (fun y=>#[.pointer (some ⟨n.blk,0,none⟩),y]) encB xs (fun w=>n.In w))
  (hm:ItersB Tryz.prog m.bf (fun y=>#[.pointer (some ⟨m.blk,0,none⟩),y]) encB ys (fun w=>m.In w)) :
  ItersB Tryz.prog 134 (fun y=>#[.pointer (some ⟨Bl,0,none⟩),y]) encB (xs++ys) (fun w=>(Nd.inner Bl c k n m).In w):=by
 intro M l J Jx W hM hJ hJx hN hY hj
 have hl:=(hN _ _ hj).1
 obtain⟨p9,p10⟩:=inner_at hl
 have hbz:=Z4 hl.1
 have e1:=bf_enters n
 have e2:=bf_enters m
 have m1:=meth_bodies n 284
 have m2:=meth_bodies m 284
 have C1:=hn M l J Jx W hM hJ hJx (fun s A h=>⟨(hN s A h).1.2.1,(hN s A h).2⟩) (fun pre x W1 h1 h2 h3=>hY pre x W1 h1 h2 (h3.trans (List.prefix_append _ _))) hj
 refine (callsIn_wide (n:=9)).1 ?_
 refine callsIn_of_wp_marks Tryz.func134 rfl trivial ?_ rfl
 simp only[Tryz.ntmps134,List.size_toArray,List.length_cons,List.length_nil,Nat.reduceAdd,Nat.reduceSub,Array.replicate_succ,Array.replicate_zero,List.push_toArray,List.append_toArray,List.nil_append,List.cons_append]
 gi_wp2_with fail
 refine⟨trivial,(callsIn_wide.2 C1).mono ?_⟩
 rintro e W3 (⟨rfl,hj3,hs3⟩|⟨rfl,pre,hp,hx⟩)
 ·have hl3:=(hN _ _ hj3).1
  obtain⟨q9,q10⟩:=inner_at hl3
  have hbz3:=Z4 hl3.1
  have C2:=hm M l (fun s=>J (xs++s)) (fun s=>Jx (xs++s)) W3 (hM.of hs3) (fun s A B h st=>hJ _ _ _ h (st.mono hs3)) (fun s A B h st=>hJx _ _ _ h (st.mono hs3))
   (fun s A h=>⟨(hN _ A h).1.2.2,(hN _ A h).2⟩) (fun pre x W1 h1 h2 h3=>by
    have hq:=hY (xs++pre) x W1 h1 (Nat.le_trans hs3 h2) (by rw[List.append_assoc];obtain⟨t,ht⟩:=h3;exact⟨t,by rw[List.append_assoc,ht]⟩)
    obtain⟨fn,tmps,assign,body,hy,hR⟩:=hq
    refine⟨fn,tmps,assign,body,hy,hR.mono ?_⟩
    rintro e W' (⟨a1,a2,a3⟩|⟨a1,a2,a3⟩)
    ·exact .inl ⟨a1,by rw[<-List.append_assoc];exact a2,a3.mono hs3⟩
    ·exact .inr ⟨a1,by rw[<-List.append_assoc];exact a2,a3.mono hs3⟩) (by rw[List.append_nil];exact hj3)
  have HC2:=hide C2
  clear C2 C1 hY hJ hJx hN hn hm
  gi_wp2_with fail
  refine⟨trivial,(callsIn_wide.2 HC2.out).mono ?_⟩
  rintro e W4 (⟨rfl,hj4,hs4⟩|⟨rfl,pre,hp,hx⟩)
  ·have HS:=hide (Nat.le_trans hs3 hs4)
   have HJ:=hide hj4
   clear HC2 hj4 hj3 hs3 hs4 hl3 hl hj q9 q10 p9 p10 hM
   gi_wp2
   exact⟨.bool true,by simp [results,Tryz.results134,go_sem],.inl ⟨rfl,HJ.out,HS.out⟩⟩
  ·have HP:=hide (show xs++pre <+: xs++ys by obtain⟨t,ht⟩:=hp;exact⟨t,by rw[List.append_assoc,ht]⟩)
   have HX:=hide hx
   clear HC2 hx hp hj3 hs3 hl3 hl hj q9 q10 p9 p10 hM
   gi_wp2
   exact⟨.bool false,by simp [results,Tryz.results134,go_sem],.inr ⟨rfl,_,HP.out,HX.out⟩⟩
 ·have HP:=hide (show pre <+: xs++ys from hp.trans (List.prefix_append _ _))
  have HX:=hide hx
  clear C1 hY hJ hJx hN hn hm hx hp hl hj p9 p10 hM
  gi_wp2
  all_goals
   refine⟨fun _ _=>trivial,?_⟩
   gi_wp2
   exact⟨.bool false,by simp [results,Tryz.results134,go_sem],.inr ⟨rfl,_,HP.out,HX.out⟩⟩
theorem bodies_all:∀(n:Nd),ItersB Tryz.prog n.bf (fun y=>#[.pointer (some ⟨n.blk,0,none⟩),y]) encB (n.row.map (fun x=>x.2)) (fun w=>n.In w)
 |.leaf Bl c s=>bodies_leaf Bl c s
 |.inner Bl c k l r=>by
  have h:=bodies_inner Bl c k l r _ _ (bodies_all l) (bodies_all r)
  rw[<-List.map_append] at h
  exact h
end Go.Proofs.YtoejbngihecafabGreatDoor
namespace Go.Proofs.YtoejbngihecafabGreatDoor
open Go.RowKit Go.Shelf Go.Vit
attribute [local go_sem] Oper.semAt_some
theorem tbodies_any (t:Option Nd) (w:World) :
  Calls Tryz.prog 52 #[.agg #[trv t]] w fun e w'=>e=.returned (.func (.func 72) #[] #[.pointer (some ⟨w.heap.size,0,none⟩)])/\w'=w.alloc (.cells #[trv t] 51):=by
 generalize trv t=v
 go_enter Tryz.func52,Tryz.ntmps52
 go_wp2
 go_ret
 exact⟨rfl,rfl⟩
theorem bodies1_some (n:Nd) (Bt:Nat):Iters Tryz.prog 72 #[.pointer (some ⟨Bt,0,none⟩)] encB (n.row.map (fun x=>x.2))
  (fun w=>w.cell? ⟨Bt,0,none⟩=some (.iface n.ty (.pointer (some ⟨n.blk,0,none⟩)))/\n.In w):=by
 intro M l J Jx W hM hJ hJx hN hY hj
 obtain⟨ct,_⟩:=(hN _ _ hj).1
 have hbz:=Z3 ct
 have e1:=bf_enters n
 have m1:=meth_bodies n 284
 have C1:=bodies_all n M l J Jx W hM hJ hJx (fun s A h=>⟨(hN s A h).1.2,(hN s A h).2⟩) hY hj
 have HC:=hide C1
 clear C1 hY hN hJ hJx hj hM
 refine (callsIn_wide (n:=9)).1 ?_
 refine callsIn_of_wp_marks Tryz.func72 rfl trivial ?_ rfl
 simp only[Tryz.ntmps72,List.size_toArray,List.length_cons,List.length_nil,Nat.reduceAdd,Nat.reduceSub,Array.replicate_succ,Array.replicate_zero,List.push_toArray,List.append_toArray,List.nil_append,List.cons_append]
 gi_wp2_with fail
 refine⟨trivial,(callsIn_wide.2 HC.out).mono ?_⟩
 rintro e W3 (⟨rfl,hj3,hs3⟩|⟨rfl,pre,hp,hx⟩)
 ·have HJ:=hide hj3
  clear HC hj3
  gi_wp2
  exact⟨_,results_none rfl _ _ _,⟨_,rfl⟩,.inl HJ.out⟩
 ·have HX:=hide (show ∃pre,pre <+: n.row.map (fun x=>x.2)/\Jx pre W3 from ⟨pre,hp,hx⟩)
  clear HC hp hx
  gi_wp2
  exact⟨_,results_none rfl _ _ _,⟨_,rfl⟩,.inr HX.out⟩
theorem bodies1_none (Bt:Nat):Iters Tryz.prog 72 #[.pointer (some ⟨Bt,0,none⟩)] encB []
  (fun w=>w.cell? ⟨Bt,0,none⟩=some .nilIface):=by
 intro M l J Jx W hM hJ hJx hN hY hj
 have ct:=(hN _ _ hj).1
 have hbz:=Z3 ct
 have HJ:=hide hj
 clear hY hN hJ hJx hj hM
 refine (callsIn_wide (n:=9)).1 ?_
 refine callsIn_of_wp_marks Tryz.func72 rfl trivial ?_ rfl
 simp only[Tryz.ntmps72,List.size_toArray,List.length_cons,List.length_nil,Nat.reduceAdd,Nat.reduceSub,Array.replicate_succ,Array.replicate_zero,List.push_toArray,List.append_toArray,List.nil_append,List.cons_append]
 gi_wp2
 exact⟨_,results_none rfl _ _ _,⟨_,rfl⟩,.inl HJ.out⟩
theorem bodies1_it (t:Option Nd) (R:List (Cn × ByteArray)) (Bt:Nat) (h1:∀n,t=some n->n.row=R) (h2:t=none->R=[]) :
  Iters Tryz.prog 72 #[.pointer (some ⟨Bt,0,none⟩)] encB (R.map (fun x=>x.2)) (fun w=>w.cell? ⟨Bt,0,none⟩=some (trv t)/\∀n,t=some n->n.In w):=by
 cases t with
 |none =>
  have:=h2 rfl
  subst this
  intro M l J Jx W hM hJ hJx hN hY hj
  exact bodies1_none Bt M l J Jx W hM hJ hJx (fun s A h=>⟨(hN s A h).1.1,(hN s A h).2⟩) hY hj
 |some n =>
  have:=h1 n rfl
  subst this
  intro M l J Jx W hM hJ hJx hN hY hj
  exact bodies1_some n Bt M l J Jx W hM hJ hJx (fun s A h=>⟨⟨(hN s A h).1.1,(hN s A h).1.2 n rfl⟩,(hN s A h).2⟩) hY hj
end Go.Proofs.YtoejbngihecafabGreatDoor
