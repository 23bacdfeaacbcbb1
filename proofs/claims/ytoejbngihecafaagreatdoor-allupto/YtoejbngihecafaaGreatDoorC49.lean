import Derived.Test.YtoejbngihecafaaGreatDoorC48
import Derived.Test.YtoejbngihecafaaGreatDoorC0
set_option maxRecDepth 100000
set_option maxHeartbeats 1000000
open Go.Proofs.Tryz
namespace Go.Proofs.YtoejbngihecafaaGreatDoor
open Go.RowKit
variable {B:Nat} {w:World}
def Gs (w0:World) (g M N:Nat) (w:World):Prop :=
 ∃own vd vl vs vt Ds Ls Ss,Gm w0.heap.size w own g vd vl vs vt M Ds Ls Ss (Ss.map Prod.snd)/\0<Ds.length/\Ds.length<=N/\Ls.length<=N/\Ss.length<=N/\Below w0.heap.size w0 w
theorem Gm.set1 {own:Nat->Nat × Nat} {g M:Nat} {vd vl vs vt:Value} {Ds:List (Nat × St)} {Ls:List (Nat × Int × ByteArray)} {Ss:List (Nat × ByteArray)} {Ts:List ByteArray} (h:Gm B w own g vd vl vs vt M Ds Ls Ss Ts):Gm B (w.setCell ⟨g,1,none⟩ vl) (lab own w.heap.size (3,0)) g vd vl vs vt M Ds Ls Ss Ts:=by
 have ht:Turn (fun i=>i=g) (fun i=>i=g) w (w.setCell ⟨g,1,none⟩ vl):=Turn.of_tn ((Tn.refl _ _).setCell _);have tg:tyAt w g=some 52:=by unfold tyAt;rw[h.blk]
 obtain⟨md,ml,ms⟩:=h.mine ht (fun i e=>by subst e;exact h.nd) (fun i e=>by subst e;exact h.og)
 have kp:∀{t:TypeId} {i:Nat},t≠52->i<w.heap.size->tyAt w i=some t->(w.setCell ⟨g,1,none⟩ vl).heap[i]?=w.heap[i]?:=fun {t i} h1 h3 h4=>ht.keep i h3 (fun e=>by
  subst e
  rw[tg] at h4;exact h1 (Option.some.inj h4).symm)
 refine⟨?_,h.gB,h.rd.keep (fun i hi=>kp (by decide) (h.rd.lt hi).2.1 (h.rd.lt hi).2.2),h.rl.keep (fun i hi=>kp (by decide) (h.rl.lt hi).2.1 (h.rl.lt hi).2.2),h.rs.keep (fun i hi=>kp (by decide) (h.rs.lt hi).2.1 (h.rs.lt hi).2.2),h.rt.keep (fun i hi=>kp (by decide) (h.rt.lt hi).2.1 (h.rt.lt hi).2.2),
  (Qaj h.glt).trans h.og,fun i hi=>(Qaj (h.rd.lt hi).2.1).trans (h.od i hi),fun i hi=>(Qaj (h.rl.lt hi).2.1).trans (h.ol i hi),fun i hi=>(Qaj (h.rs.lt hi).2.1).trans (h.os i hi),fun i hi=>(Qaj (h.rt.lt hi).2.1).trans (h.ot i hi),md,ml,ms⟩
 show (w.heap.modify g _)[g]?=_;rw[Array.getElem?_modify,if_pos rfl,h.blk];rfl
theorem Qea {n:Nat} {t:TypeId} {v:Value} {xs:List Value} (h:w.ownsRow B t 1 v n xs):∃q cap,v=.slice q n cap:=by
 rcases h.2 with ⟨x,y⟩|⟨g,c,cur,x,_⟩
 ·exact⟨none,0,by rw[x,y]⟩
 exact⟨_,_,x⟩
theorem Qnb (w0:World) (g M N:Nat) (kind a b c:Int) (S:ByteArray) (w:World) (ht:TabA w0) (h:Gs w0 g M N w) (hM:M+9 * S.size<=1000000000) (hN:N<=1000000000) (hc:-9223372036854775808<=c/\c<=9223372036854775807) (k9:(kind==9)=false) (k10:(kind==10)=false) (k11:(kind==11)=false) (k12:(kind==12)=false) (k13:(kind==13)=false) :
  Calls prog 20 #[.pointer (some ⟨g,0,none⟩),.agg #[.int .i64 kind,.int .i64 a,.int .i64 b,.int .i64 c,.string S]] w fun e w'=>e=.returned (.bool true)/\Gs w0 g (M+8 * S.size) (N+1) w':=by
 obtain⟨own,vd,vl,vs,vt,Ds,Ls,Ss,hG,hD,l1,l2,l3,hb0⟩:=h
 obtain⟨qd,cd,rfl⟩:=hG.rd.val
 obtain⟨ql,cl,rfl⟩:=hG.rl.val
 rw[List.length_map,List.length_map] at hG
 have hpb:=Vm.QbY c Ds.length (by omega)
 obtain⟨j,hj⟩:∃j:Nat,Vm.pick c Ds.length=j:=⟨(Vm.pick c Ds.length).toNat,by omega⟩
 rw[hj] at hpb
 have hjl:j<Ds.length:=by omega
 have hjI:(j:Int)<(Ds.length:Int):=by omega
 obtain⟨x,s,hxs⟩:∃x s,Ds[j]?=some (x,s):=⟨Ds[j].1,Ds[j].2,List.getElem?_eq_getElem hjl⟩
 obtain⟨gd,rfl,hcg⟩:=hG.rd.at_ (j:=j) (u:=.pointer (some ⟨x,0,none⟩)) (by rw[List.getElem?_map,hxs];rfl)
 have PK:=Z2 (Qbe c Ds.length (w.alloc (.cells #[.int .i64 kind,.int .i64 a,.int .i64 b,.int .i64 c,.string S] 55)).drew hc.1 hc.2 (by omega) (by omega))
 rw[hj] at PK
 have hw1:Below w.heap.size w (w.alloc (.cells #[.int .i64 kind,.int .i64 a,.int .i64 b,.int .i64 c,.string S] 55)):=Z7 _ _
 have hC0:=Go.Deep.blk_alloc_new w (.cells #[.int .i64 kind,.int .i64 a,.int .i64 b,.int .i64 c,.string S] 55)
 have hg0:=(hw1.block g hG.glt).trans hG.blk
 have hcg0:=(hw1.cell (p:=⟨gd,j,none⟩) (Z3 hcg)).trans hcg
 have g0:=C0 hg0
 have g1:=C1 hg0
 have o0:=C0 hC0
 have o1:=C1 hC0
 have o2:=C2 hC0
 have o3:=C3 hC0
 have o4:=C4 hC0
 have z1:=Z3 g0
 have z2:=Z3 o0
 have z3:=Z3 hcg0
 have HG:=Z2 hG
 have HBW:=Z2 (show Below w.heap.size w (w.alloc (.cells #[.int .i64 kind,.int .i64 a,.int .i64 b,.int .i64 c,.string S] 55)).drew from hw1.drew)
 have HC0:=Z2 hC0
 have HT:=Z2 ht
 have HB0:=Z2 hb0
 have HXS:=Z2 hxs
 have hmo:prog.follows Departure.mixedOrders=true:=by kernel_rfl
 clear hC0 hg0 hw1 hcg hG ht hb0 hxs hj
 go_enter func20,ntmps20
 go_wp2_with fail
 generalize w.alloc (.cells #[.int .i64 kind,.int .i64 a,.int .i64 b,.int .i64 c,.string S] 55)=W0 at *
 refine wp_region_still_tail 14 hmo (by kernel_rfl) ?_
 simp only[List.take_succ_cons,List.take_zero,List.drop_succ_cons,List.drop_zero]
 repeat still_step
 still_call PK.o
 repeat still_step
 refine wpStill_nil ?_
 obtain⟨K,hx,hgs,hKo⟩:=HG.o.dd j x s HXS.o
 have hb0:=HB0.o.trans (HBW.o.mono HB0.o.size)
 have P:=Z2 (Qnv w0.heap.size x s K M ⟨kind,a,b,c,S⟩ W0.drew (HT.o.below hb0) (hx.low HBW.o) hgs (by show M+S.size<=_;omega))
 unfold Opr.val at P
 simp only at P
 have HX:=Z2 hx
 have HKO:=Z2 hKo
 clear hx hKo PK hcg0 g0 g1
 go_wp2_with fail
 refine P.o.mono ?_
 rintro e w2 ⟨rfl,s',K',hx',hg',t'⟩
 have HF:=Z2 (show Gs w0 g (M+8 * S.size) (N+1) w2 from ⟨_,_,_,vs,vt,Ds.set j (x,s'),Ls,Ss,(HG.o.low HBW.o (3,0)).doc HXS.o (HX.o.low HBW.o) (fun i hi=>by rw[Qaj (HX.o.ty hi).2.1];exact HKO.o i hi) hx' hg' (by omega) t',by rw[List.length_set];exact hD,by rw[List.length_set];omega,by omega,by omega,t'.below hb0 (fun i hi=>(HX.o.ty hi).1)⟩)
 clear P hx' hg' t' HX HKO HG HBW HC0 hb0 o0 o1 o2 o3 o4 z1 z2 z3
 go_wp2_with fail
 go_ret
 exact⟨rfl,HF.o⟩
theorem QkK (w0:World) (g M N:Nat) (a b c:Int) (S:ByteArray) (w:World) (ht:TabA w0) (h:Gs w0 g M N w) (hN:N<=1000000000) (hc:-9223372036854775808<=c/\c<=9223372036854775807) (hm:a<0\/7<a) :
  Calls prog 20 #[.pointer (some ⟨g,0,none⟩),.agg #[.int .i64 9,.int .i64 a,.int .i64 b,.int .i64 c,.string S]] w fun e w'=>e=.returned (.bool true)/\Gs w0 g (M+8 * S.size) (N+1) w':=by
 obtain⟨own,vd,vl,vs,vt,Ds,Ls,Ss,hG,hD,l1,l2,l3,hb0⟩:=h
 obtain⟨qd,cd,rfl⟩:=hG.rd.val
 obtain⟨ql,cl,rfl⟩:=hG.rl.val
 rw[List.length_map,List.length_map] at hG
 have hpb:=Vm.QbY c Ds.length (by omega)
 obtain⟨j,hj⟩:∃j:Nat,Vm.pick c Ds.length=j:=⟨(Vm.pick c Ds.length).toNat,by omega⟩
 rw[hj] at hpb
 have hjl:j<Ds.length:=by omega
 have hjI:(j:Int)<(Ds.length:Int):=by omega
 obtain⟨x,s,hxs⟩:∃x s,Ds[j]?=some (x,s):=⟨Ds[j].1,Ds[j].2,List.getElem?_eq_getElem hjl⟩
 obtain⟨gd,rfl,hcg⟩:=hG.rd.at_ (j:=j) (u:=.pointer (some ⟨x,0,none⟩)) (by rw[List.getElem?_map,hxs];rfl)
 have PK:=Z2 (Qbe c Ds.length (w.alloc (.cells #[.int .i64 9,.int .i64 a,.int .i64 b,.int .i64 c,.string S] 55)).drew hc.1 hc.2 (by omega) (by omega))
 rw[hj] at PK
 have hw1:Below w.heap.size w (w.alloc (.cells #[.int .i64 9,.int .i64 a,.int .i64 b,.int .i64 c,.string S] 55)):=Z7 _ _
 have hC0:=Go.Deep.blk_alloc_new w (.cells #[.int .i64 9,.int .i64 a,.int .i64 b,.int .i64 c,.string S] 55)
 have hg0:=(hw1.block g hG.glt).trans hG.blk
 have hcg0:=(hw1.cell (p:=⟨gd,j,none⟩) (Z3 hcg)).trans hcg
 have g0:=C0 hg0
 have g1:=C1 hg0
 have o0:=C0 hC0
 have o1:=C1 hC0
 have o2:=C2 hC0
 have o3:=C3 hC0
 have o4:=C4 hC0
 have z1:=Z3 g0
 have z2:=Z3 o0
 have z3:=Z3 hcg0
 have HG:=Z2 hG
 have HBW:=Z2 (show Below w.heap.size w (w.alloc (.cells #[.int .i64 9,.int .i64 a,.int .i64 b,.int .i64 c,.string S] 55)).drew from hw1.drew)
 have HC0:=Z2 hC0
 have HT:=Z2 ht
 have HB0:=Z2 hb0
 have HXS:=Z2 hxs
 have hmo:prog.follows Departure.mixedOrders=true:=by kernel_rfl
 clear hC0 hg0 hw1 hcg hG ht hb0 hxs hj
 go_enter func20,ntmps20
 go_wp2_with fail
 generalize w.alloc (.cells #[.int .i64 9,.int .i64 a,.int .i64 b,.int .i64 c,.string S] 55)=W0 at *
 refine wp_region_still_tail 14 hmo (by kernel_rfl) ?_
 simp only[List.take_succ_cons,List.take_zero,List.drop_succ_cons,List.drop_zero]
 repeat still_step
 still_call PK.o
 repeat still_step
 refine wpStill_nil ?_
 have hb0:=HB0.o.trans (HBW.o.mono HB0.o.size)
 have P:=Z2 (QlV api S a W0.drew (HT.o.below hb0).tw.tabs hm)
 clear PK hcg0 g0 g1 hm
 go_wp2_with fail
 refine P.o.mono ?_
 rintro e w2 ⟨q,rfl,c0,hb2⟩
 have hb2r:=HBW.o.trans (hb2.mono HBW.o.size)
 have HF:=Z2 (show Gs w0 g (M+8 * S.size) (N+1) w2 from ⟨_,_,_,vs,vt,Ds,Ls,Ss,(HG.o.low hb2r (3,0)).mono (by omega),hD,by omega,by omega,by omega,hb0.trans (hb2.mono hb0.size)⟩)
 have hz:=Z3 c0
 clear P hb2 hb2r hb0 HG HBW HC0 o0 o1 o2 o3 o4 z1 z2 z3
 go_wp2_with fail
 go_ret
 exact⟨rfl,HF.o⟩
theorem QoL (w0:World) (g M N:Nat) (a b c:Int) (S:ByteArray) (w:World) (ht:TabA w0) (h:Gs w0 g M N w) (hM:M+9 * S.size<=1000000000) (hN:N<=1000000000) (hc:-9223372036854775808<=c/\c<=9223372036854775807) (h0:0<=a) (h7:a<=7) :
  Calls prog 20 #[.pointer (some ⟨g,0,none⟩),.agg #[.int .i64 9,.int .i64 a,.int .i64 b,.int .i64 c,.string S]] w fun e w'=>e=.returned (.bool true)/\Gs w0 g (M+8 * S.size) (N+1) w':=by
 obtain⟨own,vd,vl,vs,vt,Ds,Ls,Ss,hG,hD,l1,l2,l3,hb0⟩:=h
 obtain⟨qd,cd,rfl⟩:=hG.rd.val
 obtain⟨ql,cl,rfl⟩:=hG.rl.val
 rw[List.length_map,List.length_map] at hG
 have hpb:=Vm.QbY c Ds.length (by omega)
 obtain⟨j,hj⟩:∃j:Nat,Vm.pick c Ds.length=j:=⟨(Vm.pick c Ds.length).toNat,by omega⟩
 rw[hj] at hpb
 have hjl:j<Ds.length:=by omega
 have hjI:(j:Int)<(Ds.length:Int):=by omega
 obtain⟨x,s,hxs⟩:∃x s,Ds[j]?=some (x,s):=⟨Ds[j].1,Ds[j].2,List.getElem?_eq_getElem hjl⟩
 obtain⟨gd,rfl,hcg⟩:=hG.rd.at_ (j:=j) (u:=.pointer (some ⟨x,0,none⟩)) (by rw[List.getElem?_map,hxs];rfl)
 have PK:=Z2 (Qbe c Ds.length (w.alloc (.cells #[.int .i64 9,.int .i64 a,.int .i64 b,.int .i64 c,.string S] 55)).drew hc.1 hc.2 (by omega) (by omega))
 rw[hj] at PK
 have hw1:Below w.heap.size w (w.alloc (.cells #[.int .i64 9,.int .i64 a,.int .i64 b,.int .i64 c,.string S] 55)):=Z7 _ _
 have hC0:=Go.Deep.blk_alloc_new w (.cells #[.int .i64 9,.int .i64 a,.int .i64 b,.int .i64 c,.string S] 55)
 have hg0:=(hw1.block g hG.glt).trans hG.blk
 have hcg0:=(hw1.cell (p:=⟨gd,j,none⟩) (Z3 hcg)).trans hcg
 have g0:=C0 hg0
 have g1:=C1 hg0
 have o0:=C0 hC0
 have o1:=C1 hC0
 have o2:=C2 hC0
 have o3:=C3 hC0
 have o4:=C4 hC0
 have z1:=Z3 g0
 have z2:=Z3 o0
 have z3:=Z3 hcg0
 have HG:=Z2 hG
 have HBW:=Z2 (show Below w.heap.size w (w.alloc (.cells #[.int .i64 9,.int .i64 a,.int .i64 b,.int .i64 c,.string S] 55)).drew from hw1.drew)
 have HC0:=Z2 hC0
 have HT:=Z2 ht
 have HB0:=Z2 hb0
 have HXS:=Z2 hxs
 have hmo:prog.follows Departure.mixedOrders=true:=by kernel_rfl
 obtain⟨d0,d1⟩:=Option.isSome_iff_exists.1 (show (prog.info? 33).isSome=true by kernel_rfl)
 have d2:d0.zero=some (.pointer none):=by
  have h1:(prog.info? 33).bind (fun x=>x.zero)=some (.pointer none):=by kernel_rfl
  rwa [d1] at h1
 have d3:d0.size=1:=by
  have h1:(prog.info? 33).map (fun x=>x.size)=some 1:=by kernel_rfl
  rw[d1] at h1;simpa using h1
 have d4:d0.bytes=8:=by
  have h1:(prog.info? 33).map (fun x=>x.bytes)=some 8:=by kernel_rfl
  rw[d1] at h1;simpa using h1
 clear hC0 hg0 hw1 hcg hG ht hb0 hxs hj
 go_enter func20,ntmps20
 go_wp2_with fail
 generalize w.alloc (.cells #[.int .i64 9,.int .i64 a,.int .i64 b,.int .i64 c,.string S] 55)=W0 at *
 refine wp_region_still_tail 14 hmo (by kernel_rfl) ?_
 simp only[List.take_succ_cons,List.take_zero,List.drop_succ_cons,List.drop_zero]
 repeat still_step
 still_call PK.o
 repeat still_step
 refine wpStill_nil ?_
 have hb0:=HB0.o.trans (HBW.o.mono HB0.o.size)
 have P:=Z2 (loadedX w0.heap.size S a W0.drew (HT.o.below hb0).tw.tabs (by omega) h0 h7 hb0.size)
 have HGD:=Z2 ((Qe2 (b:=S) (Qb3 S a).1 (Qb3 S a).2).mono (show S.size<=M+8 * S.size by omega))
 clear PK hcg0 g0 g1
 go_wp2_with fail
 refine P.o.mono ?_
 rintro e w2 ⟨x2,K2,rfl,hx2,hK2,hb2⟩
 have hb2r:=HBW.o.trans (hb2.mono HBW.o.size)
 have hb02:=hb0.trans (hb2.mono hb0.size)
 have hG2:=HG.o.low hb2r (0,Ds.length)
 obtain⟨p2,c0⟩:∃p,w2.cell? ⟨x2,0,none⟩=some (.pointer (some ⟨p,0,none⟩)):=by
  obtain⟨p,r,F,G,k1,_⟩:=hx2;exact⟨p,by rw[Lib.cell_of_heap k1];rfl⟩
 have g0:=C0 hG2.blk
 have z4:=Z3 c0
 have z5:=Z3 g0
 have hba:Below w2.heap.size w2 (w2.alloc (.cells #[.pointer (some ⟨x2,0,none⟩)] 33)):=Z7 _ _
 have HK2:=Z2 (show ∀i,K2 i->lab own w.heap.size (0,Ds.length) i=(0,Ds.length) from fun i hi=>Qce (Nat.le_trans HBW.o.size (hK2 i hi)))
 have hx3:=hG2.rd.keep (fun i hi=>(hba.block i (hG2.rd.lt hi).2.1))
 have hown3:(w2.alloc (.cells #[.pointer (some ⟨x2,0,none⟩)] 33)).ownsRow w0.heap.size 33 1 (.slice (some ⟨gd,0,none⟩) Ds.length cd) Ds.length (Ds.map fun x=>ptr x.1):=by
  have h:=hx3;unfold Rw at h;rw[List.length_map] at h;exact h
 have hbs:w0.heap.size<=w2.heap.size:=hb02.size
 have HG2:=Z2 hG2
 have HX2:=Z2 hx2
 have HBA:=Z2 hba
 have HB02:=Z2 hb02
 clear P hb2 hb2r hb0 hb02 hG2 hx2 hK2 hba hx3 HG HBW HC0 o0 o1 o2 o3 o4 z1 z2 z3
 go_wp2_with (at_builtin;refine wpList_append_own_at _ rfl _ _ 30 rfl w0.heap.size 33 d0 (.pointer none) 1 8 underlying30 d1 d2 d3 d4 rfl (by decide) (.slice (some ⟨gd,0,none⟩) Ds.length cd) Ds.length (Ds.map fun x=>ptr x.1) rfl hown3 ⟨w2.heap.size,0,none⟩ 1 1 [.pointer (some ⟨x2,0,none⟩)] rfl rfl (Qcp w2 [.pointer (some ⟨x2,0,none⟩)] 33) ?h1 ?h63 ?hby ?hbase ?_)
 case h1=>simp [Value.oneCell']
 try case h63=>unfold maxLen;omega
 try case hby=>omega
 try case hbase=>first|omega|(simp;omega)
 intro v6 w6 hown6 hgr _ hat6
 obtain⟨q6,c6,rfl⟩:=Qea hown6
 have hg6:w6.heap[g]?=some (.cells #[.slice (some ⟨gd,0,none⟩) Ds.length cd,.slice ql Ls.length cl,vs,vt] 52):=by
  rw[hgr.block g (by rw[World.size_alloc];have:=HG2.o.glt;omega) (fun e=>?_),HBA.o.block g HG2.o.glt,HG2.o.blk];have h1:=(HG2.o.rd.lt e.symm).2.2;unfold tyAt at h1;rw[HG2.o.blk] at h1;exact absurd (Option.some.inj h1) (by decide)
 have hat7:(Value.slice q6 (Ds.length+1) c6).ownBlock=(Value.slice (some ⟨gd,0,none⟩) Ds.length cd).ownBlock\/(Value.slice q6 (Ds.length+1) c6).ownBlock=some (w2.alloc (.cells #[.pointer (some ⟨x2,0,none⟩)] 33)).heap.size:=by rw[World.size_alloc];exact hat6
 have f0:=C0 hg6
 have ff:=fun j=>Lib.frozen_of_heap hg6 j
 have z6:=Z3 f0
 have hF:=(HG2.o.mono (show M<=M+8 * S.size by omega)).appD HX2.o HK2.o HGD.o HBA.o (by rw[List.length_map];exact hown6) hgr hat7
 have HF:=Z2 (show Gs w0 g (M+8 * S.size) (N+1) (w6.setCell ⟨g,0,none⟩ (.slice q6 (Ds.length+1) c6)) from ⟨_,_,_,vs,vt,_,Ls,Ss,hF,by rw[List.length_append];show 0<Ds.length+1;omega,by rw[List.length_append];show Ds.length+1<=N+1;omega,by omega,by omega,(QbP HBA.o hgr hat7).below HB02.o (fun i hi=>by
  rcases hi with rfl|e
  ·exact HG2.o.gB
  exact (HG2.o.rd.lt e).1)⟩)
 clear hown3 hown6 hgr hat6 hat7 hg6 hF HG2 HX2 HK2 HGD HBA HB02
 go_wp2_with fail
 go_ret
 exact⟨rfl,HF.o⟩
theorem Qio (w0:World) (g M N:Nat) (a b c:Int) (S:ByteArray) (w:World) (ht:TabA w0) (h:Gs w0 g M N w) (hN:N<=1000000000) (hc:-9223372036854775808<=c/\c<=9223372036854775807) (hm:a<0\/7<a) :
  Calls prog 20 #[.pointer (some ⟨g,0,none⟩),.agg #[.int .i64 11,.int .i64 a,.int .i64 b,.int .i64 c,.string S]] w fun e w'=>e=.returned (.bool true)/\Gs w0 g (M+8 * S.size) (N+1) w':=by
 obtain⟨own,vd,vl,vs,vt,Ds,Ls,Ss,hG,hD,l1,l2,l3,hb0⟩:=h
 obtain⟨qd,cd,rfl⟩:=hG.rd.val
 obtain⟨ql,cl,rfl⟩:=hG.rl.val
 rw[List.length_map,List.length_map] at hG
 have hpb:=Vm.QbY c Ds.length (by omega)
 obtain⟨j,hj⟩:∃j:Nat,Vm.pick c Ds.length=j:=⟨(Vm.pick c Ds.length).toNat,by omega⟩
 rw[hj] at hpb
 have hjl:j<Ds.length:=by omega
 have hjI:(j:Int)<(Ds.length:Int):=by omega
 obtain⟨x,s,hxs⟩:∃x s,Ds[j]?=some (x,s):=⟨Ds[j].1,Ds[j].2,List.getElem?_eq_getElem hjl⟩
 obtain⟨gd,rfl,hcg⟩:=hG.rd.at_ (j:=j) (u:=.pointer (some ⟨x,0,none⟩)) (by rw[List.getElem?_map,hxs];rfl)
 have PK:=Z2 (Qbe c Ds.length (w.alloc (.cells #[.int .i64 11,.int .i64 a,.int .i64 b,.int .i64 c,.string S] 55)).drew hc.1 hc.2 (by omega) (by omega))
 rw[hj] at PK
 have hw1:Below w.heap.size w (w.alloc (.cells #[.int .i64 11,.int .i64 a,.int .i64 b,.int .i64 c,.string S] 55)):=Z7 _ _
 have hC0:=Go.Deep.blk_alloc_new w (.cells #[.int .i64 11,.int .i64 a,.int .i64 b,.int .i64 c,.string S] 55)
 have hg0:=(hw1.block g hG.glt).trans hG.blk
 have hcg0:=(hw1.cell (p:=⟨gd,j,none⟩) (Z3 hcg)).trans hcg
 have g0:=C0 hg0
 have g1:=C1 hg0
 have o0:=C0 hC0
 have o1:=C1 hC0
 have o2:=C2 hC0
 have o3:=C3 hC0
 have o4:=C4 hC0
 have z1:=Z3 g0
 have z2:=Z3 o0
 have z3:=Z3 hcg0
 have HG:=Z2 hG
 have HBW:=Z2 (show Below w.heap.size w (w.alloc (.cells #[.int .i64 11,.int .i64 a,.int .i64 b,.int .i64 c,.string S] 55)).drew from hw1.drew)
 have HC0:=Z2 hC0
 have HT:=Z2 ht
 have HB0:=Z2 hb0
 have HXS:=Z2 hxs
 have hmo:prog.follows Departure.mixedOrders=true:=by kernel_rfl
 clear hC0 hg0 hw1 hcg hG ht hb0 hxs hj
 go_enter func20,ntmps20
 go_wp2_with fail
 generalize w.alloc (.cells #[.int .i64 11,.int .i64 a,.int .i64 b,.int .i64 c,.string S] 55)=W0 at *
 refine wp_region_still_tail 14 hmo (by kernel_rfl) ?_
 simp only[List.take_succ_cons,List.take_zero,List.drop_succ_cons,List.drop_zero]
 repeat still_step
 still_call PK.o
 repeat still_step
 refine wpStill_nil ?_
 have hbw:Below w.heap.size w W0.drew.drew:=HBW.o.drew
 have hb0:=HB0.o.trans (hbw.mono HB0.o.size)
 have HBV:=Z2 hbw
 clear hbw
 have P:=Z2 (QhI ql Ls.length cl a b c S W0.drew.drew hm)
 clear PK hcg0 g0 hm
 go_wp2_with fail
 go_region_with (first|(go_at_call 51;refine P.o.mono ?_;rintro e w2 ⟨rfl,hb2⟩)|fail)
 all_goals
  have hb2r:=HBV.o.trans (hb2.mono HBV.o.size);have hG2:=HG.o.low hb2r (3,0);have g1:=C1 hG2.blk;have ff:=fun j=>Lib.frozen_of_heap hG2.blk j;have z4:=Z3 g1;have HF:=Z2 (show Gs w0 g (M+8 * S.size) (N+1) (w2.setCell ⟨g,1,none⟩ (.slice ql Ls.length cl)) from ⟨_,_,_,vs,vt,Ds,Ls,Ss,hG2.set1.mono (by omega),hD,by omega,by omega,by omega,QbK (hb0.trans (hb2.mono hb0.size)) hG2.gB ((Tn.refl _ _).setCell _)⟩);clear P hb2 hb2r hb0 hG2 HG HBW HC0 HBV o0 o1 o2 o3 o4 z1 z2 z3;go_wp2_with fail;go_ret;exact⟨rfl,HF.o⟩
theorem Qm7 (w0:World) (g M N:Nat) (a b c:Int) (S:ByteArray) (w:World) (ht:TabA w0) (h:Gs w0 g M N w) (hN:N<=1000000000) (hc:-9223372036854775808<=c/\c<=9223372036854775807) (h0:0<=a) (h7:a<=7) :
  Calls prog 20 #[.pointer (some ⟨g,0,none⟩),.agg #[.int .i64 11,.int .i64 a,.int .i64 b,.int .i64 c,.string S]] w fun e w'=>e=.returned (.bool true)/\Gs w0 g (M+8 * S.size) (N+1) w':=by
 obtain⟨own,vd,vl,vs,vt,Ds,Ls,Ss,hG,hD,l1,l2,l3,hb0⟩:=h
 obtain⟨qd,cd,rfl⟩:=hG.rd.val
 obtain⟨ql,cl,rfl⟩:=hG.rl.val
 rw[List.length_map,List.length_map] at hG
 have hpb:=Vm.QbY c Ds.length (by omega)
 obtain⟨j,hj⟩:∃j:Nat,Vm.pick c Ds.length=j:=⟨(Vm.pick c Ds.length).toNat,by omega⟩
 rw[hj] at hpb
 have hjl:j<Ds.length:=by omega
 have hjI:(j:Int)<(Ds.length:Int):=by omega
 obtain⟨x,s,hxs⟩:∃x s,Ds[j]?=some (x,s):=⟨Ds[j].1,Ds[j].2,List.getElem?_eq_getElem hjl⟩
 obtain⟨gd,rfl,hcg⟩:=hG.rd.at_ (j:=j) (u:=.pointer (some ⟨x,0,none⟩)) (by rw[List.getElem?_map,hxs];rfl)
 have PK:=Z2 (Qbe c Ds.length (w.alloc (.cells #[.int .i64 11,.int .i64 a,.int .i64 b,.int .i64 c,.string S] 55)).drew hc.1 hc.2 (by omega) (by omega))
 rw[hj] at PK
 have hw1:Below w.heap.size w (w.alloc (.cells #[.int .i64 11,.int .i64 a,.int .i64 b,.int .i64 c,.string S] 55)):=Z7 _ _
 have hC0:=Go.Deep.blk_alloc_new w (.cells #[.int .i64 11,.int .i64 a,.int .i64 b,.int .i64 c,.string S] 55)
 have hg0:=(hw1.block g hG.glt).trans hG.blk
 have hcg0:=(hw1.cell (p:=⟨gd,j,none⟩) (Z3 hcg)).trans hcg
 have g0:=C0 hg0
 have g1:=C1 hg0
 have o0:=C0 hC0
 have o1:=C1 hC0
 have o2:=C2 hC0
 have o3:=C3 hC0
 have o4:=C4 hC0
 have z1:=Z3 g0
 have z2:=Z3 o0
 have z3:=Z3 hcg0
 have HG:=Z2 hG
 have HBW:=Z2 (show Below w.heap.size w (w.alloc (.cells #[.int .i64 11,.int .i64 a,.int .i64 b,.int .i64 c,.string S] 55)).drew from hw1.drew)
 have HC0:=Z2 hC0
 have HT:=Z2 ht
 have HB0:=Z2 hb0
 have HXS:=Z2 hxs
 have hmo:prog.follows Departure.mixedOrders=true:=by kernel_rfl
 clear hC0 hg0 hw1 hcg hG ht hb0 hxs hj
 go_enter func20,ntmps20
 go_wp2_with fail
 generalize w.alloc (.cells #[.int .i64 11,.int .i64 a,.int .i64 b,.int .i64 c,.string S] 55)=W0 at *
 refine wp_region_still_tail 14 hmo (by kernel_rfl) ?_
 simp only[List.take_succ_cons,List.take_zero,List.drop_succ_cons,List.drop_zero]
 repeat still_step
 still_call PK.o
 repeat still_step
 refine wpStill_nil ?_
 have hbw:Below w.heap.size w W0.drew.drew:=HBW.o.drew
 have hb0:=HB0.o.trans (hbw.mono HB0.o.size)
 have HBV:=Z2 hbw
 clear hbw
 have P0:=Qlh w0.heap.size ql cl (Ls.map fun x=>ptr x.1) a b c S W0.drew.drew (by rw[List.length_map];exact (HG.o.low HBV.o (3,0)).rl) h0 h7 hb0.size (by rw[List.length_map];omega)
 rw[List.length_map] at P0
 have P:=Z2 P0
 clear PK hcg0 g0 P0
 go_wp2_with fail
 go_region_with (first|(go_at_call 51;refine P.o.mono ?_;rintro e w2 ⟨v',y,K2,w1,rfl,hb1,hy,hK2,hown,hgr,hat⟩)|fail)
 all_goals
  obtain⟨q6,c6,rfl⟩:=Qea hown;have hb1r:=HBV.o.trans (hb1.mono HBV.o.size);have hG1:=HG.o.low hb1r (1,Ls.length)
  have hg2:w2.heap[g]?=some (.cells #[.slice (some ⟨gd,0,none⟩) Ds.length cd,.slice ql Ls.length cl,vs,vt] 52):=by
   rw[hgr.block g hG1.glt (fun e=>?_),hG1.blk];have h1:=(hG1.rl.lt e.symm).2.2;unfold tyAt at h1;rw[hG1.blk] at h1;exact absurd (Option.some.inj h1) (by decide)
  have g1:=C1 hg2;have ff:=fun j=>Lib.frozen_of_heap hg2 j;have z4:=Z3 g1;have hF:=(hG1.mono (show M<=M+8 * S.size by omega)).appL hy (fun i hi=>Qce (Nat.le_trans HBV.o.size (hK2 i hi))) h0 h7 (Nat.zero_le _) (Below.refl _ _) (by rw[List.length_map];exact hown) hgr hat
  have HF:=Z2 (show Gs w0 g (M+8 * S.size) (N+1) (w2.setCell ⟨g,1,none⟩ (.slice q6 (Ls.length+1) c6)) from ⟨_,_,_,vs,vt,Ds,_,Ss,hF,hD,by omega,by rw[List.length_append];show Ls.length+1<=N+1;omega,by omega,(QbP (Below.refl _ _) hgr hat).below (HB0.o.trans (hb1r.mono HB0.o.size)) (fun i hi=>by
   rcases hi with rfl|e
   ·exact hG1.gB
   exact (hG1.rl.lt e).1)⟩)
  clear P hb1 hb1r hy hK2 hown hgr hat hG1 hg2 hF hb0 HG HBW HC0 HBV o0 o1 o2 o3 o4 z1 z2 z3;go_wp2_with fail;go_ret;exact⟨rfl,HF.o⟩
theorem Qow (w0:World) (g M N:Nat) (a b c:Int) (S:ByteArray) (w:World) (ht:TabA w0) (h:Gs w0 g M N w) (hM:M+9 * S.size<=1000000000) (hN:N<=1000000000) (hc:-9223372036854775808<=c/\c<=9223372036854775807) :
  Calls prog 20 #[.pointer (some ⟨g,0,none⟩),.agg #[.int .i64 12,.int .i64 a,.int .i64 b,.int .i64 c,.string S]] w fun e w'=>e=.returned (.bool true)/\Gs w0 g (M+8 * S.size) (N+1) w':=by
 obtain⟨own,vd,vl,vs,vt,Ds,Ls,Ss,hG,hD,l1,l2,l3,hb0⟩:=h
 obtain⟨qd,cd,rfl⟩:=hG.rd.val
 obtain⟨ql,cl,rfl⟩:=hG.rl.val
 rw[List.length_map,List.length_map] at hG
 have hpb:=Vm.QbY c Ds.length (by omega)
 obtain⟨j,hj⟩:∃j:Nat,Vm.pick c Ds.length=j:=⟨(Vm.pick c Ds.length).toNat,by omega⟩
 rw[hj] at hpb
 have hjl:j<Ds.length:=by omega
 have hjI:(j:Int)<(Ds.length:Int):=by omega
 obtain⟨x,s,hxs⟩:∃x s,Ds[j]?=some (x,s):=⟨Ds[j].1,Ds[j].2,List.getElem?_eq_getElem hjl⟩
 obtain⟨gd,rfl,hcg⟩:=hG.rd.at_ (j:=j) (u:=.pointer (some ⟨x,0,none⟩)) (by rw[List.getElem?_map,hxs];rfl)
 have PK:=Z2 (Qbe c Ds.length (w.alloc (.cells #[.int .i64 12,.int .i64 a,.int .i64 b,.int .i64 c,.string S] 55)).drew hc.1 hc.2 (by omega) (by omega))
 rw[hj] at PK
 have hw1:Below w.heap.size w (w.alloc (.cells #[.int .i64 12,.int .i64 a,.int .i64 b,.int .i64 c,.string S] 55)):=Z7 _ _
 have hC0:=Go.Deep.blk_alloc_new w (.cells #[.int .i64 12,.int .i64 a,.int .i64 b,.int .i64 c,.string S] 55)
 have hg0:=(hw1.block g hG.glt).trans hG.blk
 have hcg0:=(hw1.cell (p:=⟨gd,j,none⟩) (Z3 hcg)).trans hcg
 have g0:=C0 hg0
 have g1:=C1 hg0
 have o0:=C0 hC0
 have o1:=C1 hC0
 have o2:=C2 hC0
 have o3:=C3 hC0
 have o4:=C4 hC0
 have z1:=Z3 g0
 have z2:=Z3 o0
 have z3:=Z3 hcg0
 have HG:=Z2 hG
 have HBW:=Z2 (show Below w.heap.size w (w.alloc (.cells #[.int .i64 12,.int .i64 a,.int .i64 b,.int .i64 c,.string S] 55)).drew from hw1.drew)
 have HC0:=Z2 hC0
 have HT:=Z2 ht
 have HB0:=Z2 hb0
 have HXS:=Z2 hxs
 have hmo:prog.follows Departure.mixedOrders=true:=by kernel_rfl
 clear hC0 hg0 hw1 hcg hG ht hb0 hxs hj
 go_enter func20,ntmps20
 go_wp2_with fail
 generalize w.alloc (.cells #[.int .i64 12,.int .i64 a,.int .i64 b,.int .i64 c,.string S] 55)=W0 at *
 refine wp_region_still_tail 14 hmo (by kernel_rfl) ?_
 simp only[List.take_succ_cons,List.take_zero,List.drop_succ_cons,List.drop_zero]
 repeat still_step
 still_call PK.o
 repeat still_step
 refine wpStill_nil ?_
 have hbw:Below w.heap.size w W0.drew.drew:=HBW.o.drew
 have hb0:=HB0.o.trans (hbw.mono HB0.o.size)
 have HBV:=Z2 hbw
 clear hbw
 by_cases hL:Ls.length=0
 ·have P:=Z2 (Qju ql Ls.length cl 12 a b c S W0.drew.drew hL (by decide));clear PK hcg0 g0 hL;go_wp2_with fail;go_region_with (first|(go_at_call 51;refine P.o.mono ?_;rintro e w2 ⟨rfl,hb2⟩)|fail)
  all_goals
   have hb2r:=HBV.o.trans (hb2.mono HBV.o.size);have hG2:=HG.o.low hb2r (3,0);have g1:=C1 hG2.blk;have ff:=fun j=>Lib.frozen_of_heap hG2.blk j;have z4:=Z3 g1;have HF:=Z2 (show Gs w0 g (M+8 * S.size) (N+1) (w2.setCell ⟨g,1,none⟩ (.slice ql Ls.length cl)) from ⟨_,_,_,vs,vt,Ds,Ls,Ss,hG2.set1.mono (by omega),hD,by omega,by omega,by omega,QbK (hb0.trans (hb2.mono hb0.size)) hG2.gB ((Tn.refl _ _).setCell _)⟩);clear P hb2 hb2r hb0 hG2 HG HBW HC0 HBV o0 o1 o2 o3 o4 z1 z2 z3;go_wp2_with fail;go_ret;exact⟨rfl,HF.o⟩
 have hpl:=Vm.QbY c Ls.length (by omega)
 obtain⟨jj,hjj⟩:∃jj:Nat,Vm.pick c Ls.length=jj:=⟨(Vm.pick c Ls.length).toNat,by omega⟩
 rw[hjj] at hpl
 have hjjl:jj<Ls.length:=by omega
 obtain⟨y,m,bb,hyl⟩:∃y m bb,Ls[jj]?=some (y,m,bb):=⟨Ls[jj].1,Ls[jj].2.1,Ls[jj].2.2,List.getElem?_eq_getElem hjjl⟩
 obtain⟨Ky,hy,m0,m7,hbz,hKy⟩:=HG.o.ll jj y m bb hyl
 have P:=Z2 (QmZ w0 ql cl Ls a b c S W0.drew.drew HT.o.tw.tabs hb0 (HG.o.low HBV.o (3,0)).rl jj y m bb Ky hjj hyl (hy.low HBV.o) m0 m7 (by omega) hc (by omega))
 clear PK hcg0 g0
 go_wp2_with fail
 go_region_with (first|(go_at_call 51;refine P.o.mono ?_;rintro e w2 ⟨rfl,K',hy',t'⟩)|fail)
 all_goals
  have hG2:=(HG.o.low HBV.o (3,0)).ldr hyl (hy.low HBV.o) (fun i hi=>by rw[Qaj (hy.ty hi).2.1];exact hKy i hi) m0 m7 hy' (show (bb++S).size<=M+8 * S.size by rw[ByteArray.size_append];omega) (by omega) t';have g1:=C1 hG2.blk;have ff:=fun j=>Lib.frozen_of_heap hG2.blk j;have z4:=Z3 g1;have HF:=Z2 (show Gs w0 g (M+8 * S.size) (N+1) (w2.setCell ⟨g,1,none⟩ (.slice ql Ls.length cl)) from ⟨_,_,_,vs,vt,Ds,_,Ss,hG2.set1,hD,by omega,by rw[List.length_set];omega,by omega,QbK (t'.below hb0 (fun i hi=>(hy.ty hi).1)) hG2.gB ((Tn.refl _ _).setCell _)⟩);clear P hy hy' t' hKy hb0 hG2 HG HBW HC0 HBV o0 o1 o2 o3 o4 z1 z2 z3 hyl;go_wp2_with fail;go_ret;exact⟨rfl,HF.o⟩
theorem Qo9 (w0:World) (g M N:Nat) (a b c:Int) (S:ByteArray) (w:World) (ht:TabA w0) (h:Gs w0 g M N w) (hM:M+9 * S.size<=1000000000) (hN:N<=1000000000) (hc:-9223372036854775808<=c/\c<=9223372036854775807) :
  Calls prog 20 #[.pointer (some ⟨g,0,none⟩),.agg #[.int .i64 13,.int .i64 a,.int .i64 b,.int .i64 c,.string S]] w fun e w'=>e=.returned (.bool true)/\Gs w0 g (M+8 * S.size) (N+1) w':=by
 obtain⟨own,vd,vl,vs,vt,Ds,Ls,Ss,hG,hD,l1,l2,l3,hb0⟩:=h
 obtain⟨qd,cd,rfl⟩:=hG.rd.val
 obtain⟨ql,cl,rfl⟩:=hG.rl.val
 rw[List.length_map,List.length_map] at hG
 have hpb:=Vm.QbY c Ds.length (by omega)
 obtain⟨j,hj⟩:∃j:Nat,Vm.pick c Ds.length=j:=⟨(Vm.pick c Ds.length).toNat,by omega⟩
 rw[hj] at hpb
 have hjl:j<Ds.length:=by omega
 have hjI:(j:Int)<(Ds.length:Int):=by omega
 obtain⟨x,s,hxs⟩:∃x s,Ds[j]?=some (x,s):=⟨Ds[j].1,Ds[j].2,List.getElem?_eq_getElem hjl⟩
 obtain⟨gd,rfl,hcg⟩:=hG.rd.at_ (j:=j) (u:=.pointer (some ⟨x,0,none⟩)) (by rw[List.getElem?_map,hxs];rfl)
 have PK:=Z2 (Qbe c Ds.length (w.alloc (.cells #[.int .i64 13,.int .i64 a,.int .i64 b,.int .i64 c,.string S] 55)).drew hc.1 hc.2 (by omega) (by omega))
 rw[hj] at PK
 have hw1:Below w.heap.size w (w.alloc (.cells #[.int .i64 13,.int .i64 a,.int .i64 b,.int .i64 c,.string S] 55)):=Z7 _ _
 have hC0:=Go.Deep.blk_alloc_new w (.cells #[.int .i64 13,.int .i64 a,.int .i64 b,.int .i64 c,.string S] 55)
 have hg0:=(hw1.block g hG.glt).trans hG.blk
 have hcg0:=(hw1.cell (p:=⟨gd,j,none⟩) (Z3 hcg)).trans hcg
 have g0:=C0 hg0
 have g1:=C1 hg0
 have o0:=C0 hC0
 have o1:=C1 hC0
 have o2:=C2 hC0
 have o3:=C3 hC0
 have o4:=C4 hC0
 have z1:=Z3 g0
 have z2:=Z3 o0
 have z3:=Z3 hcg0
 have HG:=Z2 hG
 have HBW:=Z2 (show Below w.heap.size w (w.alloc (.cells #[.int .i64 13,.int .i64 a,.int .i64 b,.int .i64 c,.string S] 55)).drew from hw1.drew)
 have HC0:=Z2 hC0
 have HT:=Z2 ht
 have HB0:=Z2 hb0
 have HXS:=Z2 hxs
 have hmo:prog.follows Departure.mixedOrders=true:=by kernel_rfl
 obtain⟨d0,d1⟩:=Option.isSome_iff_exists.1 (show (prog.info? 33).isSome=true by kernel_rfl)
 have d2:d0.zero=some (.pointer none):=by
  have h1:(prog.info? 33).bind (fun x=>x.zero)=some (.pointer none):=by kernel_rfl
  rwa [d1] at h1
 have d3:d0.size=1:=by
  have h1:(prog.info? 33).map (fun x=>x.size)=some 1:=by kernel_rfl
  rw[d1] at h1;simpa using h1
 have d4:d0.bytes=8:=by
  have h1:(prog.info? 33).map (fun x=>x.bytes)=some 8:=by kernel_rfl
  rw[d1] at h1;simpa using h1
 clear hC0 hg0 hw1 hcg hG ht hb0 hxs hj
 go_enter func20,ntmps20
 go_wp2_with fail
 generalize w.alloc (.cells #[.int .i64 13,.int .i64 a,.int .i64 b,.int .i64 c,.string S] 55)=W0 at *
 refine wp_region_still_tail 14 hmo (by kernel_rfl) ?_
 simp only[List.take_succ_cons,List.take_zero,List.drop_succ_cons,List.drop_zero]
 repeat still_step
 still_call PK.o
 repeat still_step
 refine wpStill_nil ?_
 have hbw:Below w.heap.size w W0.drew.drew:=HBW.o.drew
 have hb0:=HB0.o.trans (hbw.mono HB0.o.size)
 have HBV:=Z2 hbw
 clear hbw
 by_cases hL:Ls.length=0
 ·have P:=Z2 (Qju ql Ls.length cl 13 a b c S W0.drew.drew hL (by decide));clear PK hcg0 g0 hL;go_wp2_with fail;go_region_with (first|(go_at_call 51;refine P.o.mono ?_;rintro e w2 ⟨rfl,hb2⟩)|fail)
  all_goals
   have hb2r:=HBV.o.trans (hb2.mono HBV.o.size);have hG2:=HG.o.low hb2r (3,0);have g1:=C1 hG2.blk;have ff:=fun j=>Lib.frozen_of_heap hG2.blk j;have z4:=Z3 g1;have HF:=Z2 (show Gs w0 g (M+8 * S.size) (N+1) (w2.setCell ⟨g,1,none⟩ (.slice ql Ls.length cl)) from ⟨_,_,_,vs,vt,Ds,Ls,Ss,hG2.set1.mono (by omega),hD,by omega,by omega,by omega,QbK (hb0.trans (hb2.mono hb0.size)) hG2.gB ((Tn.refl _ _).setCell _)⟩);clear P hb2 hb2r hb0 hG2 HG HBW HC0 HBV o0 o1 o2 o3 o4 z1 z2 z3;go_wp2_with fail;go_ret;exact⟨rfl,HF.o⟩
 have hpl:=Vm.QbY c Ls.length (by omega)
 obtain⟨jj,hjj⟩:∃jj:Nat,Vm.pick c Ls.length=jj:=⟨(Vm.pick c Ls.length).toNat,by omega⟩
 rw[hjj] at hpl
 have hjjl:jj<Ls.length:=by omega
 obtain⟨y,m,bb,hyl⟩:∃y m bb,Ls[jj]?=some (y,m,bb):=⟨Ls[jj].1,Ls[jj].2.1,Ls[jj].2.2,List.getElem?_eq_getElem hjjl⟩
 obtain⟨Ky,hy,m0,m7,hbz,hKy⟩:=HG.o.ll jj y m bb hyl
 have P:=Z2 (QoD w0 ql cl Ls a b c S W0.drew.drew HT.o.tw.tabs hb0 (HG.o.low HBV.o (3,0)).rl jj y m bb Ky hjj hyl (hy.low HBV.o) m0 m7 (by omega) hc (by omega))
 clear PK hcg0 g0
 go_wp2_with fail
 go_region_with (first|(go_at_call 51;refine P.o.mono ?_;rintro e w1 ⟨x2,K2,rfl,hx1,hK1,hb1⟩)|fail)
 all_goals
  have hb1r:=HBV.o.trans (hb1.mono HBV.o.size);have hG1:=HG.o.low hb1r (0,Ds.length);have g1:=C1 hG1.blk;have ff:=fun j=>Lib.frozen_of_heap hG1.blk j;have z4:=Z3 g1;have hG2:=hG1.set1;have ht2:Turn (fun i=>i=g) (fun i=>i=g) w1 (w1.setCell ⟨g,1,none⟩ (.slice ql Ls.length cl)):=Turn.of_tn ((Tn.refl _ _).setCell _);have hlab:∀i,K2 i->lab own w.heap.size (0,Ds.length) i=(0,Ds.length):=fun i hi=>Qce (Nat.le_trans HBV.o.size (hK1 i hi))
  have hx2:=hx1.turn ht2 (fun i e hk=>by
   have h1:=hlab i hk;rw[e,hG1.og] at h1
   exact absurd (congrArg Prod.fst h1) (show ¬(3:Nat)=0 by decide)) (fun i e=>by subst e;exact hG1.nd)
  have HK2:=Z2 (show ∀i,K2 i->lab (lab own w.heap.size (0,Ds.length)) w1.heap.size (3,0) i=(0,Ds.length) from fun i hi=>by rw[Qaj (hx1.ty hi).2.1];exact hlab i hi);have hb02:Below w0.heap.size w0 (w1.setCell ⟨g,1,none⟩ (.slice ql Ls.length cl)):=QbK (hb0.trans (hb1.mono hb0.size)) hG1.gB ((Tn.refl _ _).setCell _);have HGD:=Z2 ((Qe2 (b:=bb) (Qb3 bb m).1 (Qb3 bb m).2).mono (show bb.size<=M+8 * S.size by omega));have hst:=fun W (hW:W=w1.setCell ⟨g,1,none⟩ (.slice ql Ls.length cl))=>hW
  clear P hy hKy hb0 hb1 hb1r hx1 hK1 HG HBW HC0 HBV o0 o1 o2 o3 o4 z1 z2 z3 hyl hlab ht2 hG1;go_upto_if 79 with fail
  generalize w1.setCell ⟨g,1,none⟩ (.slice ql Ls.length cl)=w2 at *;clear hst g1 ff z4;have g0:=C0 hG2.blk;have z5:=Z3 g0;have hba:Below w2.heap.size w2 (w2.alloc (.cells #[.pointer (some ⟨x2,0,none⟩)] 33)):=Z7 _ _;have hx3:=hG2.rd.keep (fun i hi=>(hba.block i (hG2.rd.lt hi).2.1))
  have hown3:(w2.alloc (.cells #[.pointer (some ⟨x2,0,none⟩)] 33)).ownsRow w0.heap.size 33 1 (.slice (some ⟨gd,0,none⟩) Ds.length cd) Ds.length (Ds.map fun x=>ptr x.1):=by
   have h:=hx3;unfold Rw at h;rw[List.length_map] at h;exact h
  have hbs:w0.heap.size<=w2.heap.size:=hb02.size;have HG2:=Z2 hG2;have HX2:=Z2 hx2;have HBA:=Z2 hba;have HB02:=Z2 hb02;clear hb02 hG2 hx2 hba hx3;go_wp2_with (at_builtin;refine wpList_append_own_at _ rfl _ _ 30 rfl w0.heap.size 33 d0 (.pointer none) 1 8 underlying30 d1 d2 d3 d4 rfl (by decide) (.slice (some ⟨gd,0,none⟩) Ds.length cd) Ds.length (Ds.map fun x=>ptr x.1) rfl hown3 ⟨w2.heap.size,0,none⟩ 1 1 [.pointer (some ⟨x2,0,none⟩)] rfl rfl (Qcp w2 [.pointer (some ⟨x2,0,none⟩)] 33) ?h1 ?h63 ?hby ?hbase ?_)
  case h1=>simp [Value.oneCell']
  try case h63=>unfold maxLen;omega
  try case hby=>omega
  try case hbase=>first|omega|(simp;omega)
  intro v6 w6 hown6 hgr _ hat6;obtain⟨q6,c6,rfl⟩:=Qea hown6
  have hg6:w6.heap[g]?=some (.cells #[.slice (some ⟨gd,0,none⟩) Ds.length cd,.slice ql Ls.length cl,vs,vt] 52):=by
   rw[hgr.block g (by rw[World.size_alloc];have:=HG2.o.glt;omega) (fun e=>?_),HBA.o.block g HG2.o.glt,HG2.o.blk];have h1:=(HG2.o.rd.lt e.symm).2.2;unfold tyAt at h1;rw[HG2.o.blk] at h1;exact absurd (Option.some.inj h1) (by decide)
  have hat7:(Value.slice q6 (Ds.length+1) c6).ownBlock=(Value.slice (some ⟨gd,0,none⟩) Ds.length cd).ownBlock\/(Value.slice q6 (Ds.length+1) c6).ownBlock=some (w2.alloc (.cells #[.pointer (some ⟨x2,0,none⟩)] 33)).heap.size:=by rw[World.size_alloc];exact hat6
  have f0:=C0 hg6;have ff:=fun j=>Lib.frozen_of_heap hg6 j;have z6:=Z3 f0;have hF:=(HG2.o.mono (show M<=M+8 * S.size by omega)).appD HX2.o HK2.o HGD.o HBA.o (by rw[List.length_map];exact hown6) hgr hat7
  have HF:=Z2 (show Gs w0 g (M+8 * S.size) (N+1) (w6.setCell ⟨g,0,none⟩ (.slice q6 (Ds.length+1) c6)) from ⟨_,_,_,vs,vt,_,Ls,Ss,hF,by rw[List.length_append];show 0<Ds.length+1;omega,by rw[List.length_append];show Ds.length+1<=N+1;omega,by omega,by omega,(QbP HBA.o hgr hat7).below HB02.o (fun i hi=>by
   rcases hi with rfl|e
   ·exact HG2.o.gB
   exact (HG2.o.rd.lt e).1)⟩)
  clear hown3 hown6 hgr hat6 hat7 hg6 hF HG2 HX2 HK2 HGD HBA HB02;go_wp2_with fail;go_ret;exact⟨rfl,HF.o⟩
end Go.Proofs.YtoejbngihecafaaGreatDoor
