import Derived.Deep.RegionHeld3
import Derived.Test.YtoejbngihecafaaGreatDoorC49
import Derived.Test.YtoejbngihecafaaGreatDoorC4
import Derived.Test.YtoejbngihecafaaGreatDoorC0
set_option maxRecDepth 100000
set_option maxHeartbeats 2000000
open Go.Proofs.Tryz
namespace Go.Proofs.YtoejbngihecafaaGreatDoor
open Go.RowKit
variable {w0 w:World} {g M N:Nat}
theorem QmJ (w0:World) (g M N:Nat) (a b c:Int) (S:ByteArray) (w:World) (ht:TabA w0) (h:Gs w0 g M N w) (hM:M+9 * S.size<=1000000000) (hN:N<=1000000000) (hc:-9223372036854775808<=c/\c<=9223372036854775807) :
  Calls prog 20 #[.pointer (some ⟨g,0,none⟩),.agg #[.int .i64 10,.int .i64 a,.int .i64 b,.int .i64 c,.string S]] w fun e w'=>e=.returned (.bool true)/\Gs w0 g (M+8 * S.size) (N+1) w':=by
 obtain⟨own,vd,vl,vs,vt,Ds,Ls,Ss,hG,hD,l1,l2,l3,hb0⟩:=h
 obtain⟨qd,cd,rfl⟩:=hG.rd.val
 obtain⟨ql,cl,rfl⟩:=hG.rl.val
 rw[List.length_map,List.length_map] at hG
 have hpb:=Vm.QbY c Ds.length (by omega)
 obtain⟨j,hj⟩:∃j:Nat,Vm.pick c Ds.length=j:=⟨(Vm.pick c Ds.length).toNat,by omega⟩
 rw[hj] at hpb
 have hjl:j<Ds.length:=by omega
 have hjI:(j:Int)<(Ds.length:Int):=by omega
 obtain⟨x,s,hxs⟩:∃x s,Ds[j]?=some (x,s):=⟨Ds[j].1,Ds[j].2,List.getElem?_eq_getElem hjl⟩
 obtain⟨gd,rfl,hcg⟩:=hG.rd.at_ (j:=j) (u:=.pointer (some ⟨x,0,none⟩)) (by rw[List.getElem?_map,hxs];rfl)
 have PK:=Z2 (Qbe c Ds.length (w.alloc (.cells #[.int .i64 10,.int .i64 a,.int .i64 b,.int .i64 c,.string S] 55)).drew hc.1 hc.2 (by omega) (by omega))
 rw[hj] at PK
 have hw1:Below w.heap.size w (w.alloc (.cells #[.int .i64 10,.int .i64 a,.int .i64 b,.int .i64 c,.string S] 55)):=Z7 _ _
 have hC0:=Go.Deep.blk_alloc_new w (.cells #[.int .i64 10,.int .i64 a,.int .i64 b,.int .i64 c,.string S] 55)
 have hg0:=(hw1.block g hG.glt).trans hG.blk
 have hcg0:=(hw1.cell (p:=⟨gd,j,none⟩) (Z3 hcg)).trans hcg
 have g0:=C0 hg0
 have g1:=C1 hg0
 have o0:=C0 hC0
 have o1:=C1 hC0
 have o2:=C2 hC0
 have o3:=C3 hC0
 have o4:=C4 hC0
 have z1:=Z3 g0
 have z2:=Z3 o0
 have z3:=Z3 hcg0
 have HG:=Z2 hG
 have HBW:=Z2 (show Below w.heap.size w (w.alloc (.cells #[.int .i64 10,.int .i64 a,.int .i64 b,.int .i64 c,.string S] 55)).drew from hw1.drew)
 have HC0:=Z2 hC0
 have HT:=Z2 ht
 have HB0:=Z2 hb0
 have HXS:=Z2 hxs
 have hmo:prog.follows Departure.mixedOrders=true:=by kernel_rfl
 obtain⟨d0,d1⟩:=Option.isSome_iff_exists.1 (show (prog.info? 59).isSome=true by kernel_rfl)
 have d2:d0.zero=some (.pointer none):=by
  have h1:(prog.info? 59).bind (fun x=>x.zero)=some (.pointer none):=by kernel_rfl
  rwa [d1] at h1
 have d3:d0.size=1:=by
  have h1:(prog.info? 59).map (fun x=>x.size)=some 1:=by kernel_rfl
  rw[d1] at h1;simpa using h1
 have d4:d0.bytes=8:=by
  have h1:(prog.info? 59).map (fun x=>x.bytes)=some 8:=by kernel_rfl
  rw[d1] at h1;simpa using h1
 obtain⟨t0,t1⟩:=Option.isSome_iff_exists.1 (show (prog.info? 9).isSome=true by kernel_rfl)
 have t2:t0.zero=some (.string ⟨#[]⟩):=by
  have h1:(prog.info? 9).bind (fun x=>x.zero)=some (.string ⟨#[]⟩):=by kernel_rfl
  rwa [t1] at h1
 have t3:t0.size=1:=by
  have h1:(prog.info? 9).map (fun x=>x.size)=some 1:=by kernel_rfl
  rw[t1] at h1;simpa using h1
 have t4:t0.bytes=16:=by
  have h1:(prog.info? 9).map (fun x=>x.bytes)=some 16:=by kernel_rfl
  rw[t1] at h1;simpa using h1
 obtain⟨qs,cs,rfl⟩:=hG.rs.val
 obtain⟨qt,ct,rfl⟩:=hG.rt.val
 simp only[List.length_map] at hG HG
 clear hC0 hg0 hw1 hcg hG ht hb0 hxs hj
 go_enter func20,ntmps20
 go_wp2_with fail
 generalize w.alloc (.cells #[.int .i64 10,.int .i64 a,.int .i64 b,.int .i64 c,.string S] 55)=W0 at *
 refine wp_region_still_tail 14 hmo (by kernel_rfl) ?_
 simp only[List.take_succ_cons,List.take_zero,List.drop_succ_cons,List.drop_zero]
 repeat still_step
 still_call PK.o
 repeat still_step
 refine wpStill_nil ?_
 obtain⟨K,hx,hgs,hKo⟩:=HG.o.dd j x s HXS.o
 obtain⟨p,r,F,G,x1,x2,x3,x4,x5⟩:=hx
 have hbz:=QaZ hgs
 have hx0:=(HBW.o.block x (Z4 x1)).trans x1
 have c0:W0.cell? ⟨x,0,none⟩=some (.pointer (some ⟨p,0,none⟩)):=by
  show W0.drew.cell? _=_;rw[Lib.cell_of_heap hx0];rfl
 have z4:=Z3 c0
 have P:=Z2 (docSaver p s.k.enc s.k.mark s.k.body W0.drew ((x3.low HBW.o).dd (by omega)))
 have HRS:=Z2 (fun r7 W (hd:RDoc W r7 s.k.enc s.k.mark s.k.body)=>Qfc r7 s.k.enc s.k.mark s.k.body W hd (by omega) hgs.now.1.h0 hgs.now.1.h3)
 generalize bytesOf s.k.enc s.k.mark s.k.body=BY at *
 clear PK hcg0 g0 g1 x1 x2 x3 x4 x5 hx0 hKo hgs hbz
 go_wp2_with fail
 refine P.o.mono ?_
 rintro e w2 ⟨s2,rfl,hs2,hsv,hb2⟩
 have hb2r:=HBW.o.trans (hb2.mono HBW.o.size)
 have hb02:=HB0.o.trans (hb2r.mono HB0.o.size)
 have hG2:=HG.o.low hb2r (2,Ss.length)
 have g2:=C2 hG2.blk
 have z5:=Z3 g2
 have hba:Below w2.heap.size w2 (w2.alloc (.cells #[.pointer (some ⟨s2,0,none⟩)] 59)):=Z7 _ _
 have hx3:=hG2.rs.keep (fun i hi=>(hba.block i (hG2.rs.lt hi).2.1))
 have hown3:(w2.alloc (.cells #[.pointer (some ⟨s2,0,none⟩)] 59)).ownsRow w0.heap.size 59 1 (.slice qs Ss.length cs) Ss.length (Ss.map fun x=>ptr x.1):=by
  have h:=hx3;unfold Rw at h;rw[List.length_map] at h;exact h
 have hbs:w0.heap.size<=w2.heap.size:=hb02.size
 have hls:lab own w.heap.size (2,Ss.length) s2=(2,Ss.length):=Qce (Nat.le_trans HBW.o.size hs2)
 have hsB:w0.heap.size<=s2:=Nat.le_trans (HB0.o.trans (HBW.o.mono HB0.o.size)).size hs2
 have HG2:=Z2 hG2
 have HSV:=Z2 hsv
 have HBA:=Z2 hba
 have HB02:=Z2 hb02
 have HLS:=Z2 hls
 clear P hb2 hb2r hb02 hG2 hsv hba hx3 hls HG HBW HC0 o0 o1 o2 o3 o4 c0 z4 z1 z2 z3
 go_wp2_with (at_builtin;refine wpList_append_own_at _ rfl _ _ 49 rfl w0.heap.size 59 d0 (.pointer none) 1 8 underlying49 d1 d2 d3 d4 rfl (by decide) (.slice qs Ss.length cs) Ss.length (Ss.map fun x=>ptr x.1) rfl hown3 ⟨w2.heap.size,0,none⟩ 1 1 [.pointer (some ⟨s2,0,none⟩)] rfl rfl (Qcp w2 [.pointer (some ⟨s2,0,none⟩)] 59) ?h1 ?h63 ?hby ?hbase ?_)
 case h1=>simp [Value.oneCell']
 try case h63=>unfold maxLen;omega
 try case hby=>omega
 try case hbase=>first|omega|(simp;omega)
 intro v6 w6 hown6 hgr _ hat6
 obtain⟨q6,c6,rfl⟩:=Qea hown6
 have hg6:w6.heap[g]?=some (.cells #[.slice (some ⟨gd,0,none⟩) Ds.length cd,.slice ql Ls.length cl,.slice qs Ss.length cs,.slice qt Ss.length ct] 52):=by
  rw[hgr.block g (by rw[World.size_alloc];have:=HG2.o.glt;omega) (fun e=>?_),HBA.o.block g HG2.o.glt,HG2.o.blk];have h1:=(HG2.o.rs.lt e.symm).2.2;unfold tyAt at h1;rw[HG2.o.blk] at h1;exact absurd (Option.some.inj h1) (by decide)
 have hat7:(Value.slice q6 (Ss.length+1) c6).ownBlock=(Value.slice qs Ss.length cs).ownBlock\/(Value.slice q6 (Ss.length+1) c6).ownBlock=some (w2.alloc (.cells #[.pointer (some ⟨s2,0,none⟩)] 59)).heap.size:=by rw[World.size_alloc];exact hat6
 have f0:=C2 hg6
 have ff:=fun j=>Lib.frozen_of_heap hg6 j
 have z6:=Z3 f0
 have hG7:=HG2.o.appS (b:=BY) HSV.o hsB HLS.o HBA.o (by rw[List.length_map];exact hown6) hgr hat7
 have hb07:=(QbP (g:=g) (k:=2) (u:=.slice q6 (Ss.length+1) c6) HBA.o hgr hat7).below HB02.o (fun i hi=>by
  rcases hi with rfl|e
  ·exact HG2.o.gB
  exact (HG2.o.rs.lt e).1)
 have HG7:=Z2 hG7
 have HB07:=Z2 hb07
 clear hown3 hown6 hgr hat6 hat7 hg6 hG7 hb07 HG2 HSV HBA HB02 HLS
 go_wp2_with fail
 generalize w6.setCell ⟨g,2,none⟩ (.slice q6 (Ss.length+1) c6)=w7 at *
 clear f0 ff z6 g2 z5 hbs
 obtain⟨K7,hx7,hgs7,_⟩:=HG7.o.dd j x s HXS.o
 obtain⟨p7,r7,F7,G7,y1,y2,y3,y4,y5⟩:=hx7
 have c1:=C1 y1
 have g3:=C3 HG7.o.blk
 have P:=Z2 (HRS.o r7 w7.drew (y4.low (Below.refl w7.heap.size w7).drew).doc)
 have APP:=Z2 (show ∀w8,Below w7.heap.size w7 w8->∃q9 c9 w9,(Builtin.append_ #[50,50] 50 #[.slice qt Ss.length ct,.slice (some ⟨w8.heap.size,0,none⟩) 1 1]).run prog (w8.alloc (.cells #[.string BY] 9))=.ok (.slice q9 (Ss.length+1) c9) w9/\Gs w0 g (M+8 * S.size) (N+1) (w9.setCell ⟨g,3,none⟩ (.slice q9 (Ss.length+1) c9))/\(w9.cell? ⟨g,3,none⟩=some (.slice qt Ss.length ct)/\w9.cell? ⟨x,1,none⟩=some (.pointer (some ⟨r7,0,none⟩)))/\(∀j,w9.frozen? ⟨g,j,none⟩=false)/\(w8.cell? ⟨g,3,none⟩=some (.slice qt Ss.length ct)/\w8.cell? ⟨x,1,none⟩=some (.pointer (some ⟨r7,0,none⟩)))/\((w8.alloc (.cells #[.string BY] 9)).cell? ⟨g,3,none⟩=some (.slice qt Ss.length ct)/\(w8.alloc (.cells #[.string BY] 9)).cell? ⟨x,1,none⟩=some (.pointer (some ⟨r7,0,none⟩))) from fun w8 hb8=>by
  have hG8:=HG7.o.low hb8 (3,0);have hba:Below w8.heap.size w8 (w8.alloc (.cells #[.string BY] 9)):=Z7 _ _;have hx3:=hG8.rt.keep (fun i hi=>(hba.block i (hG8.rt.lt hi).2.1))
  have hown3:(w8.alloc (.cells #[.string BY] 9)).ownsRow w0.heap.size 9 1 (.slice qt Ss.length ct) Ss.length ((Ss.map Prod.snd).map Value.string):=by
   have h:=hx3;unfold Rw at h;rw[List.length_map,List.length_map] at h;exact h
  have hb08:=HB07.o.trans (hb8.mono HB07.o.size);obtain⟨v',w9,hrun,hown,hgr,_,hat⟩:=run_append_own_at (P:=prog) (w8.alloc (.cells #[.string BY] 9)) w0.heap.size 50 50 9 t0 (.string ⟨#[]⟩) 1 16 underlying50 t1 t2 t3 t4 rfl (by decide) (.slice qt Ss.length ct) Ss.length ((Ss.map Prod.snd).map Value.string) hown3 ⟨w8.heap.size,0,none⟩ 1 1 [.string BY] rfl (Qcp w8 [.string BY] 9) (by simp [Value.oneCell']) (by unfold maxLen;omega) (by omega) (by have:=hb08.size;rw[World.size_alloc];omega);obtain⟨q9,c9,rfl⟩:=Qea hown
  have hg9:w9.heap[g]?=some (.cells #[.slice (some ⟨gd,0,none⟩) Ds.length cd,.slice ql Ls.length cl,.slice q6 (Ss.length+1) c6,.slice qt Ss.length ct] 52):=by
   rw[hgr.block g (by rw[World.size_alloc];have:=hG8.glt;omega) (fun e=>?_),hba.block g hG8.glt,hG8.blk];have h1:=(hG8.rt.lt e.symm).2.2;unfold tyAt at h1;rw[hG8.blk] at h1;exact absurd (Option.some.inj h1) (by decide)
  have hx8:=(hb8.block x (Z4 y1)).trans y1
  have hx9:w9.heap[x]?=some (.cells #[.pointer (some ⟨p7,0,none⟩),.pointer (some ⟨r7,0,none⟩)] 46):=by
   rw[hgr.block x (by rw[World.size_alloc];have:=Z4 hx8;omega) (fun e=>?_),hba.block x (Z4 hx8),hx8];have h1:=(hG8.rt.lt e.symm).2.2;unfold tyAt at h1;rw[hx8] at h1;exact absurd (Option.some.inj h1) (by decide)
  have hF:=hG8.appT (b:=BY) hba (by rw[List.length_map,List.length_map];exact hown) hgr hat;have e3:(Ss++[(s2,BY)]).map Prod.snd=Ss.map Prod.snd++[BY]:=by rw[List.map_append];rfl
  rw[<-e3] at hF;refine⟨q9,c9,w9,hrun,⟨_,_,_,_,_,Ds,Ls,_,hF.mono (by omega),hD,by omega,by omega,by rw[List.length_append];show Ss.length+1<=N+1;omega,(QbP hba hgr hat).below hb08 (fun i hi=>?_)⟩,⟨by rw[Lib.cell_of_heap hg9];rfl,by rw[Lib.cell_of_heap hx9];rfl⟩,fun j=>Lib.frozen_of_heap hg9 j,⟨by rw[Lib.cell_of_heap hG8.blk];rfl,by rw[Lib.cell_of_heap hx8];rfl⟩,⟨by rw[Lib.cell_of_heap ((hba.block g hG8.glt).trans hG8.blk)];rfl,by rw[Lib.cell_of_heap ((hba.block x (Z4 hx8)).trans hx8)];rfl⟩⟩;rcases hi with rfl|e
  ·exact hG8.gB
  exact (hG8.rt.lt e).1)
 have z1:=Z3 c1
 have z2:=Z3 g3
 clear y1 y2 y3 y4 y5 hgs7 HRS
 go_cut [] from 108 to 121 (fun wx=>Gs w0 g (M+8 * S.size) (N+1) wx)
 case first =>
  go_region_law (first
    |(have _hq:=hrun;refine Qat rfl _ _ _ _ rfl _ _ rfl rfl _ _ hrun ?_)
    |(go_simp;go_at_call 44;refine P.o.mono ?_;rintro e w8 ⟨rfl,hb8⟩;obtain⟨q9,c9,w9,hrun,hGs,⟨a1,a2⟩,hfz,⟨a3,a4⟩,⟨a5,a6⟩⟩:=APP.o w8 (((Below.refl w7.heap.size w7).drew).trans hb8);have hf3:=hfz 3;clear hfz)
    |fail)
  all_goals
   go_wp2_with fail;go_meet;exact hGs
 case rest =>
  have HF:=Z2 hcut;clear hcut APP P c1 g3 z1 z2 HG7 HB07;go_wp2_with fail;go_ret;exact⟨rfl,HF.o⟩
theorem gplay (w0:World) (g M N:Nat) (o:Opr) (w:World) (ht:TabA w0) (h:Gs w0 g M N w) (hM:M+9 * o.S.size<=1000000000) (hN:N<=1000000000) (hc:-9223372036854775808<=o.c/\o.c<=9223372036854775807) :
  Calls prog 20 #[.pointer (some ⟨g,0,none⟩),o.val] w fun e w'=>e=.returned (.bool true)/\Gs w0 g (M+8 * o.S.size) (N+1) w':=by
 obtain⟨kind,a,b,c,S⟩:=o
 unfold Opr.val
 simp only at hM hc ⊢
 by_cases k9:kind=9
 ·subst k9;by_cases hm:0<=a/\a<=7
  ·exact QoL w0 g M N a b c S w ht h hM hN hc hm.1 hm.2
  exact QkK w0 g M N a b c S w ht h hN hc (by omega)
 by_cases k10:kind=10
 ·subst k10;exact QmJ w0 g M N a b c S w ht h hM hN hc
 by_cases k11:kind=11
 ·subst k11;by_cases hm:0<=a/\a<=7
  ·exact Qm7 w0 g M N a b c S w ht h hN hc hm.1 hm.2
  exact Qio w0 g M N a b c S w ht h hN hc (by omega)
 by_cases k12:kind=12
 ·subst k12;exact Qow w0 g M N a b c S w ht h hM hN hc
 by_cases k13:kind=13
 ·subst k13;exact Qo9 w0 g M N a b c S w ht h hM hN hc
 exact Qnb w0 g M N kind a b c S w ht h hM hN hc (by simpa using k9) (by simpa using k10) (by simpa using k11) (by simpa using k12) (by simpa using k13)
theorem Gs.mono {M' N':Nat} (h:Gs w0 g M N w) (hM:M<=M') (hN:N<=N'):Gs w0 g M' N' w:=by
 obtain⟨own,vd,vl,vs,vt,Ds,Ls,Ss,hG,hD,l1,l2,l3,hb⟩:=h;exact⟨own,vd,vl,vs,vt,Ds,Ls,Ss,hG.mono hM,hD,by omega,by omega,by omega,hb⟩
theorem Gs.bel (h:Gs w0 g M N w):Below w0.heap.size w0 w:=by
 obtain⟨_,_,_,_,_,_,_,_,_,_,_,_,_,hb⟩:=h;exact hb
theorem Gs.lt (h:Gs w0 g M N w):g<w.heap.size:=by
 obtain⟨_,_,_,_,_,_,_,_,hG,_⟩:=h;exact hG.glt
theorem Gm.init {B:Nat} {w1:World} {x:Nat} {s:St} {K:Nat->Prop} (hx:PX B w1 x s K) (hg:s.Good M) (hB:B<=w1.heap.size) :
  Gm B ((w1.alloc (.cells #[.pointer (some ⟨x,0,none⟩)] 33)).alloc (.cells #[.slice (some ⟨w1.heap.size,0,none⟩) 1 1,.slice none 0 0,.slice none 0 0,.slice none 0 0] 52)) (fun i=>if i<w1.heap.size then (0,0) else (3,0)) (w1.heap.size+1) (.slice (some ⟨w1.heap.size,0,none⟩) 1 1) (.slice none 0 0) (.slice none 0 0) (.slice none 0 0) M [(x,s)] [] [] []:=by
 have hb1:Below w1.heap.size w1 (w1.alloc (.cells #[.pointer (some ⟨x,0,none⟩)] 33)):=Z7 _ _
 have hb2:Below (w1.alloc (.cells #[.pointer (some ⟨x,0,none⟩)] 33)).heap.size (w1.alloc (.cells #[.pointer (some ⟨x,0,none⟩)] 33)) ((w1.alloc (.cells #[.pointer (some ⟨x,0,none⟩)] 33)).alloc (.cells #[.slice (some ⟨w1.heap.size,0,none⟩) 1 1,.slice none 0 0,.slice none 0 0,.slice none 0 0] 52)):=Z7 _ _
 have hr:Rw B (w1.alloc (.cells #[.pointer (some ⟨x,0,none⟩)] 33)) 33 (.slice (some ⟨w1.heap.size,0,none⟩) 1 1) [.pointer (some ⟨x,0,none⟩)] :=
  ⟨rfl,.inr ⟨w1.heap.size,1,_,rfl,hB,Go.Deep.blk_alloc_new _ _,Z6 _,by unfold maxLen;omega,rfl,rfl⟩⟩
 have hblk:=Go.Deep.blk_alloc_new (w1.alloc (.cells #[.pointer (some ⟨x,0,none⟩)] 33)) (.cells #[.slice (some ⟨w1.heap.size,0,none⟩) 1 1,.slice none 0 0,.slice none 0 0,.slice none 0 0] 52)
 rw[World.size_alloc] at hblk
 refine⟨hblk,by omega,hr.keep (fun i hi=>hb2.block i (hr.lt hi).2.1),Rw.nil _ _ _,Rw.nil _ _ _,Rw.nil _ _ _,if_neg (by omega),fun i hi=>?_,fun i hi=>(by cases hi),fun i hi=>(by cases hi),fun i hi=>(by cases hi),fun j x' s' hj=>?_,fun j y m b hj=>(by cases hj),fun j s b hj=>(by cases hj)⟩
 ·have e:w1.heap.size=i:=Option.some.inj hi;exact if_neg (by omega)
 cases j with
 |zero =>
  obtain⟨e1,e2⟩:=Prod.mk.inj (Option.some.inj hj);subst e1 e2;exact⟨K,(hx.low hb1).low hb2,hg,fun i hi=>if_pos (hx.ty hi).2.1⟩
 |succ n=>cases hj
def KS (Ss:List (Nat × ByteArray)) (j i:Nat):Prop:=∃k b,k<j/\Ss[k]?=some (i,b)
section
variable {B:Nat} {w w' w'':World} {own:Nat->Nat × Nat} {g M:Nat} {vd vl vs vt:Value} {Ds:List (Nat × St)} {Ls:List (Nat × Int × ByteArray)} {Ss:List (Nat × ByteArray)} {Ts:List ByteArray} {j s:Nat} {b:ByteArray}
theorem Gm.ks (h:Gm B w own g vd vl vs vt M Ds Ls Ss Ts) {i:Nat} (hi:KS Ss j i):B<=i/\i<w.heap.size/\NoNd w i/\∃k,k<j/\own i=(2,k):=by
 obtain⟨k,b,hk,he⟩:=hi;obtain⟨h1,h2,h3⟩:=h.ss k i b he;exact⟨h2,h1.lt.1,h1.lt.2,k,hk,h3⟩
theorem Gm.svs (h:Gm B w own g vd vl vs vt M Ds Ls Ss Ts) (ht:Turn (KS Ss j) (KS Ss j) w w'):w'.heap[g]?=some (.cells #[vd,vl,vs,vt] 52)/\Rw B w' 59 vs (Ss.map fun x=>ptr x.1)/\Rw B w' 9 vt (Ts.map Value.string)/\∀k s b,j<=k->Ss[k]?=some (s,b)->SV w' s b.data.toList 0:=by
 have ng:∀i,own i=(3,0)->¬KS Ss j i:=fun i ho hk=>by
  obtain⟨_,_,_,k,_,e⟩:=h.ks hk;have:=ho.symm.trans e;exact absurd (congrArg Prod.fst this) (show ¬(3:Nat)=2 by decide)
 refine⟨(ht.keep g h.glt (ng g h.og)).trans h.blk,h.rs.keep (fun i hi=>ht.keep i (h.rs.lt hi).2.1 (ng i (h.os i hi))),h.rt.keep (fun i hi=>ht.keep i (h.rt.lt hi).2.1 (ng i (h.ot i hi))),fun k s b hk he=>?_⟩;obtain⟨h1,h2,h3⟩:=h.ss k s b he;refine h1.turn ht (fun q=>?_) (fun i hi=>(h.ks hi).2.2.1);obtain⟨_,_,_,k',hk',e⟩:=h.ks q;have:=congrArg Prod.snd (h3.symm.trans e);simp only at this;omega
theorem Qob (ht:Turn (KS Ss j) (KS Ss j) w w') (he:Ss[j]?=some (s,b)) (hn:Tn s w' w''):Turn (KS Ss (j+1)) (KS Ss (j+1)) w w'':=by
 refine⟨hn.os.trans ht.os,hn.tape.trans ht.tape,hn.output.trans ht.output,Nat.le_trans ht.size hn.size,fun i h1 h2=>?_,fun i hi=>.inl hi⟩;rw[hn.keep i (Nat.lt_of_lt_of_le h1 ht.size) (fun e=>h2 ⟨j,b,by omega,by rw[e];exact he⟩),ht.keep i h1 (fun q=>?_)];obtain⟨k,b',hk,hb⟩:=q;exact h2 ⟨k,b',by omega,hb⟩
theorem Qot (ht:Turn (KS Ss (j+1)) (KS Ss (j+1)) w w') (he:Ss[j]?=some (s,b)) (hn:Tn s w' w''):Turn (KS Ss (j+1)) (KS Ss (j+1)) w w'':=by
 refine⟨hn.os.trans ht.os,hn.tape.trans ht.tape,hn.output.trans ht.output,Nat.le_trans ht.size hn.size,fun i h1 h2=>?_,fun i hi=>.inl hi⟩;rw[hn.keep i (Nat.lt_of_lt_of_le h1 ht.size) (fun e=>h2 ⟨j,b,by omega,by rw[e];exact he⟩),ht.keep i h1 h2]
end
theorem QoW {s:Nat} {bs:List UInt8} (h:SV w s bs g):bs.length<=1099511627779:=by
 obtain⟨enc,mark,n,R,tail,h⟩:=h;have h1:=h.len;have h2:=h.size;have h3:=QcI enc mark;omega
theorem Ql8 {b:ByteArray} (hN:b.size<=N+3):(⟨((b.data.toList.drop 0).take 3).toArray⟩:ByteArray)++⟨((b.data.toList.drop (0+min 3 (b.data.toList.length - 0))).take N).toArray⟩=b:=by
 have hl:b.data.toList.length=b.size:=rfl;refine QcO ?_;rw[ByteArray.data_append,Array.toList_append];show b.data.toList.take 3++(b.data.toList.drop (0+min 3 (b.data.toList.length - 0))).take N=_;rw[List.take_of_length_le (show ((b.data.toList.drop (0+min 3 (b.data.toList.length - 0)))).length<=N by rw[List.length_drop];omega)];by_cases h:3<=b.data.toList.length
 ·rw[show 0+min 3 (b.data.toList.length - 0)=3 by omega,List.take_append_drop]
 rw[List.take_of_length_le (show b.data.toList.length<=3 by omega),List.drop_eq_nil_of_le (by omega),List.append_nil]
theorem Qkz (
          v:Value) (l:List Opr) (w:World) (ht:TabA w) (hv:OpsAt w v l) (hr:∀(i:Nat) (o:Opr),l[i]?=some o->-9223372036854775808<=o.c/\o.c<=9223372036854775807) (hs:9 * opsS l<=900000000) (hl:l.length<=900000000) :
  Calls prog 6 #[v] w fun e w'=>e=.returned (.bool true)/\Below w.heap.size w w':=by
 have L:=Z2 (loadedX w.heap.size ⟨#[97,13,10,98,255]⟩ 0 w ht.tw.tabs (by decide) (by decide) (by decide) (Z6 _))
 have hG0:St.Good 5 ⟨ofK ⟨#[97,13,10,98,255]⟩ (encOf ⟨#[97,13,10,98,255]⟩ 0),[],[]⟩:=by
  have h:=Qe2 (b:=⟨#[97,13,10,98,255]⟩) (Qb3 ⟨#[97,13,10,98,255]⟩ 0).1 (Qb3 ⟨#[97,13,10,98,255]⟩ 0).2;exact h
 generalize St.mk (ofK ⟨#[97,13,10,98,255]⟩ (encOf ⟨#[97,13,10,98,255]⟩ 0)) [] []=s0 at *;have HG0:=Z2 hG0;have HT:=Z2 ht;have HV:=Z2 hv;have HR:=Z2 hr;obtain⟨q,cap,rfl,_⟩:=hv;have hmo:prog.follows Departure.mixedOrders=true:=by kernel_rfl
 clear ht hG0 hr;go_enter func6,ntmps6;go_wp2_with fail;refine L.o.mono ?_;rintro e w1 ⟨x,K,rfl,hx,hK,hb1⟩
 obtain⟨p,c0⟩:∃p,w1.cell? ⟨x,0,none⟩=some (.pointer (some ⟨p,0,none⟩)):=by
  obtain⟨p,r,F,G,g1,_⟩:=hx;exact⟨p,by rw[Lib.cell_of_heap g1];rfl⟩
 have hz:=Z3 c0;have hbb:Below w1.heap.size w1 ((w1.alloc (.cells #[.pointer (some ⟨x,0,none⟩)] 33)).alloc (.cells #[.slice (some ⟨w1.heap.size,0,none⟩) 1 1,.slice none 0 0,.slice none 0 0,.slice none 0 0] 52)):=(Z7 _ _).alloc (by rw[World.size_alloc];omega) _
 have hgs:Gs w (w1.heap.size+1) 5 1 ((w1.alloc (.cells #[.pointer (some ⟨x,0,none⟩)] 33)).alloc (.cells #[.slice (some ⟨w1.heap.size,0,none⟩) 1 1,.slice none 0 0,.slice none 0 0,.slice none 0 0] 52)) :=
  ⟨_,_,_,_,_,_,_,_,Gm.init hx HG0.o hb1.size,by simp,by simp,by simp,by simp,hb1.trans (hbb.mono hb1.size)⟩
 have HGS:=Z2 hgs;clear L hx hK hb1 hbb hgs HG0;go_wp2_with fail;generalize (w1.alloc (.cells #[.pointer (some ⟨x,0,none⟩)] 33)).alloc (.cells #[.slice (some ⟨w1.heap.size,0,none⟩) 1 1,.slice none 0 0,.slice none 0 0,.slice none 0 0] 52)=w3 at *;generalize w1.heap.size+1=g at *;go_loopw [4,6] (fun ok i wx=>∃j:Nat,j<=l.length/\ok=.bool true/\i=.int .i64 j/\Gs w g (5+8 * opsS (l.take j)) (1+j) wx) (fun _ i _=>l.length - (intOf i).toNat)
 case atStart=>exact⟨0,Nat.zero_le _,rfl,rfl,HGS.o⟩
 case round =>
  clear HGS c0 hz;obtain⟨j,hj,rfl,rfl,hgs⟩:=hrel;have hle:=QlA l j;have hzg:=hgs.lt;have HVJ:=Z2 (HV.o.low hgs.bel);have HGJ:=Z2 hgs;clear hgs;by_cases hlt:j<l.length
  ·have hltI:(j:Int)<(l.length:Int):=by omega
   obtain⟨o,ho⟩:∃o,l[j]?=some o:=⟨l[j],List.getElem?_eq_getElem hlt⟩;have hst:=Qmk ho;have hle1:=QlA l (j+1);obtain⟨_,_,hq,hcs⟩:=HVJ.o;obtain⟨gq,f,hqe,o0,o1,o2,o3,o4⟩:=hcs j o ho;injection hq with hq1 hq2 hq3
   subst hq1;subst hqe;have P:=Z2 (gplay w g _ _ o wr HT.o HGJ.o (by omega) (by omega) (HR.o j o ho));clear hcs hq2 hq3 ho HVJ;have hzo:=Z3 o0;unfold Opr.val at P;obtain⟨kind,a,bb,c,S⟩:=o;simp only at o0 o1 o2 o3 o4 P hst;have HST:=Z2 hst;clear hst;go_wp2_with fail;refine P.o.mono ?_;rintro e w4 ⟨rfl,hgs4⟩;have HG4:=Z2 hgs4;clear P hgs4 o0 o1 o2 o3 o4 hzo HGJ;go_wp2_with fail;exact⟨⟨j+1,by omega,rfl,by go_num,HG4.o.mono (by rw[HST.o];omega) (by omega)⟩,by simp [intOf];omega⟩
  obtain rfl:j=l.length:=by omega
  rename World=>w5
  obtain⟨own,vd,vl,vs,vt,Ds,Ls,Ss,hG,hD,l1,l2,l3,hb5⟩:=HGJ.o;obtain⟨qd,cd,rfl⟩:=hG.rd.val;obtain⟨ql,cl,rfl⟩:=hG.rl.val;obtain⟨qs,cs,rfl⟩:=hG.rs.val;obtain⟨qt,ct,rfl⟩:=hG.rt.val;simp only[List.length_map] at hG;have HG:=Z2 hG;have HB5:=Z2 hb5;clear hG hb5 HGJ HVJ hlt;go_wp2_with fail;go_loopw [4,7] (fun ok i wx=>∃j:Nat,j<=Ds.length/\ok=.bool true/\i=.int .i64 j/\Below w5.heap.size w5 wx) (fun _ i _=>Ds.length - (intOf i).toNat)
  case atStart=>exact⟨0,Nat.zero_le _,rfl,rfl,Below.refl _ _⟩
  case round =>
   obtain⟨j2,hj2,rfl,rfl,hb6⟩:=hrel;have hG6:=HG.o.low hb6 (3,0);have g0:=C0 hG6.blk;have hz6:=Z3 g0;have HB6:=Z2 hb6;clear hb6;by_cases hlt2:j2<Ds.length
   ·have hlt2I:(j2:Int)<(Ds.length:Int):=by omega
    obtain⟨x2,s2,hxs⟩:∃x s,Ds[j2]?=some (x,s):=⟨Ds[j2].1,Ds[j2].2,List.getElem?_eq_getElem hlt2⟩;obtain⟨gd,hqe,hcg⟩:=hG6.rd.at_ (j:=j2) (u:=.pointer (some ⟨x2,0,none⟩)) (by rw[List.getElem?_map,hxs];rfl);obtain⟨K2,hx2,hg2,_⟩:=hG6.dd j2 x2 s2 hxs;have P:=Z2 (hx2.looked (HT.o.below (HB5.o.trans (HB6.o.mono HB5.o.size))).tw.tabs hg2 (by omega));subst hqe;have hzc:=Z3 hcg;clear hG6 hxs hx2 hg2;go_wp2_with fail;refine P.o.mono ?_;rintro e w7 ⟨rfl,hb7⟩;have HB7:=Z2 (HB6.o.trans (hb7.mono HB6.o.size));clear P hb7 HB6 g0 hcg hz6 hzc;go_wp2_with fail;exact⟨⟨j2+1,by omega,rfl,by go_num,HB7.o⟩,by simp [intOf];omega⟩
   obtain rfl:j2=Ds.length:=by omega
   rename World=>w6
   have HG6:=Z2 hG6;clear hG6 hlt2;go_wp2_with fail;go_loopw [4,8] (fun ok i wx=>∃j:Nat,j<=Ls.length/\ok=.bool true/\i=.int .i64 j/\Below w6.heap.size w6 wx) (fun _ i _=>Ls.length - (intOf i).toNat)
   case atStart=>exact⟨0,Nat.zero_le _,rfl,rfl,Below.refl _ _⟩
   case round =>
    clear g0 hz6;obtain⟨j3,hj3,rfl,rfl,hb7⟩:=hrel;have hG7:=HG6.o.low hb7 (3,0);have g1:=C1 hG7.blk;have hz7:=Z3 g1;have HB7:=Z2 hb7;clear hb7;by_cases hlt3:j3<Ls.length
    ·have hlt3I:(j3:Int)<(Ls.length:Int):=by omega
     have hj0I:(0:Int)<=(j3:Int):=by omega
     obtain⟨y,m,bb,hyl⟩:∃y m bb,Ls[j3]?=some (y,m,bb):=⟨Ls[j3].1,Ls[j3].2.1,Ls[j3].2.2,List.getElem?_eq_getElem hlt3⟩;obtain⟨gl,hqe,hcg⟩:=hG7.rl.at_ (j:=j3) (u:=.pointer (some ⟨y,0,none⟩)) (by rw[List.getElem?_map,hyl];rfl);obtain⟨Ky,hy,m0,m7,hbz,_⟩:=hG7.ll j3 y m bb hyl;obtain⟨q1,F,y1,y2,y3,y4,y5⟩:=hy;have hbd:Below wr.heap.size wr wr.drew:=(Below.refl _ _).drew;have hb07:=HB5.o.trans ((HB6.o.trans (HB7.o.mono HB6.o.size)).mono HB5.o.size);have hb08:=hb07.trans (hbd.mono hb07.size);have P:=Z2 (endedX w.heap.size wr.drew q1 m bb F (HT.o.below hb08).tw.tabs (y4.low hbd) m0 m7 (by omega) hb08.size);have d0:=C0 y1;have d1:=C1 y1;have d2:=C2 y1;subst hqe;have hzc:=Z3 hcg;have hzy:=Z3 d0;have KP:=Z2 (show ∀W,Below wr.heap.size wr W->W.cell? ⟨g,1,none⟩=some (.slice (some ⟨gl,0,none⟩) Ls.length cl)/\W.cell? ⟨gl,j3,none⟩=some (.pointer (some ⟨y,0,none⟩))/\W.cell? ⟨y,0,none⟩=some (.pointer (some ⟨q1,0,none⟩))/\W.cell? ⟨y,2,none⟩=some (.string bb)/\W.cell? ⟨y,1,none⟩=some (.int .i64 m) from fun W hb=>⟨(hb.cell (p:=⟨g,1,none⟩) hz7).trans g1,(hb.cell (p:=⟨gl,j3,none⟩) hzc).trans hcg,(hb.cell (p:=⟨y,0,none⟩) hzy).trans d0,(hb.cell (p:=⟨y,2,none⟩) hzy).trans d2,(hb.cell (p:=⟨y,1,none⟩) hzy).trans d1⟩);clear hG7 hyl y1 y2 y3 y4 y5 hbd hb07 hb08;go_wp2_with fail
     go_region_held3 (fun w'=>w'.cell? ⟨g,1,none⟩=some (.slice (some ⟨gl,0,none⟩) Ls.length cl)/\w'.cell? ⟨gl,j3,none⟩=some (.pointer (some ⟨y,0,none⟩))/\w'.cell? ⟨y,0,none⟩=some (.pointer (some ⟨q1,0,none⟩))/\w'.cell? ⟨y,2,none⟩=some (.string bb)/\w'.cell? ⟨y,1,none⟩=some (.int .i64 m)) (first|assumption|go_keep)
      (first
       |(go_at_call 14;refine P.o.mono ?_;rintro e w8 ⟨x8,K8,rfl,hx8,hK8,hb8⟩;have hb8r:=((Below.refl wr.heap.size wr).drew).trans hb8;have hS8:=KP.o w8 hb8r)
       |fail)
     all_goals
      have HB8:=Z2 (HB7.o.trans (hb8r.mono HB7.o.size));clear hb8 hb8r hS8 hx8 hK8 P KP d0 d1 d2 hcg g1 hz7 hzc hzy HB7;go_wp2_with fail;exact⟨⟨j3+1,by omega,rfl,by go_num,HB8.o⟩,by simp [intOf];omega⟩
    obtain rfl:j3=Ls.length:=by omega
    rename World=>w7
    have HG7:=Z2 hG7;have HB07:=Z2 (HB5.o.trans ((HB6.o.trans (HB7.o.mono HB6.o.size)).mono HB5.o.size));clear hG7 hlt3;go_wp2_with fail;go_loopw [4,9] (fun ok i wx=>∃j:Nat,j<=Ss.length/\ok=.bool true/\i=.int .i64 j/\Turn (KS Ss j) (KS Ss j) w7 wx) (fun _ i _=>Ss.length - (intOf i).toNat)
    case atStart=>exact⟨0,Nat.zero_le _,rfl,rfl,Turn.refl _ _⟩
    case round =>
     clear g1 hz7;obtain⟨j4,hj4,rfl,rfl,ht4⟩:=hrel;obtain⟨k1,k2,k3,k4⟩:=HG7.o.svs ht4;have g2:=C2 k1;have hz2:=Z3 g2;have HBR:=Z2 (ht4.below HB07.o (fun i hi=>(HG7.o.ks hi).1));have HT4:=Z2 ht4;by_cases hlt4:j4<Ss.length
     ·have hlt4I:(j4:Int)<(Ss.length:Int):=by omega
      obtain⟨sb,by_,hsl⟩:∃s b,Ss[j4]?=some (s,b):=⟨Ss[j4].1,Ss[j4].2,List.getElem?_eq_getElem hlt4⟩;obtain⟨gs,hqe,hcg⟩:=k2.at_ (j:=j4) (u:=.pointer (some ⟨sb,0,none⟩)) (by rw[List.getElem?_map,hsl];rfl);subst hqe;have hsv:=k4 j4 sb by_ (Z6 _) hsl;have hlen:=QoW hsv;have F1:=Z2 (Qjv sb by_.data.toList 0 3 wr (HT.o.below HBR.o).tw.tabs hsv);have hzc:=Z3 hcg;have HSL:=Z2 hsl;obtain⟨NN,hNN⟩:∃NN:Nat,(1099511627776:Int).toNat=NN:=⟨_,rfl⟩
      have hNb:by_.size<=NN+3:=by
       have:by_.data.toList.length=by_.size:=rfl;omega
      have HTF:=Z2 (Ql8 hNb)
      have FB:=Z2 (fun W (h:Tabs W) (hS:SV W sb by_.data.toList (0+min (3:Int).toNat (by_.data.toList.length - 0)))=>by
       have q:=Qjv sb by_.data.toList (0+min (3:Int).toNat (by_.data.toList.length - 0)) 1099511627776 W h hS;rw[hNN] at q
       exact q)
      clear k1 k2 k3 k4 hsv ht4 hsl hNN;have h3n:(3:Int).toNat=3:=rfl;rw[h3n] at F1 FB;generalize hA1:(⟨((by_.data.toList.drop 0).take 3).toArray⟩:ByteArray)=A1 at *
      have hA1s:A1.size<=3:=by
       rw[<-hA1];show ((by_.data.toList.drop 0).take 3).length<=3;rw[List.length_take];omega
      clear hA1;go_wp2_with fail;refine F1.o.mono ?_;rintro e w8 ⟨rfl,hsv8,hn8⟩;have ht8:=Qob HT4.o HSL.o hn8;obtain⟨k1,k2,k3,k4⟩:=HG7.o.svs ht8;have hb8:=ht8.below HB07.o (fun i hi=>(HG7.o.ks hi).1);have F2:=Z2 (FB.o w8 (HT.o.below hb8).tw.tabs hsv8);have g2:=C2 k1;obtain⟨gs',hqe,hcg⟩:=k2.at_ (j:=j4) (u:=.pointer (some ⟨sb,0,none⟩)) (by rw[List.getElem?_map,HSL.o];rfl);injection hqe with hqe
      injection hqe with hqe
      subst hqe;have hz2:=Z3 g2;have hzc:=Z3 hcg;have HT8:=Z2 ht8;clear F1 FB k1 k2 k3 k4 hsv8 hn8 ht8 hb8 HT4 HBR;generalize hB1:(⟨((by_.data.toList.drop (0+min 3 (by_.data.toList.length - 0))).take NN).toArray⟩:ByteArray)=B1 at *;have hAB:=HTF.o
      have hB1s:A1.size+B1.size<=1099511627779:=by
       have h1:=congrArg ByteArray.size hAB;rw[ByteArray.size_append] at h1;have:by_.data.toList.length=by_.size:=rfl;omega
      have n1:¬9223372036854775807<A1.size+B1.size:=by omega
      clear hB1 HTF;go_wp2_with fail;refine F2.o.mono ?_;rintro e w9 ⟨rfl,hsv9,hn9⟩;have ht9:=Qot HT8.o HSL.o hn9;obtain⟨k1,k2,k3,k4⟩:=HG7.o.svs ht9;have g3:=C3 k1;obtain⟨gt,hqe,hct⟩:=k3.at_ (j:=j4) (u:=.string by_) (by rw[List.getElem?_map,List.getElem?_map,HSL.o];rfl);subst hqe;have hz3:=Z3 g3;have hz4:=Z3 hct;have HT9:=Z2 ht9;have HAB:=Z2 hAB;clear F2 k1 k2 k3 k4 hsv9 hn9 ht9 HT8 g2 hcg hz2 hzc hAB HSL;go_wp2_with fail;refine⟨⟨j4+1,by omega,?_,by go_num,HT9.o⟩,by simp [intOf];omega⟩;rw[HAB.o];simp
     obtain rfl:j4=Ss.length:=by omega
     clear k1 k2 k3 k4 ht4 hlt4;go_wp2_with fail;go_ret;exact⟨rfl,HBR.o⟩
end Go.Proofs.YtoejbngihecafaaGreatDoor
