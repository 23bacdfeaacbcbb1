import Derived.Test.YtoejbngihecafaaGreatDoorC11
import Derived.Test.YtoejbngihecafaaGreatDoorC0
set_option maxRecDepth 100000
set_option maxHeartbeats 1000000
open Go.Proofs.Tryz
namespace Go.Proofs.YtoejbngihecafaaGreatDoor
open Go.RowKit
theorem QoE {Bn Br B1 B2 B3 h hr:Nat} {c cr:Cn} {l rl rr m:Nd} {w w':World} (on:(Nd.inner Bn c h l (Nd.inner Br cr hr rl rr)).Ok) (om:m.Ok) (h1:m.lev+1<h) (h2:l.lev<hr)
  (hi:(Nd.inner B3 ((l.cn.plus rl.cn).plus (rr.cn.plus m.cn)) (1+max (1+max l.lev rl.lev) (1+max rr.lev m.lev)) (Nd.inner B1 (l.cn.plus rl.cn) (1+max l.lev rl.lev) l rl) (Nd.inner B2 (rr.cn.plus m.cn) (1+max rr.lev m.lev) rr m)).In w') (hb:Below w.heap.size w w') :
  Made (Nd.inner Bn c h l (Nd.inner Br cr hr rl rr)) m w (.returned (.iface 215 (.pointer (some ⟨B3,0,none⟩)))) w' (Nd.inner B3 ((l.cn.plus rl.cn).plus (rr.cn.plus m.cn)) (1+max (1+max l.lev rl.lev) (1+max rr.lev m.lev)) (Nd.inner B1 (l.cn.plus rl.cn) (1+max l.lev rl.lev) l rl) (Nd.inner B2 (rr.cn.plus m.cn) (1+max rr.lev m.lev) rr m)):=by
 obtain⟨hc,hh,ol,hcr,hhr,orl,orr⟩:=on
 refine⟨rfl,hi,⟨rfl,rfl,⟨rfl,rfl,ol,orl⟩,rfl,rfl,orr,om⟩,?_,?_,?_,?_,hb⟩
 ·show _=c.plus m.cn;rw[hc];show (l.cn.plus rl.cn).plus (rr.cn.plus m.cn)=(l.cn.plus cr).plus m.cn;rw[hcr,Cn.plus_assoc,Cn.plus_assoc,Cn.plus_assoc]
 ·simp [Nd.row]
 ·show max h m.lev<=1+max (1+max l.lev rl.lev) (1+max rr.lev m.lev);have hh':h=1+max l.lev hr:=hh;omega
 show 1+max (1+max l.lev rl.lev) (1+max rr.lev m.lev)<=1+max h m.lev
 have hh':h=1+max l.lev hr:=hh
 omega
section
variable {Bn Br:Nat} {c cr:Cn} {h hr:Nat} {l rl rr m:Nd} {w w1 w2:World}
theorem Qg9 (H:Two (Nd.inner Bn c h l (Nd.inner Br cr hr rl rr)) m w w1):w1.cell? ⟨Bn,9,none⟩=some (.iface l.ty (.pointer (some ⟨l.blk,0,none⟩)))/\w1.cell? ⟨Bn,10,none⟩=some (.iface 215 (.pointer (some ⟨Br,0,none⟩)))/\w1.cell? ⟨Br,9,none⟩=some (.iface rl.ty (.pointer (some ⟨rl.blk,0,none⟩)))/\w1.cell? ⟨Br,10,none⟩=some (.iface rr.ty (.pointer (some ⟨rr.blk,0,none⟩)))/\Two (Nd.inner Bn c h l (Nd.inner Br cr hr rl rr)) m w w1 :=
 ⟨(Qal H.n).1,(Qal H.n).2,(Qal H.n.2.2).1,(Qal H.n.2.2).2,H⟩
theorem Qer (H:w1.cell? ⟨Bn,9,none⟩=some (.iface l.ty (.pointer (some ⟨l.blk,0,none⟩)))/\w1.cell? ⟨Bn,10,none⟩=some (.iface 215 (.pointer (some ⟨Br,0,none⟩)))/\w1.cell? ⟨Br,9,none⟩=some (.iface rl.ty (.pointer (some ⟨rl.blk,0,none⟩)))/\w1.cell? ⟨Br,10,none⟩=some (.iface rr.ty (.pointer (some ⟨rr.blk,0,none⟩)))/\Two (Nd.inner Bn c h l (Nd.inner Br cr hr rl rr)) m w w1) (hb:Below w1.heap.size w1 w2):w2.cell? ⟨Bn,9,none⟩=some (.iface l.ty (.pointer (some ⟨l.blk,0,none⟩)))/\w2.cell? ⟨Bn,10,none⟩=some (.iface 215 (.pointer (some ⟨Br,0,none⟩)))/\w2.cell? ⟨Br,9,none⟩=some (.iface rl.ty (.pointer (some ⟨rl.blk,0,none⟩)))/\w2.cell? ⟨Br,10,none⟩=some (.iface rr.ty (.pointer (some ⟨rr.blk,0,none⟩)))/\Two (Nd.inner Bn c h l (Nd.inner Br cr hr rl rr)) m w w2:=Qg9 (H.2.2.2.2.step hb)
theorem QlF (H:w1.cell? ⟨Bn,9,none⟩=some (.iface l.ty (.pointer (some ⟨l.blk,0,none⟩)))/\w1.cell? ⟨Bn,10,none⟩=some (.iface 215 (.pointer (some ⟨Br,0,none⟩)))/\w1.cell? ⟨Br,9,none⟩=some (.iface rl.ty (.pointer (some ⟨rl.blk,0,none⟩)))/\w1.cell? ⟨Br,10,none⟩=some (.iface rr.ty (.pointer (some ⟨rr.blk,0,none⟩)))/\Two (Nd.inner Bn c h l (Nd.inner Br cr hr rl rr)) m w w1):w1.drew.cell? ⟨Bn,9,none⟩=some (.iface l.ty (.pointer (some ⟨l.blk,0,none⟩)))/\w1.drew.cell? ⟨Bn,10,none⟩=some (.iface 215 (.pointer (some ⟨Br,0,none⟩)))/\w1.drew.cell? ⟨Br,9,none⟩=some (.iface rl.ty (.pointer (some ⟨rl.blk,0,none⟩)))/\w1.drew.cell? ⟨Br,10,none⟩=some (.iface rr.ty (.pointer (some ⟨rr.blk,0,none⟩)))/\Two (Nd.inner Bn c h l (Nd.inner Br cr hr rl rr)) m w w1.drew:=Qer H ((Below.refl _ _).drew)
theorem A2_l (H:w1.cell? ⟨Bn,9,none⟩=some (.iface l.ty (.pointer (some ⟨l.blk,0,none⟩)))/\w1.cell? ⟨Bn,10,none⟩=some (.iface 215 (.pointer (some ⟨Br,0,none⟩)))/\w1.cell? ⟨Br,9,none⟩=some (.iface rl.ty (.pointer (some ⟨rl.blk,0,none⟩)))/\w1.cell? ⟨Br,10,none⟩=some (.iface rr.ty (.pointer (some ⟨rr.blk,0,none⟩)))/\Two (Nd.inner Bn c h l (Nd.inner Br cr hr rl rr)) m w w1):l.In w1:=H.2.2.2.2.n.2.1
theorem A2_r (H:w1.cell? ⟨Bn,9,none⟩=some (.iface l.ty (.pointer (some ⟨l.blk,0,none⟩)))/\w1.cell? ⟨Bn,10,none⟩=some (.iface 215 (.pointer (some ⟨Br,0,none⟩)))/\w1.cell? ⟨Br,9,none⟩=some (.iface rl.ty (.pointer (some ⟨rl.blk,0,none⟩)))/\w1.cell? ⟨Br,10,none⟩=some (.iface rr.ty (.pointer (some ⟨rr.blk,0,none⟩)))/\Two (Nd.inner Bn c h l (Nd.inner Br cr hr rl rr)) m w w1):(Nd.inner Br cr hr rl rr).In w1:=H.2.2.2.2.n.2.2
theorem A2_rl (H:w1.cell? ⟨Bn,9,none⟩=some (.iface l.ty (.pointer (some ⟨l.blk,0,none⟩)))/\w1.cell? ⟨Bn,10,none⟩=some (.iface 215 (.pointer (some ⟨Br,0,none⟩)))/\w1.cell? ⟨Br,9,none⟩=some (.iface rl.ty (.pointer (some ⟨rl.blk,0,none⟩)))/\w1.cell? ⟨Br,10,none⟩=some (.iface rr.ty (.pointer (some ⟨rr.blk,0,none⟩)))/\Two (Nd.inner Bn c h l (Nd.inner Br cr hr rl rr)) m w w1):rl.In w1:=H.2.2.2.2.n.2.2.2.1
theorem A2_rr (H:w1.cell? ⟨Bn,9,none⟩=some (.iface l.ty (.pointer (some ⟨l.blk,0,none⟩)))/\w1.cell? ⟨Bn,10,none⟩=some (.iface 215 (.pointer (some ⟨Br,0,none⟩)))/\w1.cell? ⟨Br,9,none⟩=some (.iface rl.ty (.pointer (some ⟨rl.blk,0,none⟩)))/\w1.cell? ⟨Br,10,none⟩=some (.iface rr.ty (.pointer (some ⟨rr.blk,0,none⟩)))/\Two (Nd.inner Bn c h l (Nd.inner Br cr hr rl rr)) m w w1):rr.In w1:=H.2.2.2.2.n.2.2.2.2
theorem A2_m (H:w1.cell? ⟨Bn,9,none⟩=some (.iface l.ty (.pointer (some ⟨l.blk,0,none⟩)))/\w1.cell? ⟨Bn,10,none⟩=some (.iface 215 (.pointer (some ⟨Br,0,none⟩)))/\w1.cell? ⟨Br,9,none⟩=some (.iface rl.ty (.pointer (some ⟨rl.blk,0,none⟩)))/\w1.cell? ⟨Br,10,none⟩=some (.iface rr.ty (.pointer (some ⟨rr.blk,0,none⟩)))/\Two (Nd.inner Bn c h l (Nd.inner Br cr hr rl rr)) m w w1):m.In w1:=H.2.2.2.2.m
end
theorem Qkd (Bn Br:Nat) (c cr:Cn) (h hr:Nat) (l rl rr m:Nd) (w:World) (hn:(Nd.inner Bn c h l (Nd.inner Br cr hr rl rr)).In w) (hm:m.In w) (on:(Nd.inner Bn c h l (Nd.inner Br cr hr rl rr)).Ok) (om:m.Ok) (hs:(c.plus m.cn).Small) (hrow:(Nd.inner Bn c h l (Nd.inner Br cr hr rl rr)).row.length+m.row.length<=1152921504606846976) (h1:m.lev+1<h) (h2:l.lev<hr) :
  Calls prog 144 #[(Nd.inner Bn c h l (Nd.inner Br cr hr rl rr)).val,m.val] w fun e w'=>∃q,Made (Nd.inner Bn c h l (Nd.inner Br cr hr rl rr)) m w e w' q:=by
 have l1:h<_:=Nd.lev_row on
 have l2:=Nd.lev_row om
 have l3:=Nd.lev_row on.2.2.1
 have l4:=Nd.lev_row on.2.2.2.2.2.1
 have l5:=Nd.lev_row on.2.2.2.2.2.2
 have l6:hr<_:=Nd.lev_row on.2.2.2
 have hrow2:(Nd.inner Bn c h l (Nd.inner Br cr hr rl rr)).row.length=l.row.length+(rl.row.length+rr.row.length):=by simp [Nd.row]
 have H:=Z1 (Two.mk hn hm (Below.refl w.heap.size w))
 have hcc:c.plus m.cn=(l.cn.plus rl.cn).plus (rr.cn.plus m.cn):=by
  have e1:c=l.cn.plus cr:=on.1;have e2:cr=rl.cn.plus rr.cn:=on.2.2.2.1;rw[e1,e2,Cn.plus_assoc,Cn.plus_assoc,Cn.plus_assoc]
 rw[hcc] at hs
 have HA1:=Z1 (fun w1 (hn:l.In w1) (hm:rl.In w1)=>QaY l rl w1 hn hm hs.left.left hs.left.right (by omega) (by omega))
 have HA2:=Z1 (fun w1 (hn:rr.In w1) (hm:m.In w1)=>QaY rr m w1 hn hm hs.right.left hs.right.right (by omega) (by omega))
 have HA3:=Z1 (fun B1 B2 w1 (hn:(Nd.inner B1 (l.cn.plus rl.cn) (1+max l.lev rl.lev) l rl).In w1) (hm:(Nd.inner B2 (rr.cn.plus m.cn) (1+max rr.lev m.lev) rr m).In w1)=>QaY (Nd.inner B1 (l.cn.plus rl.cn) (1+max l.lev rl.lev) l rl) (Nd.inner B2 (rr.cn.plus m.cn) (1+max rr.lev m.lev) rr m) w1 hn hm hs.left hs.right (by show 1+max l.lev rl.lev<=_;omega) (by show 1+max rr.lev m.lev<=_;omega))
 have HQ:=Z1 (fun B1 B2 B3 w'=>@QoE Bn Br B1 B2 B3 h hr c cr l rl rr m w w' on om h1 h2)
 clear hcc hs
 rw[m.val_eq]
 simp only[Nd.val]
 generalize hj:m.lev=j at l2 h1
 have HJ:=Z1 hj
 clear hj hn hm on om
 have ta:=Qbq
 go_enter func144,ntmps144
 go_wp2_with fail
 rw [show (method 363 215 (.pointer (some ⟨Bn, 0, none⟩)) "vellum/atoms.level").run prog _ = _ from Qac (Nd.inner Bn c h l (Nd.inner Br cr hr rl rr)) 362 _ H.o.n]
 go_wp2_with fail
 refine (Qad c h _).mono ?_
 rintro e w1 ⟨rfl,hb⟩
 replace H:=Z1 (H.o.step hb)
 clear hb
 go_wp2_with fail
 rw[Qac m 362 _ H.o.m,HJ.o]
 go_wp2_with fail
 refine (Qad m.cn j _).mono ?_
 rintro e w2 ⟨rfl,hb⟩
 replace H:=Z1 (H.o.step hb)
 clear hb w1
 have hS:=Qg9 H.o
 obtain⟨p9,p10,q9,q10,_⟩:=Qg9 H.o
 generalize hlk:l.lev=lk at *
 have HLK:=Z1 hlk
 clear hlk
 go_wp2_with fail
 go_region_held3 (fun w'=>w'.cell? ⟨Bn,9,none⟩=some (.iface l.ty (.pointer (some ⟨l.blk,0,none⟩)))/\w'.cell? ⟨Bn,10,none⟩=some (.iface 215 (.pointer (some ⟨Br,0,none⟩)))/\w'.cell? ⟨Br,9,none⟩=some (.iface rl.ty (.pointer (some ⟨rl.blk,0,none⟩)))/\w'.cell? ⟨Br,10,none⟩=some (.iface rr.ty (.pointer (some ⟨rr.blk,0,none⟩)))/\Two (Nd.inner Bn c h l (Nd.inner Br cr hr rl rr)) m w w')
  (first|assumption|exact QlF (by assumption))
  (first
   |rw[Qac l 362 _ (A2_l (by assumption)),HLK.o]
   | rw [show (method 363 215 (.pointer (some ⟨Br, 0, none⟩)) "vellum/atoms.level").run prog _ = _ from Qac (Nd.inner Br cr hr rl rr) 362 _ (A2_r (by assumption))]
   |(go_at_call 199;first|(refine (Qad l.cn lk _).mono ?_;rintro e w3 ⟨rfl,hb3⟩;have hS3:=Qer (by assumption) hb3)|(refine (Qad cr hr _).mono ?_;rintro e w4 ⟨rfl,hb4⟩;have hS4:=Qer (by assumption) hb4)))
 clear p9 p10 q9 q10
 obtain⟨p9,p10,q9,q10,_⟩:=hS4
 go_wp2_with fail
 go_region_held3 (fun w'=>w'.cell? ⟨Bn,9,none⟩=some (.iface l.ty (.pointer (some ⟨l.blk,0,none⟩)))/\w'.cell? ⟨Bn,10,none⟩=some (.iface 215 (.pointer (some ⟨Br,0,none⟩)))/\w'.cell? ⟨Br,9,none⟩=some (.iface rl.ty (.pointer (some ⟨rl.blk,0,none⟩)))/\w'.cell? ⟨Br,10,none⟩=some (.iface rr.ty (.pointer (some ⟨rr.blk,0,none⟩)))/\Two (Nd.inner Bn c h l (Nd.inner Br cr hr rl rr)) m w w')
  (first|assumption|exact QlF (by assumption))
  (first
   |(go_at_call 145;first
    |(refine (HA3.o B1 B2 _ (by assumption) (by assumption)).mono ?_;rintro e w7 ⟨B3,rfl,hi7,hb7⟩;have hS7:=Qer (by assumption) hb7)
    |(have hB1:=Z6 B1;refine (HA2.o _ (A2_rr (by assumption)) (A2_m (by assumption))).mono ?_;rintro e w6 ⟨B2,rfl,hi6,hb6⟩;have hi56:=Nd.low hb6 hi5;have hS6:=Qer (by assumption) hb6)
    |(refine (HA1.o _ (A2_l (by assumption)) (A2_rl (by assumption))).mono ?_;rintro e w5 ⟨B1,rfl,hi5,hb5⟩;have hS5:=Qer (by assumption) hb5)))
 go_wp2_with fail
 go_ret
 exact⟨_,HQ.o B1 B2 B3 w7 hi7 hS7.2.2.2.2.b⟩
theorem Qn7 {Bm B1 B2 h:Nat} {c:Cn} {n l r:Nd} {w w':World} (on:n.Ok) (om:(Nd.inner Bm c h l r).Ok) (h1:n.lev+1<h) (h2:l.lev<=r.lev)
  (hi:(Nd.inner B2 ((n.cn.plus l.cn).plus r.cn) (1+max (1+max n.lev l.lev) r.lev) (Nd.inner B1 (n.cn.plus l.cn) (1+max n.lev l.lev) n l) r).In w') (hb:Below w.heap.size w w') :
  Made n (Nd.inner Bm c h l r) w (.returned (.iface 215 (.pointer (some ⟨B2,0,none⟩)))) w' (Nd.inner B2 ((n.cn.plus l.cn).plus r.cn) (1+max (1+max n.lev l.lev) r.lev) (Nd.inner B1 (n.cn.plus l.cn) (1+max n.lev l.lev) n l) r):=by
 obtain⟨hc,hh,ol,or⟩:=om
 refine⟨rfl,hi,⟨rfl,rfl,⟨rfl,rfl,on,ol⟩,or⟩,?_,?_,?_,?_,hb⟩
 ·show _=n.cn.plus c;rw[hc,<-Cn.plus_assoc];rfl
 ·simp [Nd.row]
 ·show max n.lev h<=1+max (1+max n.lev l.lev) r.lev;omega
 show 1+max (1+max n.lev l.lev) r.lev<=1+max n.lev h
 omega
section
variable {Bm:Nat} {c:Cn} {h:Nat} {n l r:Nd} {w w1 w2:World}
theorem Qf1 (H:Two n (Nd.inner Bm c h l r) w w1):w1.cell? ⟨Bm,9,none⟩=some (.iface l.ty (.pointer (some ⟨l.blk,0,none⟩)))/\w1.cell? ⟨Bm,10,none⟩=some (.iface r.ty (.pointer (some ⟨r.blk,0,none⟩)))/\Two n (Nd.inner Bm c h l r) w w1 :=
 ⟨(Qal H.m).1,(Qal H.m).2,H⟩
theorem QfP (H:w1.cell? ⟨Bm,9,none⟩=some (.iface l.ty (.pointer (some ⟨l.blk,0,none⟩)))/\w1.cell? ⟨Bm,10,none⟩=some (.iface r.ty (.pointer (some ⟨r.blk,0,none⟩)))/\Two n (Nd.inner Bm c h l r) w w1) (hb:Below w1.heap.size w1 w2):w2.cell? ⟨Bm,9,none⟩=some (.iface l.ty (.pointer (some ⟨l.blk,0,none⟩)))/\w2.cell? ⟨Bm,10,none⟩=some (.iface r.ty (.pointer (some ⟨r.blk,0,none⟩)))/\Two n (Nd.inner Bm c h l r) w w2:=Qf1 (H.2.2.step hb)
theorem Qlq (H:w1.cell? ⟨Bm,9,none⟩=some (.iface l.ty (.pointer (some ⟨l.blk,0,none⟩)))/\w1.cell? ⟨Bm,10,none⟩=some (.iface r.ty (.pointer (some ⟨r.blk,0,none⟩)))/\Two n (Nd.inner Bm c h l r) w w1):w1.drew.cell? ⟨Bm,9,none⟩=some (.iface l.ty (.pointer (some ⟨l.blk,0,none⟩)))/\w1.drew.cell? ⟨Bm,10,none⟩=some (.iface r.ty (.pointer (some ⟨r.blk,0,none⟩)))/\Two n (Nd.inner Bm c h l r) w w1.drew:=QfP H ((Below.refl _ _).drew)
theorem B_l (H:w1.cell? ⟨Bm,9,none⟩=some (.iface l.ty (.pointer (some ⟨l.blk,0,none⟩)))/\w1.cell? ⟨Bm,10,none⟩=some (.iface r.ty (.pointer (some ⟨r.blk,0,none⟩)))/\Two n (Nd.inner Bm c h l r) w w1):l.In w1:=H.2.2.m.2.1
theorem B_r (H:w1.cell? ⟨Bm,9,none⟩=some (.iface l.ty (.pointer (some ⟨l.blk,0,none⟩)))/\w1.cell? ⟨Bm,10,none⟩=some (.iface r.ty (.pointer (some ⟨r.blk,0,none⟩)))/\Two n (Nd.inner Bm c h l r) w w1):r.In w1:=H.2.2.m.2.2
theorem B_n (H:w1.cell? ⟨Bm,9,none⟩=some (.iface l.ty (.pointer (some ⟨l.blk,0,none⟩)))/\w1.cell? ⟨Bm,10,none⟩=some (.iface r.ty (.pointer (some ⟨r.blk,0,none⟩)))/\Two n (Nd.inner Bm c h l r) w w1):n.In w1:=H.2.2.n
end
theorem Qka (Bm:Nat) (c:Cn) (h:Nat) (n l r:Nd) (w:World) (hn:n.In w) (hm:(Nd.inner Bm c h l r).In w) (on:n.Ok) (om:(Nd.inner Bm c h l r).Ok) (hs:(n.cn.plus c).Small) (hr:n.row.length+(Nd.inner Bm c h l r).row.length<=1152921504606846976) (h1:n.lev+1<h) (h2:l.lev<=r.lev) :
  Calls prog 144 #[n.val,(Nd.inner Bm c h l r).val] w fun e w'=>∃q,Made n (Nd.inner Bm c h l r) w e w' q:=by
 have l1:h<_:=Nd.lev_row om
 have l2:=Nd.lev_row on
 have l3:=Nd.lev_row om.2.2.1
 have l4:=Nd.lev_row om.2.2.2
 have hrow:(Nd.inner Bm c h l r).row.length=l.row.length+r.row.length:=by simp [Nd.row]
 have H:=Z1 (Two.mk hn hm (Below.refl w.heap.size w))
 have hcc:n.cn.plus c=(n.cn.plus l.cn).plus r.cn:=by rw[om.1,Cn.plus_assoc]
 rw[hcc] at hs
 have HA1:=Z1 (fun w1 (hn:n.In w1) (hm:l.In w1)=>QaY n l w1 hn hm hs.left.left hs.left.right (by omega) (by omega))
 have HA2:=Z1 (fun B1 w1 (hn:(Nd.inner B1 (n.cn.plus l.cn) (1+max n.lev l.lev) n l).In w1) (hm:r.In w1)=>QaY (Nd.inner B1 (n.cn.plus l.cn) (1+max n.lev l.lev) n l) r w1 hn hm hs.left hs.right (by show 1+max n.lev l.lev<=_;omega) (by omega))
 have HQ:=Z1 (fun B1 B2 w'=>@Qn7 Bm B1 B2 h c n l r w w' on om h1 h2)
 clear hcc hs
 rw[n.val_eq]
 simp only[Nd.val]
 generalize hj:n.lev=j at l2 h1
 have HJ:=Z1 hj
 clear hj hn hm on om
 have ta:=Qbq
 go_enter func144,ntmps144
 go_wp2_with fail
 rw[Qac n 362 _ H.o.n,HJ.o]
 go_wp2_with fail
 refine (Qad n.cn j _).mono ?_
 rintro e w1 ⟨rfl,hb⟩
 replace H:=Z1 (H.o.step hb)
 clear hb
 go_wp2_with fail
 rw [show (method 363 215 (.pointer (some ⟨Bm, 0, none⟩)) "vellum/atoms.level").run prog _ = _ from Qac (Nd.inner Bm c h l r) 362 _ H.o.m]
 go_wp2_with fail
 refine (Qad c h _).mono ?_
 rintro e w2 ⟨rfl,hb⟩
 replace H:=Z1 (H.o.step hb)
 clear hb w1
 go_wp2_with fail
 rw [show (method 363 215 (.pointer (some ⟨Bm, 0, none⟩)) "vellum/atoms.level").run prog _ = _ from Qac (Nd.inner Bm c h l r) 362 _ H.o.m]
 go_wp2_with fail
 refine (Qad c h _).mono ?_
 rintro e w1 ⟨rfl,hb⟩
 replace H:=Z1 (H.o.step hb)
 clear hb w2
 go_wp2_with fail
 rw[Qac n 362 _ H.o.n,HJ.o]
 go_wp2_with fail
 refine (Qad n.cn j _).mono ?_
 rintro e w2 ⟨rfl,hb⟩
 replace H:=Z1 (H.o.step hb)
 clear hb w1
 have hS:=Qf1 H.o
 obtain⟨p9,p10,_⟩:=Qf1 H.o
 generalize hlk:l.lev=lk at *
 generalize hrk:r.lev=rk at *
 have HLK:=Z1 hlk
 have HRK:=Z1 hrk
 clear hlk hrk
 go_wp2_with fail
 go_region_held3 (fun w'=>w'.cell? ⟨Bm,9,none⟩=some (.iface l.ty (.pointer (some ⟨l.blk,0,none⟩)))/\w'.cell? ⟨Bm,10,none⟩=some (.iface r.ty (.pointer (some ⟨r.blk,0,none⟩)))/\Two n (Nd.inner Bm c h l r) w w')
  (first|assumption|exact Qlq (by assumption))
  (first
   |rw[Qac r 362 _ (B_r (by assumption)),HRK.o]
   |rw[Qac l 362 _ (B_l (by assumption)),HLK.o]
   |(go_at_call 199;first|(refine (Qad r.cn rk _).mono ?_;rintro e w3 ⟨rfl,hb3⟩;have hS3:=QfP (by assumption) hb3)|(refine (Qad l.cn lk _).mono ?_;rintro e w4 ⟨rfl,hb4⟩;have hS4:=QfP (by assumption) hb4)))
 clear p9 p10
 obtain⟨p9,p10,_⟩:=hS4
 go_wp2_with fail
 go_region_held3 (fun w'=>w'.cell? ⟨Bm,9,none⟩=some (.iface l.ty (.pointer (some ⟨l.blk,0,none⟩)))/\w'.cell? ⟨Bm,10,none⟩=some (.iface r.ty (.pointer (some ⟨r.blk,0,none⟩)))/\Two n (Nd.inner Bm c h l r) w w')
  (first|assumption|exact Qlq (by assumption))
  (first
   |(go_at_call 145;first
    |(refine (HA2.o B1 _ (by assumption) (B_r (by assumption))).mono ?_;rintro e w6 ⟨B2,rfl,hi6,hb6⟩;have hS6:=QfP (by assumption) hb6)
    |(refine (HA1.o _ (B_n (by assumption)) (B_l (by assumption))).mono ?_;rintro e w5 ⟨B1,rfl,hi5,hb5⟩;have hS5:=QfP (by assumption) hb5)))
 go_wp2_with fail
 go_ret
 exact⟨_,HQ.o B1 B2 w6 hi6 hS6.2.2.b⟩
theorem QoC {Bm Bl B1 B2 B3 h hl:Nat} {c cl:Cn} {n ll lr r:Nd} {w w':World} (on:n.Ok) (om:(Nd.inner Bm c h (Nd.inner Bl cl hl ll lr) r).Ok) (h1:n.lev+1<h) (h2:r.lev<hl)
  (hi:(Nd.inner B3 ((n.cn.plus ll.cn).plus (lr.cn.plus r.cn)) (1+max (1+max n.lev ll.lev) (1+max lr.lev r.lev)) (Nd.inner B1 (n.cn.plus ll.cn) (1+max n.lev ll.lev) n ll) (Nd.inner B2 (lr.cn.plus r.cn) (1+max lr.lev r.lev) lr r)).In w') (hb:Below w.heap.size w w') :
  Made n (Nd.inner Bm c h (Nd.inner Bl cl hl ll lr) r) w (.returned (.iface 215 (.pointer (some ⟨B3,0,none⟩)))) w' (Nd.inner B3 ((n.cn.plus ll.cn).plus (lr.cn.plus r.cn)) (1+max (1+max n.lev ll.lev) (1+max lr.lev r.lev)) (Nd.inner B1 (n.cn.plus ll.cn) (1+max n.lev ll.lev) n ll) (Nd.inner B2 (lr.cn.plus r.cn) (1+max lr.lev r.lev) lr r)):=by
 obtain⟨hc,hh,⟨hcl,hhl,oll,olr⟩,or⟩:=om
 refine⟨rfl,hi,⟨rfl,rfl,⟨rfl,rfl,on,oll⟩,rfl,rfl,olr,or⟩,?_,?_,?_,?_,hb⟩
 ·show _=n.cn.plus c;rw[hc];show (n.cn.plus ll.cn).plus (lr.cn.plus r.cn)=n.cn.plus (cl.plus r.cn);rw[hcl,Cn.plus_assoc,Cn.plus_assoc]
 ·simp [Nd.row]
 ·show max n.lev h<=1+max (1+max n.lev ll.lev) (1+max lr.lev r.lev);have hh':h=1+max hl r.lev:=hh;omega
 show 1+max (1+max n.lev ll.lev) (1+max lr.lev r.lev)<=1+max n.lev h
 have hh':h=1+max hl r.lev:=hh
 omega
section
variable {Bm Bl:Nat} {c cl:Cn} {h hl:Nat} {n ll lr r:Nd} {w w1 w2:World}
theorem QgL (H:Two n (Nd.inner Bm c h (Nd.inner Bl cl hl ll lr) r) w w1):w1.cell? ⟨Bm,9,none⟩=some (.iface 215 (.pointer (some ⟨Bl,0,none⟩)))/\w1.cell? ⟨Bm,10,none⟩=some (.iface r.ty (.pointer (some ⟨r.blk,0,none⟩)))/\w1.cell? ⟨Bl,9,none⟩=some (.iface ll.ty (.pointer (some ⟨ll.blk,0,none⟩)))/\w1.cell? ⟨Bl,10,none⟩=some (.iface lr.ty (.pointer (some ⟨lr.blk,0,none⟩)))/\Two n (Nd.inner Bm c h (Nd.inner Bl cl hl ll lr) r) w w1 :=
 ⟨(Qal H.m).1,(Qal H.m).2,(Qal H.m.2.1).1,(Qal H.m.2.1).2,H⟩
theorem Qef (H:w1.cell? ⟨Bm,9,none⟩=some (.iface 215 (.pointer (some ⟨Bl,0,none⟩)))/\w1.cell? ⟨Bm,10,none⟩=some (.iface r.ty (.pointer (some ⟨r.blk,0,none⟩)))/\w1.cell? ⟨Bl,9,none⟩=some (.iface ll.ty (.pointer (some ⟨ll.blk,0,none⟩)))/\w1.cell? ⟨Bl,10,none⟩=some (.iface lr.ty (.pointer (some ⟨lr.blk,0,none⟩)))/\Two n (Nd.inner Bm c h (Nd.inner Bl cl hl ll lr) r) w w1) (hb:Below w1.heap.size w1 w2):w2.cell? ⟨Bm,9,none⟩=some (.iface 215 (.pointer (some ⟨Bl,0,none⟩)))/\w2.cell? ⟨Bm,10,none⟩=some (.iface r.ty (.pointer (some ⟨r.blk,0,none⟩)))/\w2.cell? ⟨Bl,9,none⟩=some (.iface ll.ty (.pointer (some ⟨ll.blk,0,none⟩)))/\w2.cell? ⟨Bl,10,none⟩=some (.iface lr.ty (.pointer (some ⟨lr.blk,0,none⟩)))/\Two n (Nd.inner Bm c h (Nd.inner Bl cl hl ll lr) r) w w2:=QgL (H.2.2.2.2.step hb)
theorem QlQ (H:w1.cell? ⟨Bm,9,none⟩=some (.iface 215 (.pointer (some ⟨Bl,0,none⟩)))/\w1.cell? ⟨Bm,10,none⟩=some (.iface r.ty (.pointer (some ⟨r.blk,0,none⟩)))/\w1.cell? ⟨Bl,9,none⟩=some (.iface ll.ty (.pointer (some ⟨ll.blk,0,none⟩)))/\w1.cell? ⟨Bl,10,none⟩=some (.iface lr.ty (.pointer (some ⟨lr.blk,0,none⟩)))/\Two n (Nd.inner Bm c h (Nd.inner Bl cl hl ll lr) r) w w1):w1.drew.cell? ⟨Bm,9,none⟩=some (.iface 215 (.pointer (some ⟨Bl,0,none⟩)))/\w1.drew.cell? ⟨Bm,10,none⟩=some (.iface r.ty (.pointer (some ⟨r.blk,0,none⟩)))/\w1.drew.cell? ⟨Bl,9,none⟩=some (.iface ll.ty (.pointer (some ⟨ll.blk,0,none⟩)))/\w1.drew.cell? ⟨Bl,10,none⟩=some (.iface lr.ty (.pointer (some ⟨lr.blk,0,none⟩)))/\Two n (Nd.inner Bm c h (Nd.inner Bl cl hl ll lr) r) w w1.drew:=Qef H ((Below.refl _ _).drew)
theorem B2_l (H:w1.cell? ⟨Bm,9,none⟩=some (.iface 215 (.pointer (some ⟨Bl,0,none⟩)))/\w1.cell? ⟨Bm,10,none⟩=some (.iface r.ty (.pointer (some ⟨r.blk,0,none⟩)))/\w1.cell? ⟨Bl,9,none⟩=some (.iface ll.ty (.pointer (some ⟨ll.blk,0,none⟩)))/\w1.cell? ⟨Bl,10,none⟩=some (.iface lr.ty (.pointer (some ⟨lr.blk,0,none⟩)))/\Two n (Nd.inner Bm c h (Nd.inner Bl cl hl ll lr) r) w w1):(Nd.inner Bl cl hl ll lr).In w1:=H.2.2.2.2.m.2.1
theorem B2_ll (H:w1.cell? ⟨Bm,9,none⟩=some (.iface 215 (.pointer (some ⟨Bl,0,none⟩)))/\w1.cell? ⟨Bm,10,none⟩=some (.iface r.ty (.pointer (some ⟨r.blk,0,none⟩)))/\w1.cell? ⟨Bl,9,none⟩=some (.iface ll.ty (.pointer (some ⟨ll.blk,0,none⟩)))/\w1.cell? ⟨Bl,10,none⟩=some (.iface lr.ty (.pointer (some ⟨lr.blk,0,none⟩)))/\Two n (Nd.inner Bm c h (Nd.inner Bl cl hl ll lr) r) w w1):ll.In w1:=H.2.2.2.2.m.2.1.2.1
theorem B2_lr (H:w1.cell? ⟨Bm,9,none⟩=some (.iface 215 (.pointer (some ⟨Bl,0,none⟩)))/\w1.cell? ⟨Bm,10,none⟩=some (.iface r.ty (.pointer (some ⟨r.blk,0,none⟩)))/\w1.cell? ⟨Bl,9,none⟩=some (.iface ll.ty (.pointer (some ⟨ll.blk,0,none⟩)))/\w1.cell? ⟨Bl,10,none⟩=some (.iface lr.ty (.pointer (some ⟨lr.blk,0,none⟩)))/\Two n (Nd.inner Bm c h (Nd.inner Bl cl hl ll lr) r) w w1):lr.In w1:=H.2.2.2.2.m.2.1.2.2
theorem B2_r (H:w1.cell? ⟨Bm,9,none⟩=some (.iface 215 (.pointer (some ⟨Bl,0,none⟩)))/\w1.cell? ⟨Bm,10,none⟩=some (.iface r.ty (.pointer (some ⟨r.blk,0,none⟩)))/\w1.cell? ⟨Bl,9,none⟩=some (.iface ll.ty (.pointer (some ⟨ll.blk,0,none⟩)))/\w1.cell? ⟨Bl,10,none⟩=some (.iface lr.ty (.pointer (some ⟨lr.blk,0,none⟩)))/\Two n (Nd.inner Bm c h (Nd.inner Bl cl hl ll lr) r) w w1):r.In w1:=H.2.2.2.2.m.2.2
theorem B2_n (H:w1.cell? ⟨Bm,9,none⟩=some (.iface 215 (.pointer (some ⟨Bl,0,none⟩)))/\w1.cell? ⟨Bm,10,none⟩=some (.iface r.ty (.pointer (some ⟨r.blk,0,none⟩)))/\w1.cell? ⟨Bl,9,none⟩=some (.iface ll.ty (.pointer (some ⟨ll.blk,0,none⟩)))/\w1.cell? ⟨Bl,10,none⟩=some (.iface lr.ty (.pointer (some ⟨lr.blk,0,none⟩)))/\Two n (Nd.inner Bm c h (Nd.inner Bl cl hl ll lr) r) w w1):n.In w1:=H.2.2.2.2.n
end
theorem QkP (Bm Bl:Nat) (c cl:Cn) (h hl:Nat) (n ll lr r:Nd) (w:World) (hn:n.In w) (hm:(Nd.inner Bm c h (Nd.inner Bl cl hl ll lr) r).In w) (on:n.Ok) (om:(Nd.inner Bm c h (Nd.inner Bl cl hl ll lr) r).Ok) (hs:(n.cn.plus c).Small) (hr:n.row.length+(Nd.inner Bm c h (Nd.inner Bl cl hl ll lr) r).row.length<=1152921504606846976) (h1:n.lev+1<h) (h2:r.lev<hl) :
  Calls prog 144 #[n.val,(Nd.inner Bm c h (Nd.inner Bl cl hl ll lr) r).val] w fun e w'=>∃q,Made n (Nd.inner Bm c h (Nd.inner Bl cl hl ll lr) r) w e w' q:=by
 have l1:h<_:=Nd.lev_row om
 have l2:=Nd.lev_row on
 have l3:=Nd.lev_row om.2.2.1.2.2.1
 have l4:=Nd.lev_row om.2.2.1.2.2.2
 have l5:=Nd.lev_row om.2.2.2
 have l6:hl<_:=Nd.lev_row om.2.2.1
 have hrow:(Nd.inner Bm c h (Nd.inner Bl cl hl ll lr) r).row.length=ll.row.length+lr.row.length+r.row.length:=by simp [Nd.row];omega
 have H:=Z1 (Two.mk hn hm (Below.refl w.heap.size w))
 have hcc:n.cn.plus c=(n.cn.plus ll.cn).plus (lr.cn.plus r.cn):=by
  have e1:c=cl.plus r.cn:=om.1;have e2:cl=ll.cn.plus lr.cn:=om.2.2.1.1;rw[e1,e2,Cn.plus_assoc,Cn.plus_assoc]
 rw[hcc] at hs
 have HA1:=Z1 (fun w1 (hn:n.In w1) (hm:ll.In w1)=>QaY n ll w1 hn hm hs.left.left hs.left.right (by omega) (by omega))
 have HA2:=Z1 (fun w1 (hn:lr.In w1) (hm:r.In w1)=>QaY lr r w1 hn hm hs.right.left hs.right.right (by omega) (by omega))
 have HA3:=Z1 (fun B1 B2 w1 (hn:(Nd.inner B1 (n.cn.plus ll.cn) (1+max n.lev ll.lev) n ll).In w1) (hm:(Nd.inner B2 (lr.cn.plus r.cn) (1+max lr.lev r.lev) lr r).In w1)=>QaY (Nd.inner B1 (n.cn.plus ll.cn) (1+max n.lev ll.lev) n ll) (Nd.inner B2 (lr.cn.plus r.cn) (1+max lr.lev r.lev) lr r) w1 hn hm hs.left hs.right (by show 1+max n.lev ll.lev<=_;omega) (by show 1+max lr.lev r.lev<=_;omega))
 have HQ:=Z1 (fun B1 B2 B3 w'=>@QoC Bm Bl B1 B2 B3 h hl c cl n ll lr r w w' on om h1 h2)
 clear hcc hs
 rw[n.val_eq]
 simp only[Nd.val]
 generalize hj:n.lev=j at l2 h1
 have HJ:=Z1 hj
 clear hj hn hm on om
 have ta:=Qbq
 go_enter func144,ntmps144
 go_wp2_with fail
 rw[Qac n 362 _ H.o.n,HJ.o]
 go_wp2_with fail
 refine (Qad n.cn j _).mono ?_
 rintro e w1 ⟨rfl,hb⟩
 replace H:=Z1 (H.o.step hb)
 clear hb
 go_wp2_with fail
 rw [show (method 363 215 (.pointer (some ⟨Bm, 0, none⟩)) "vellum/atoms.level").run prog _ = _ from Qac (Nd.inner Bm c h (Nd.inner Bl cl hl ll lr) r) 362 _ H.o.m]
 go_wp2_with fail
 refine (Qad c h _).mono ?_
 rintro e w2 ⟨rfl,hb⟩
 replace H:=Z1 (H.o.step hb)
 clear hb w1
 go_wp2_with fail
 rw [show (method 363 215 (.pointer (some ⟨Bm, 0, none⟩)) "vellum/atoms.level").run prog _ = _ from Qac (Nd.inner Bm c h (Nd.inner Bl cl hl ll lr) r) 362 _ H.o.m]
 go_wp2_with fail
 refine (Qad c h _).mono ?_
 rintro e w1 ⟨rfl,hb⟩
 replace H:=Z1 (H.o.step hb)
 clear hb w2
 go_wp2_with fail
 rw[Qac n 362 _ H.o.n,HJ.o]
 go_wp2_with fail
 refine (Qad n.cn j _).mono ?_
 rintro e w2 ⟨rfl,hb⟩
 replace H:=Z1 (H.o.step hb)
 clear hb w1
 have hS:=QgL H.o
 obtain⟨p9,p10,q9,q10,_⟩:=QgL H.o
 generalize hrk:r.lev=rk at *
 have HRK:=Z1 hrk
 clear hrk
 go_wp2_with fail
 go_region_held3 (fun w'=>w'.cell? ⟨Bm,9,none⟩=some (.iface 215 (.pointer (some ⟨Bl,0,none⟩)))/\w'.cell? ⟨Bm,10,none⟩=some (.iface r.ty (.pointer (some ⟨r.blk,0,none⟩)))/\w'.cell? ⟨Bl,9,none⟩=some (.iface ll.ty (.pointer (some ⟨ll.blk,0,none⟩)))/\w'.cell? ⟨Bl,10,none⟩=some (.iface lr.ty (.pointer (some ⟨lr.blk,0,none⟩)))/\Two n (Nd.inner Bm c h (Nd.inner Bl cl hl ll lr) r) w w')
  (first|assumption|exact QlQ (by assumption))
  (first
   |rw[Qac r 362 _ (B2_r (by assumption)),HRK.o]
   | rw [show (method 363 215 (.pointer (some ⟨Bl, 0, none⟩)) "vellum/atoms.level").run prog _ = _ from Qac (Nd.inner Bl cl hl ll lr) 362 _ (B2_l (by assumption))]
   |(go_at_call 199;first|(refine (Qad r.cn rk _).mono ?_;rintro e w3 ⟨rfl,hb3⟩;have hS3:=Qef (by assumption) hb3)|(refine (Qad cl hl _).mono ?_;rintro e w4 ⟨rfl,hb4⟩;have hS4:=Qef (by assumption) hb4)))
 clear p9 p10 q9 q10
 obtain⟨p9,p10,q9,q10,_⟩:=hS4
 go_wp2_with fail
 go_region_held3 (fun w'=>w'.cell? ⟨Bm,9,none⟩=some (.iface 215 (.pointer (some ⟨Bl,0,none⟩)))/\w'.cell? ⟨Bm,10,none⟩=some (.iface r.ty (.pointer (some ⟨r.blk,0,none⟩)))/\w'.cell? ⟨Bl,9,none⟩=some (.iface ll.ty (.pointer (some ⟨ll.blk,0,none⟩)))/\w'.cell? ⟨Bl,10,none⟩=some (.iface lr.ty (.pointer (some ⟨lr.blk,0,none⟩)))/\Two n (Nd.inner Bm c h (Nd.inner Bl cl hl ll lr) r) w w')
  (first|assumption|exact QlQ (by assumption))
  (first
   |(go_at_call 145;first
    |(refine (HA3.o B1 B2 _ (by assumption) (by assumption)).mono ?_;rintro e w7 ⟨B3,rfl,hi7,hb7⟩;have hS7:=Qef (by assumption) hb7)
    |(have hB1:=Z6 B1;refine (HA2.o _ (B2_lr (by assumption)) (B2_r (by assumption))).mono ?_;rintro e w6 ⟨B2,rfl,hi6,hb6⟩;have hi56:=Nd.low hb6 hi5;have hS6:=Qef (by assumption) hb6)
    |(refine (HA1.o _ (B2_n (by assumption)) (B2_ll (by assumption))).mono ?_;rintro e w5 ⟨B1,rfl,hi5,hb5⟩;have hS5:=Qef (by assumption) hb5)))
 go_wp2_with fail
 go_ret
 exact⟨_,HQ.o B1 B2 B3 w7 hi7 hS7.2.2.2.2.b⟩
end Go.Proofs.YtoejbngihecafaaGreatDoor
