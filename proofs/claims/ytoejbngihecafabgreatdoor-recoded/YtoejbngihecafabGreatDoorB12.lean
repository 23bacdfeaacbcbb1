import Derived.Test.YtoejbngihecafabGreatDoorB11
set_option maxRecDepth 100000
set_option maxHeartbeats 1000000
namespace Go.Proofs.YtoejbngihecafabGreatDoor
open Go.RowKit
theorem made_A2 {Bn Br B1 B2 B3 h hr:Nat} {c cr:Cn} {l rl rr m:Nd} {w w':World} (on:(Nd.inner Bn c h l (Nd.inner Br cr hr rl rr)).Ok) (om:m.Ok) (h1:m.lev+1<h) (h2:l.lev<hr)
  (hi:(Nd.inner B3 ((l.cn.plus rl.cn).plus (rr.cn.plus m.cn)) (1+max (1+max l.lev rl.lev) (1+max rr.lev m.lev)) (Nd.inner B1 (l.cn.plus rl.cn) (1+max l.lev rl.lev) l rl) (Nd.inner B2 (rr.cn.plus m.cn) (1+max rr.lev m.lev) rr m)).In w') (hb:Below w.heap.size w w') :
  Made (Nd.inner Bn c h l (Nd.inner Br cr hr rl rr)) m w (.returned (.iface 158 (.pointer (some ⟨B3,0,none⟩)))) w' (Nd.inner B3 ((l.cn.plus rl.cn).plus (rr.cn.plus m.cn)) (1+max (1+max l.lev rl.lev) (1+max rr.lev m.lev)) (Nd.inner B1 (l.cn.plus rl.cn) (1+max l.lev rl.lev) l rl) (Nd.inner B2 (rr.cn.plus m.cn) (1+max rr.lev m.lev) rr m)):=by
 obtain⟨hc,hh,ol,hcr,hhr,orl,orr⟩:=on
 refine⟨rfl,hi,⟨rfl,rfl,⟨rfl,rfl,ol,orl⟩,rfl,rfl,orr,om⟩,?_,?_,?_,?_,hb⟩
 ·show _=c.plus m.cn
  rw[hc]
  show (l.cn.plus rl.cn).plus (rr.cn.plus m.cn)=(l.cn.plus cr).plus m.cn
  rw[hcr,Cn.plus_assoc,Cn.plus_assoc,Cn.plus_assoc]
 ·simp [Nd.row]
 ·show max h m.lev<=1+max (1+max l.lev rl.lev) (1+max rr.lev m.lev)
  have hh':h=1+max l.lev hr:=hh
  omega
 ·show 1+max (1+max l.lev rl.lev) (1+max rr.lev m.lev)<=1+max h m.lev
  have hh':h=1+max l.lev hr:=hh
  omega
section
variable {Bn Br:Nat} {c cr:Cn} {h hr:Nat} {l rl rr m:Nd} {w w1 w2:World}
theorem A2_start (H:Two (Nd.inner Bn c h l (Nd.inner Br cr hr rl rr)) m w w1):w1.cell? ⟨Bn,9,none⟩=some (.iface l.ty (.pointer (some ⟨l.blk,0,none⟩)))/\w1.cell? ⟨Bn,10,none⟩=some (.iface 158 (.pointer (some ⟨Br,0,none⟩)))/\w1.cell? ⟨Br,9,none⟩=some (.iface rl.ty (.pointer (some ⟨rl.blk,0,none⟩)))/\w1.cell? ⟨Br,10,none⟩=some (.iface rr.ty (.pointer (some ⟨rr.blk,0,none⟩)))/\Two (Nd.inner Bn c h l (Nd.inner Br cr hr rl rr)) m w w1 :=
 ⟨(inner_at H.n).1,(inner_at H.n).2,(inner_at H.n.2.2).1,(inner_at H.n.2.2).2,H⟩
theorem A2_step (H:w1.cell? ⟨Bn,9,none⟩=some (.iface l.ty (.pointer (some ⟨l.blk,0,none⟩)))/\w1.cell? ⟨Bn,10,none⟩=some (.iface 158 (.pointer (some ⟨Br,0,none⟩)))/\w1.cell? ⟨Br,9,none⟩=some (.iface rl.ty (.pointer (some ⟨rl.blk,0,none⟩)))/\w1.cell? ⟨Br,10,none⟩=some (.iface rr.ty (.pointer (some ⟨rr.blk,0,none⟩)))/\Two (Nd.inner Bn c h l (Nd.inner Br cr hr rl rr)) m w w1) (hb:Below w1.heap.size w1 w2):w2.cell? ⟨Bn,9,none⟩=some (.iface l.ty (.pointer (some ⟨l.blk,0,none⟩)))/\w2.cell? ⟨Bn,10,none⟩=some (.iface 158 (.pointer (some ⟨Br,0,none⟩)))/\w2.cell? ⟨Br,9,none⟩=some (.iface rl.ty (.pointer (some ⟨rl.blk,0,none⟩)))/\w2.cell? ⟨Br,10,none⟩=some (.iface rr.ty (.pointer (some ⟨rr.blk,0,none⟩)))/\Two (Nd.inner Bn c h l (Nd.inner Br cr hr rl rr)) m w w2:=A2_start (H.2.2.2.2.step hb)
theorem A2_drew (H:w1.cell? ⟨Bn,9,none⟩=some (.iface l.ty (.pointer (some ⟨l.blk,0,none⟩)))/\w1.cell? ⟨Bn,10,none⟩=some (.iface 158 (.pointer (some ⟨Br,0,none⟩)))/\w1.cell? ⟨Br,9,none⟩=some (.iface rl.ty (.pointer (some ⟨rl.blk,0,none⟩)))/\w1.cell? ⟨Br,10,none⟩=some (.iface rr.ty (.pointer (some ⟨rr.blk,0,none⟩)))/\Two (Nd.inner Bn c h l (Nd.inner Br cr hr rl rr)) m w w1):w1.drew.cell? ⟨Bn,9,none⟩=some (.iface l.ty (.pointer (some ⟨l.blk,0,none⟩)))/\w1.drew.cell? ⟨Bn,10,none⟩=some (.iface 158 (.pointer (some ⟨Br,0,none⟩)))/\w1.drew.cell? ⟨Br,9,none⟩=some (.iface rl.ty (.pointer (some ⟨rl.blk,0,none⟩)))/\w1.drew.cell? ⟨Br,10,none⟩=some (.iface rr.ty (.pointer (some ⟨rr.blk,0,none⟩)))/\Two (Nd.inner Bn c h l (Nd.inner Br cr hr rl rr)) m w w1.drew:=A2_step H ((Below.refl _ _).drew)
theorem A2_l (H:w1.cell? ⟨Bn,9,none⟩=some (.iface l.ty (.pointer (some ⟨l.blk,0,none⟩)))/\w1.cell? ⟨Bn,10,none⟩=some (.iface 158 (.pointer (some ⟨Br,0,none⟩)))/\w1.cell? ⟨Br,9,none⟩=some (.iface rl.ty (.pointer (some ⟨rl.blk,0,none⟩)))/\w1.cell? ⟨Br,10,none⟩=some (.iface rr.ty (.pointer (some ⟨rr.blk,0,none⟩)))/\Two (Nd.inner Bn c h l (Nd.inner Br cr hr rl rr)) m w w1):l.In w1:=H.2.2.2.2.n.2.1
theorem A2_r (H:w1.cell? ⟨Bn,9,none⟩=some (.iface l.ty (.pointer (some ⟨l.blk,0,none⟩)))/\w1.cell? ⟨Bn,10,none⟩=some (.iface 158 (.pointer (some ⟨Br,0,none⟩)))/\w1.cell? ⟨Br,9,none⟩=some (.iface rl.ty (.pointer (some ⟨rl.blk,0,none⟩)))/\w1.cell? ⟨Br,10,none⟩=some (.iface rr.ty (.pointer (some ⟨rr.blk,0,none⟩)))/\Two (Nd.inner Bn c h l (Nd.inner Br cr hr rl rr)) m w w1):(Nd.inner Br cr hr rl rr).In w1:=H.2.2.2.2.n.2.2
theorem A2_rl (H:w1.cell? ⟨Bn,9,none⟩=some (.iface l.ty (.pointer (some ⟨l.blk,0,none⟩)))/\w1.cell? ⟨Bn,10,none⟩=some (.iface 158 (.pointer (some ⟨Br,0,none⟩)))/\w1.cell? ⟨Br,9,none⟩=some (.iface rl.ty (.pointer (some ⟨rl.blk,0,none⟩)))/\w1.cell? ⟨Br,10,none⟩=some (.iface rr.ty (.pointer (some ⟨rr.blk,0,none⟩)))/\Two (Nd.inner Bn c h l (Nd.inner Br cr hr rl rr)) m w w1):rl.In w1:=H.2.2.2.2.n.2.2.2.1
theorem A2_rr (H:w1.cell? ⟨Bn,9,none⟩=some (.iface l.ty (.pointer (some ⟨l.blk,0,none⟩)))/\w1.cell? ⟨Bn,10,none⟩=some (.iface 158 (.pointer (some ⟨Br,0,none⟩)))/\w1.cell? ⟨Br,9,none⟩=some (.iface rl.ty (.pointer (some ⟨rl.blk,0,none⟩)))/\w1.cell? ⟨Br,10,none⟩=some (.iface rr.ty (.pointer (some ⟨rr.blk,0,none⟩)))/\Two (Nd.inner Bn c h l (Nd.inner Br cr hr rl rr)) m w w1):rr.In w1:=H.2.2.2.2.n.2.2.2.2
theorem A2_m (H:w1.cell? ⟨Bn,9,none⟩=some (.iface l.ty (.pointer (some ⟨l.blk,0,none⟩)))/\w1.cell? ⟨Bn,10,none⟩=some (.iface 158 (.pointer (some ⟨Br,0,none⟩)))/\w1.cell? ⟨Br,9,none⟩=some (.iface rl.ty (.pointer (some ⟨rl.blk,0,none⟩)))/\w1.cell? ⟨Br,10,none⟩=some (.iface rr.ty (.pointer (some ⟨rr.blk,0,none⟩)))/\Two (Nd.inner Bn c h l (Nd.inner Br cr hr rl rr)) m w w1):m.In w1:=H.2.2.2.2.m
end
theorem leveled_A2 (Bn Br:Nat) (c cr:Cn) (h hr:Nat) (l rl rr m:Nd) (w:World) (hn:(Nd.inner Bn c h l (Nd.inner Br cr hr rl rr)).In w) (hm:m.In w) (on:(Nd.inner Bn c h l (Nd.inner Br cr hr rl rr)).Ok) (om:m.Ok) (hs:(c.plus m.cn).Small) (hrow:(Nd.inner Bn c h l (Nd.inner Br cr hr rl rr)).row.length+m.row.length<=1152921504606846976) (h1:m.lev+1<h) (h2:l.lev<hr) :
  Calls Tryz.prog 97 #[(Nd.inner Bn c h l (Nd.inner Br cr hr rl rr)).val,m.val] w fun e w'=>∃q,Made (Nd.inner Bn c h l (Nd.inner Br cr hr rl rr)) m w e w' q:=by
 have l1:h<_:=Nd.lev_row on
 have l2:=Nd.lev_row om
 have l3:=Nd.lev_row on.2.2.1
 have l4:=Nd.lev_row on.2.2.2.2.2.1
 have l5:=Nd.lev_row on.2.2.2.2.2.2
 have l6:hr<_:=Nd.lev_row on.2.2.2
 have hrow2:(Nd.inner Bn c h l (Nd.inner Br cr hr rl rr)).row.length=l.row.length+(rl.row.length+rr.row.length):=by simp [Nd.row]
 have H:=Z1 (Two.mk hn hm (Below.refl w.heap.size w))
 have hcc:c.plus m.cn=(l.cn.plus rl.cn).plus (rr.cn.plus m.cn):=by
  have e1:c=l.cn.plus cr:=on.1
  have e2:cr=rl.cn.plus rr.cn:=on.2.2.2.1
  rw[e1,e2,Cn.plus_assoc,Cn.plus_assoc,Cn.plus_assoc]
 rw[hcc] at hs
 have HA1:=Z1 (fun w1 (hn:l.In w1) (hm:rl.In w1)=>above_val l rl w1 hn hm hs.left.left hs.left.right (by omega) (by omega))
 have HA2:=Z1 (fun w1 (hn:rr.In w1) (hm:m.In w1)=>above_val rr m w1 hn hm hs.right.left hs.right.right (by omega) (by omega))
 have HA3:=Z1 (fun B1 B2 w1 (hn:(Nd.inner B1 (l.cn.plus rl.cn) (1+max l.lev rl.lev) l rl).In w1) (hm:(Nd.inner B2 (rr.cn.plus m.cn) (1+max rr.lev m.lev) rr m).In w1)=>above_val (Nd.inner B1 (l.cn.plus rl.cn) (1+max l.lev rl.lev) l rl) (Nd.inner B2 (rr.cn.plus m.cn) (1+max rr.lev m.lev) rr m) w1 hn hm hs.left hs.right (by show 1+max l.lev rl.lev<=_;omega) (by show 1+max rr.lev m.lev<=_;omega))
 have HQ:=Z1 (fun B1 B2 B3 w'=>@made_A2 Bn Br B1 B2 B3 h hr c cr l rl rr m w w' on om h1 h2)
 clear hcc hs
 rw[m.val_eq]
 simp only[Nd.val]
 generalize hj:m.lev=j at l2 h1
 have HJ:=Z1 hj
 clear hj hn hm on om
 have ta:=assert_inner
 go_enter Tryz.func97,Tryz.ntmps97
 go_wp2_with fail
 rw [show (method 285 158 (.pointer (some ⟨Bn, 0, none⟩)) "vellum/atoms.level").run Tryz.prog _ = _ from meth_level (Nd.inner Bn c h l (Nd.inner Br cr hr rl rr)) 284 _ H.out.n]
 go_wp2_with fail
 refine (level_any c h _).mono ?_
 rintro e w1 ⟨rfl,hb⟩
 replace H:=Z1 (H.out.step hb)
 clear hb
 go_wp2_with fail
 rw[meth_level m 284 _ H.out.m,HJ.out]
 go_wp2_with fail
 refine (level_any m.cn j _).mono ?_
 rintro e w2 ⟨rfl,hb⟩
 replace H:=Z1 (H.out.step hb)
 clear hb w1
 have hS:=A2_start H.out
 obtain⟨p9,p10,q9,q10,_⟩:=A2_start H.out
 generalize hlk:l.lev=lk at *
 have HLK:=Z1 hlk
 clear hlk
 go_wp2_with fail
 go_region_held3 (fun w'=>w'.cell? ⟨Bn,9,none⟩=some (.iface l.ty (.pointer (some ⟨l.blk,0,none⟩)))/\w'.cell? ⟨Bn,10,none⟩=some (.iface 158 (.pointer (some ⟨Br,0,none⟩)))/\w'.cell? ⟨Br,9,none⟩=some (.iface rl.ty (.pointer (some ⟨rl.blk,0,none⟩)))/\w'.cell? ⟨Br,10,none⟩=some (.iface rr.ty (.pointer (some ⟨rr.blk,0,none⟩)))/\Two (Nd.inner Bn c h l (Nd.inner Br cr hr rl rr)) m w w')
  (first|assumption|exact A2_drew (by assumption))
  (first
   |rw[meth_level l 284 _ (A2_l (by assumption)),HLK.out]
   | rw [show (method 285 158 (.pointer (some ⟨Br, 0, none⟩)) "vellum/atoms.level").run Tryz.prog _ = _ from meth_level (Nd.inner Br cr hr rl rr) 284 _ (A2_r (by assumption))]
   |(go_at_call 127;first|(refine (level_any l.cn lk _).mono ?_;rintro e w3 ⟨rfl,hb3⟩;have hS3:=A2_step (by assumption) hb3)|(refine (level_any cr hr _).mono ?_;rintro e w4 ⟨rfl,hb4⟩;have hS4:=A2_step (by assumption) hb4)))
 clear p9 p10 q9 q10
 obtain⟨p9,p10,q9,q10,_⟩:=hS4
 go_wp2_with fail
 go_region_held3 (fun w'=>w'.cell? ⟨Bn,9,none⟩=some (.iface l.ty (.pointer (some ⟨l.blk,0,none⟩)))/\w'.cell? ⟨Bn,10,none⟩=some (.iface 158 (.pointer (some ⟨Br,0,none⟩)))/\w'.cell? ⟨Br,9,none⟩=some (.iface rl.ty (.pointer (some ⟨rl.blk,0,none⟩)))/\w'.cell? ⟨Br,10,none⟩=some (.iface rr.ty (.pointer (some ⟨rr.blk,0,none⟩)))/\Two (Nd.inner Bn c h l (Nd.inner Br cr hr rl rr)) m w w')
  (first|assumption|exact A2_drew (by assumption))
  (first
   |(go_at_call 98;first
    |(refine (HA3.out B1 B2 _ (by assumption) (by assumption)).mono ?_;rintro e w7 ⟨B3,rfl,hi7,hb7⟩;have hS7:=A2_step (by assumption) hb7)
    |(have hB1:=Nat.le_refl B1;refine (HA2.out _ (A2_rr (by assumption)) (A2_m (by assumption))).mono ?_;rintro e w6 ⟨B2,rfl,hi6,hb6⟩;have hi56:=Nd.low hb6 hi5;have hS6:=A2_step (by assumption) hb6)
    |(refine (HA1.out _ (A2_l (by assumption)) (A2_rl (by assumption))).mono ?_;rintro e w5 ⟨B1,rfl,hi5,hb5⟩;have hS5:=A2_step (by assumption) hb5)))
 go_wp2_with fail
 go_ret
 exact⟨_,HQ.out B1 B2 B3 w7 hi7 hS7.2.2.2.2.b⟩
end Go.Proofs.YtoejbngihecafabGreatDoor
namespace Go.Proofs.YtoejbngihecafabGreatDoor
open Go.RowKit
theorem made_B1 {Bm B1 B2 h:Nat} {c:Cn} {n l r:Nd} {w w':World} (on:n.Ok) (om:(Nd.inner Bm c h l r).Ok) (h1:n.lev+1<h) (h2:l.lev<=r.lev)
  (hi:(Nd.inner B2 ((n.cn.plus l.cn).plus r.cn) (1+max (1+max n.lev l.lev) r.lev) (Nd.inner B1 (n.cn.plus l.cn) (1+max n.lev l.lev) n l) r).In w') (hb:Below w.heap.size w w') :
  Made n (Nd.inner Bm c h l r) w (.returned (.iface 158 (.pointer (some ⟨B2,0,none⟩)))) w' (Nd.inner B2 ((n.cn.plus l.cn).plus r.cn) (1+max (1+max n.lev l.lev) r.lev) (Nd.inner B1 (n.cn.plus l.cn) (1+max n.lev l.lev) n l) r):=by
 obtain⟨hc,hh,ol,or⟩:=om
 refine⟨rfl,hi,⟨rfl,rfl,⟨rfl,rfl,on,ol⟩,or⟩,?_,?_,?_,?_,hb⟩
 ·show _=n.cn.plus c
  rw[hc,<-Cn.plus_assoc];rfl
 ·simp [Nd.row]
 ·show max n.lev h<=1+max (1+max n.lev l.lev) r.lev
  omega
 ·show 1+max (1+max n.lev l.lev) r.lev<=1+max n.lev h
  omega
section
variable {Bm:Nat} {c:Cn} {h:Nat} {n l r:Nd} {w w1 w2:World}
theorem B_start (H:Two n (Nd.inner Bm c h l r) w w1):w1.cell? ⟨Bm,9,none⟩=some (.iface l.ty (.pointer (some ⟨l.blk,0,none⟩)))/\w1.cell? ⟨Bm,10,none⟩=some (.iface r.ty (.pointer (some ⟨r.blk,0,none⟩)))/\Two n (Nd.inner Bm c h l r) w w1 :=
 ⟨(inner_at H.m).1,(inner_at H.m).2,H⟩
theorem B_step (H:w1.cell? ⟨Bm,9,none⟩=some (.iface l.ty (.pointer (some ⟨l.blk,0,none⟩)))/\w1.cell? ⟨Bm,10,none⟩=some (.iface r.ty (.pointer (some ⟨r.blk,0,none⟩)))/\Two n (Nd.inner Bm c h l r) w w1) (hb:Below w1.heap.size w1 w2):w2.cell? ⟨Bm,9,none⟩=some (.iface l.ty (.pointer (some ⟨l.blk,0,none⟩)))/\w2.cell? ⟨Bm,10,none⟩=some (.iface r.ty (.pointer (some ⟨r.blk,0,none⟩)))/\Two n (Nd.inner Bm c h l r) w w2:=B_start (H.2.2.step hb)
theorem B_drew (H:w1.cell? ⟨Bm,9,none⟩=some (.iface l.ty (.pointer (some ⟨l.blk,0,none⟩)))/\w1.cell? ⟨Bm,10,none⟩=some (.iface r.ty (.pointer (some ⟨r.blk,0,none⟩)))/\Two n (Nd.inner Bm c h l r) w w1):w1.drew.cell? ⟨Bm,9,none⟩=some (.iface l.ty (.pointer (some ⟨l.blk,0,none⟩)))/\w1.drew.cell? ⟨Bm,10,none⟩=some (.iface r.ty (.pointer (some ⟨r.blk,0,none⟩)))/\Two n (Nd.inner Bm c h l r) w w1.drew:=B_step H ((Below.refl _ _).drew)
theorem B_l (H:w1.cell? ⟨Bm,9,none⟩=some (.iface l.ty (.pointer (some ⟨l.blk,0,none⟩)))/\w1.cell? ⟨Bm,10,none⟩=some (.iface r.ty (.pointer (some ⟨r.blk,0,none⟩)))/\Two n (Nd.inner Bm c h l r) w w1):l.In w1:=H.2.2.m.2.1
theorem B_r (H:w1.cell? ⟨Bm,9,none⟩=some (.iface l.ty (.pointer (some ⟨l.blk,0,none⟩)))/\w1.cell? ⟨Bm,10,none⟩=some (.iface r.ty (.pointer (some ⟨r.blk,0,none⟩)))/\Two n (Nd.inner Bm c h l r) w w1):r.In w1:=H.2.2.m.2.2
theorem B_n (H:w1.cell? ⟨Bm,9,none⟩=some (.iface l.ty (.pointer (some ⟨l.blk,0,none⟩)))/\w1.cell? ⟨Bm,10,none⟩=some (.iface r.ty (.pointer (some ⟨r.blk,0,none⟩)))/\Two n (Nd.inner Bm c h l r) w w1):n.In w1:=H.2.2.n
end
theorem leveled_B1 (Bm:Nat) (c:Cn) (h:Nat) (n l r:Nd) (w:World) (hn:n.In w) (hm:(Nd.inner Bm c h l r).In w) (on:n.Ok) (om:(Nd.inner Bm c h l r).Ok) (hs:(n.cn.plus c).Small) (hr:n.row.length+(Nd.inner Bm c h l r).row.length<=1152921504606846976) (h1:n.lev+1<h) (h2:l.lev<=r.lev) :
  Calls Tryz.prog 97 #[n.val,(Nd.inner Bm c h l r).val] w fun e w'=>∃q,Made n (Nd.inner Bm c h l r) w e w' q:=by
 have l1:h<_:=Nd.lev_row om
 have l2:=Nd.lev_row on
 have l3:=Nd.lev_row om.2.2.1
 have l4:=Nd.lev_row om.2.2.2
 have hrow:(Nd.inner Bm c h l r).row.length=l.row.length+r.row.length:=by simp [Nd.row]
 have H:=Z1 (Two.mk hn hm (Below.refl w.heap.size w))
 have hcc:n.cn.plus c=(n.cn.plus l.cn).plus r.cn:=by rw[om.1,Cn.plus_assoc]
 rw[hcc] at hs
 have HA1:=Z1 (fun w1 (hn:n.In w1) (hm:l.In w1)=>above_val n l w1 hn hm hs.left.left hs.left.right (by omega) (by omega))
 have HA2:=Z1 (fun B1 w1 (hn:(Nd.inner B1 (n.cn.plus l.cn) (1+max n.lev l.lev) n l).In w1) (hm:r.In w1)=>above_val (Nd.inner B1 (n.cn.plus l.cn) (1+max n.lev l.lev) n l) r w1 hn hm hs.left hs.right (by show 1+max n.lev l.lev<=_;omega) (by omega))
 have HQ:=Z1 (fun B1 B2 w'=>@made_B1 Bm B1 B2 h c n l r w w' on om h1 h2)
 clear hcc hs
 rw[n.val_eq]
 simp only[Nd.val]
 generalize hj:n.lev=j at l2 h1
 have HJ:=Z1 hj
 clear hj hn hm on om
 have ta:=assert_inner
 go_enter Tryz.func97,Tryz.ntmps97
 go_wp2_with fail
 rw[meth_level n 284 _ H.out.n,HJ.out]
 go_wp2_with fail
 refine (level_any n.cn j _).mono ?_
 rintro e w1 ⟨rfl,hb⟩
 replace H:=Z1 (H.out.step hb)
 clear hb
 go_wp2_with fail
 rw [show (method 285 158 (.pointer (some ⟨Bm, 0, none⟩)) "vellum/atoms.level").run Tryz.prog _ = _ from meth_level (Nd.inner Bm c h l r) 284 _ H.out.m]
 go_wp2_with fail
 refine (level_any c h _).mono ?_
 rintro e w2 ⟨rfl,hb⟩
 replace H:=Z1 (H.out.step hb)
 clear hb w1
 go_wp2_with fail
 rw [show (method 285 158 (.pointer (some ⟨Bm, 0, none⟩)) "vellum/atoms.level").run Tryz.prog _ = _ from meth_level (Nd.inner Bm c h l r) 284 _ H.out.m]
 go_wp2_with fail
 refine (level_any c h _).mono ?_
 rintro e w1 ⟨rfl,hb⟩
 replace H:=Z1 (H.out.step hb)
 clear hb w2
 go_wp2_with fail
 rw[meth_level n 284 _ H.out.n,HJ.out]
 go_wp2_with fail
 refine (level_any n.cn j _).mono ?_
 rintro e w2 ⟨rfl,hb⟩
 replace H:=Z1 (H.out.step hb)
 clear hb w1
 have hS:=B_start H.out
 obtain⟨p9,p10,_⟩:=B_start H.out
 generalize hlk:l.lev=lk at *
 generalize hrk:r.lev=rk at *
 have HLK:=Z1 hlk
 have HRK:=Z1 hrk
 clear hlk hrk
 go_wp2_with fail
 go_region_held3 (fun w'=>w'.cell? ⟨Bm,9,none⟩=some (.iface l.ty (.pointer (some ⟨l.blk,0,none⟩)))/\w'.cell? ⟨Bm,10,none⟩=some (.iface r.ty (.pointer (some ⟨r.blk,0,none⟩)))/\Two n (Nd.inner Bm c h l r) w w')
  (first|assumption|exact B_drew (by assumption))
  (first
   |rw[meth_level r 284 _ (B_r (by assumption)),HRK.out]
   |rw[meth_level l 284 _ (B_l (by assumption)),HLK.out]
   |(go_at_call 127;first|(refine (level_any r.cn rk _).mono ?_;rintro e w3 ⟨rfl,hb3⟩;have hS3:=B_step (by assumption) hb3)|(refine (level_any l.cn lk _).mono ?_;rintro e w4 ⟨rfl,hb4⟩;have hS4:=B_step (by assumption) hb4)))
 clear p9 p10
 obtain⟨p9,p10,_⟩:=hS4
 go_wp2_with fail
 go_region_held3 (fun w'=>w'.cell? ⟨Bm,9,none⟩=some (.iface l.ty (.pointer (some ⟨l.blk,0,none⟩)))/\w'.cell? ⟨Bm,10,none⟩=some (.iface r.ty (.pointer (some ⟨r.blk,0,none⟩)))/\Two n (Nd.inner Bm c h l r) w w')
  (first|assumption|exact B_drew (by assumption))
  (first
   |(go_at_call 98;first
    |(refine (HA2.out B1 _ (by assumption) (B_r (by assumption))).mono ?_;rintro e w6 ⟨B2,rfl,hi6,hb6⟩;have hS6:=B_step (by assumption) hb6)
    |(refine (HA1.out _ (B_n (by assumption)) (B_l (by assumption))).mono ?_;rintro e w5 ⟨B1,rfl,hi5,hb5⟩;have hS5:=B_step (by assumption) hb5)))
 go_wp2_with fail
 go_ret
 exact⟨_,HQ.out B1 B2 w6 hi6 hS6.2.2.b⟩
end Go.Proofs.YtoejbngihecafabGreatDoor
namespace Go.Proofs.YtoejbngihecafabGreatDoor
open Go.RowKit
theorem made_B2 {Bm Bl B1 B2 B3 h hl:Nat} {c cl:Cn} {n ll lr r:Nd} {w w':World} (on:n.Ok) (om:(Nd.inner Bm c h (Nd.inner Bl cl hl ll lr) r).Ok) (h1:n.lev+1<h) (h2:r.lev<hl)
  (hi:(Nd.inner B3 ((n.cn.plus ll.cn).plus (lr.cn.plus r.cn)) (1+max (1+max n.lev ll.lev) (1+max lr.lev r.lev)) (Nd.inner B1 (n.cn.plus ll.cn) (1+max n.lev ll.lev) n ll) (Nd.inner B2 (lr.cn.plus r.cn) (1+max lr.lev r.lev) lr r)).In w') (hb:Below w.heap.size w w') :
  Made n (Nd.inner Bm c h (Nd.inner Bl cl hl ll lr) r) w (.returned (.iface 158 (.pointer (some ⟨B3,0,none⟩)))) w' (Nd.inner B3 ((n.cn.plus ll.cn).plus (lr.cn.plus r.cn)) (1+max (1+max n.lev ll.lev) (1+max lr.lev r.lev)) (Nd.inner B1 (n.cn.plus ll.cn) (1+max n.lev ll.lev) n ll) (Nd.inner B2 (lr.cn.plus r.cn) (1+max lr.lev r.lev) lr r)):=by
 obtain⟨hc,hh,⟨hcl,hhl,oll,olr⟩,or⟩:=om
 refine⟨rfl,hi,⟨rfl,rfl,⟨rfl,rfl,on,oll⟩,rfl,rfl,olr,or⟩,?_,?_,?_,?_,hb⟩
 ·show _=n.cn.plus c
  rw[hc]
  show (n.cn.plus ll.cn).plus (lr.cn.plus r.cn)=n.cn.plus (cl.plus r.cn)
  rw[hcl,Cn.plus_assoc,Cn.plus_assoc]
 ·simp [Nd.row]
 ·show max n.lev h<=1+max (1+max n.lev ll.lev) (1+max lr.lev r.lev)
  have hh':h=1+max hl r.lev:=hh
  omega
 ·show 1+max (1+max n.lev ll.lev) (1+max lr.lev r.lev)<=1+max n.lev h
  have hh':h=1+max hl r.lev:=hh
  omega
section
variable {Bm Bl:Nat} {c cl:Cn} {h hl:Nat} {n ll lr r:Nd} {w w1 w2:World}
theorem B2_start (H:Two n (Nd.inner Bm c h (Nd.inner Bl cl hl ll lr) r) w w1):w1.cell? ⟨Bm,9,none⟩=some (.iface 158 (.pointer (some ⟨Bl,0,none⟩)))/\w1.cell? ⟨Bm,10,none⟩=some (.iface r.ty (.pointer (some ⟨r.blk,0,none⟩)))/\w1.cell? ⟨Bl,9,none⟩=some (.iface ll.ty (.pointer (some ⟨ll.blk,0,none⟩)))/\w1.cell? ⟨Bl,10,none⟩=some (.iface lr.ty (.pointer (some ⟨lr.blk,0,none⟩)))/\Two n (Nd.inner Bm c h (Nd.inner Bl cl hl ll lr) r) w w1 :=
 ⟨(inner_at H.m).1,(inner_at H.m).2,(inner_at H.m.2.1).1,(inner_at H.m.2.1).2,H⟩
theorem B2_step (H:w1.cell? ⟨Bm,9,none⟩=some (.iface 158 (.pointer (some ⟨Bl,0,none⟩)))/\w1.cell? ⟨Bm,10,none⟩=some (.iface r.ty (.pointer (some ⟨r.blk,0,none⟩)))/\w1.cell? ⟨Bl,9,none⟩=some (.iface ll.ty (.pointer (some ⟨ll.blk,0,none⟩)))/\w1.cell? ⟨Bl,10,none⟩=some (.iface lr.ty (.pointer (some ⟨lr.blk,0,none⟩)))/\Two n (Nd.inner Bm c h (Nd.inner Bl cl hl ll lr) r) w w1) (hb:Below w1.heap.size w1 w2):w2.cell? ⟨Bm,9,none⟩=some (.iface 158 (.pointer (some ⟨Bl,0,none⟩)))/\w2.cell? ⟨Bm,10,none⟩=some (.iface r.ty (.pointer (some ⟨r.blk,0,none⟩)))/\w2.cell? ⟨Bl,9,none⟩=some (.iface ll.ty (.pointer (some ⟨ll.blk,0,none⟩)))/\w2.cell? ⟨Bl,10,none⟩=some (.iface lr.ty (.pointer (some ⟨lr.blk,0,none⟩)))/\Two n (Nd.inner Bm c h (Nd.inner Bl cl hl ll lr) r) w w2:=B2_start (H.2.2.2.2.step hb)
theorem B2_drew (H:w1.cell? ⟨Bm,9,none⟩=some (.iface 158 (.pointer (some ⟨Bl,0,none⟩)))/\w1.cell? ⟨Bm,10,none⟩=some (.iface r.ty (.pointer (some ⟨r.blk,0,none⟩)))/\w1.cell? ⟨Bl,9,none⟩=some (.iface ll.ty (.pointer (some ⟨ll.blk,0,none⟩)))/\w1.cell? ⟨Bl,10,none⟩=some (.iface lr.ty (.pointer (some ⟨lr.blk,0,none⟩)))/\Two n (Nd.inner Bm c h (Nd.inner Bl cl hl ll lr) r) w w1):w1.drew.cell? ⟨Bm,9,none⟩=some (.iface 158 (.pointer (some ⟨Bl,0,none⟩)))/\w1.drew.cell? ⟨Bm,10,none⟩=some (.iface r.ty (.pointer (some ⟨r.blk,0,none⟩)))/\w1.drew.cell? ⟨Bl,9,none⟩=some (.iface ll.ty (.pointer (some ⟨ll.blk,0,none⟩)))/\w1.drew.cell? ⟨Bl,10,none⟩=some (.iface lr.ty (.pointer (some ⟨lr.blk,0,none⟩)))/\Two n (Nd.inner Bm c h (Nd.inner Bl cl hl ll lr) r) w w1.drew:=B2_step H ((Below.refl _ _).drew)
theorem B2_l (H:w1.cell? ⟨Bm,9,none⟩=some (.iface 158 (.pointer (some ⟨Bl,0,none⟩)))/\w1.cell? ⟨Bm,10,none⟩=some (.iface r.ty (.pointer (some ⟨r.blk,0,none⟩)))/\w1.cell? ⟨Bl,9,none⟩=some (.iface ll.ty (.pointer (some ⟨ll.blk,0,none⟩)))/\w1.cell? ⟨Bl,10,none⟩=some (.iface lr.ty (.pointer (some ⟨lr.blk,0,none⟩)))/\Two n (Nd.inner Bm c h (Nd.inner Bl cl hl ll lr) r) w w1):(Nd.inner Bl cl hl ll lr).In w1:=H.2.2.2.2.m.2.1
theorem B2_ll (H:w1.cell? ⟨Bm,9,none⟩=some (.iface 158 (.pointer (some ⟨Bl,0,none⟩)))/\w1.cell? ⟨Bm,10,none⟩=some (.iface r.ty (.pointer (some ⟨r.blk,0,none⟩)))/\w1.cell? ⟨Bl,9,none⟩=some (.iface ll.ty (.pointer (some ⟨ll.blk,0,none⟩)))/\w1.cell? ⟨Bl,10,none⟩=some (.iface lr.ty (.pointer (some ⟨lr.blk,0,none⟩)))/\Two n (Nd.inner Bm c h (Nd.inner Bl cl hl ll lr) r) w w1):ll.In w1:=H.2.2.2.2.m.2.1.2.1
theorem B2_lr (H:w1.cell? ⟨Bm,9,none⟩=some (.iface 158 (.pointer (some ⟨Bl,0,none⟩)))/\w1.cell? ⟨Bm,10,none⟩=some (.iface r.ty (.pointer (some ⟨r.blk,0,none⟩)))/\w1.cell? ⟨Bl,9,none⟩=some (.iface ll.ty (.pointer (some ⟨ll.blk,0,none⟩)))/\w1.cell? ⟨Bl,10,none⟩=some (.iface lr.ty (.pointer (some ⟨lr.blk,0,none⟩)))/\Two n (Nd.inner Bm c h (Nd.inner Bl cl hl ll lr) r) w w1):lr.In w1:=H.2.2.2.2.m.2.1.2.2
theorem B2_r (H:w1.cell? ⟨Bm,9,none⟩=some (.iface 158 (.pointer (some ⟨Bl,0,none⟩)))/\w1.cell? ⟨Bm,10,none⟩=some (.iface r.ty (.pointer (some ⟨r.blk,0,none⟩)))/\w1.cell? ⟨Bl,9,none⟩=some (.iface ll.ty (.pointer (some ⟨ll.blk,0,none⟩)))/\w1.cell? ⟨Bl,10,none⟩=some (.iface lr.ty (.pointer (some ⟨lr.blk,0,none⟩)))/\Two n (Nd.inner Bm c h (Nd.inner Bl cl hl ll lr) r) w w1):r.In w1:=H.2.2.2.2.m.2.2
theorem B2_n (H:w1.cell? ⟨Bm,9,none⟩=some (.iface 158 (.pointer (some ⟨Bl,0,none⟩)))/\w1.cell? ⟨Bm,10,none⟩=some (.iface r.ty (.pointer (some ⟨r.blk,0,none⟩)))/\w1.cell? ⟨Bl,9,none⟩=some (.iface ll.ty (.pointer (some ⟨ll.blk,0,none⟩)))/\w1.cell? ⟨Bl,10,none⟩=some (.iface lr.ty (.pointer (some ⟨lr.blk,0,none⟩)))/\Two n (Nd.inner Bm c h (Nd.inner Bl cl hl ll lr) r) w w1):n.In w1:=H.2.2.2.2.n
end
theorem leveled_B2 (Bm Bl:Nat) (c cl:Cn) (h hl:Nat) (n ll lr r:Nd) (w:World) (hn:n.In w) (hm:(Nd.inner Bm c h (Nd.inner Bl cl hl ll lr) r).In w) (on:n.Ok) (om:(Nd.inner Bm c h (Nd.inner Bl cl hl ll lr) r).Ok) (hs:(n.cn.plus c).Small) (hr:n.row.length+(Nd.inner Bm c h (Nd.inner Bl cl hl ll lr) r).row.length<=1152921504606846976) (h1:n.lev+1<h) (h2:r.lev<hl) :
  Calls Tryz.prog 97 #[n.val,(Nd.inner Bm c h (Nd.inner Bl cl hl ll lr) r).val] w fun e w'=>∃q,Made n (Nd.inner Bm c h (Nd.inner Bl cl hl ll lr) r) w e w' q:=by
 have l1:h<_:=Nd.lev_row om
 have l2:=Nd.lev_row on
 have l3:=Nd.lev_row om.2.2.1.2.2.1
 have l4:=Nd.lev_row om.2.2.1.2.2.2
 have l5:=Nd.lev_row om.2.2.2
 have l6:hl<_:=Nd.lev_row om.2.2.1
 have hrow:(Nd.inner Bm c h (Nd.inner Bl cl hl ll lr) r).row.length=ll.row.length+lr.row.length+r.row.length:=by simp [Nd.row];omega
 have H:=Z1 (Two.mk hn hm (Below.refl w.heap.size w))
 have hcc:n.cn.plus c=(n.cn.plus ll.cn).plus (lr.cn.plus r.cn):=by
  have e1:c=cl.plus r.cn:=om.1
  have e2:cl=ll.cn.plus lr.cn:=om.2.2.1.1
  rw[e1,e2,Cn.plus_assoc,Cn.plus_assoc]
 rw[hcc] at hs
 have HA1:=Z1 (fun w1 (hn:n.In w1) (hm:ll.In w1)=>above_val n ll w1 hn hm hs.left.left hs.left.right (by omega) (by omega))
 have HA2:=Z1 (fun w1 (hn:lr.In w1) (hm:r.In w1)=>above_val lr r w1 hn hm hs.right.left hs.right.right (by omega) (by omega))
 have HA3:=Z1 (fun B1 B2 w1 (hn:(Nd.inner B1 (n.cn.plus ll.cn) (1+max n.lev ll.lev) n ll).In w1) (hm:(Nd.inner B2 (lr.cn.plus r.cn) (1+max lr.lev r.lev) lr r).In w1)=>above_val (Nd.inner B1 (n.cn.plus ll.cn) (1+max n.lev ll.lev) n ll) (Nd.inner B2 (lr.cn.plus r.cn) (1+max lr.lev r.lev) lr r) w1 hn hm hs.left hs.right (by show 1+max n.lev ll.lev<=_;omega) (by show 1+max lr.lev r.lev<=_;omega))
 have HQ:=Z1 (fun B1 B2 B3 w'=>@made_B2 Bm Bl B1 B2 B3 h hl c cl n ll lr r w w' on om h1 h2)
 clear hcc hs
 rw[n.val_eq]
 simp only[Nd.val]
 generalize hj:n.lev=j at l2 h1
 have HJ:=Z1 hj
 clear hj hn hm on om
 have ta:=assert_inner
 go_enter Tryz.func97,Tryz.ntmps97
 go_wp2_with fail
 rw[meth_level n 284 _ H.out.n,HJ.out]
 go_wp2_with fail
 refine (level_any n.cn j _).mono ?_
 rintro e w1 ⟨rfl,hb⟩
 replace H:=Z1 (H.out.step hb)
 clear hb
 go_wp2_with fail
 rw [show (method 285 158 (.pointer (some ⟨Bm, 0, none⟩)) "vellum/atoms.level").run Tryz.prog _ = _ from meth_level (Nd.inner Bm c h (Nd.inner Bl cl hl ll lr) r) 284 _ H.out.m]
 go_wp2_with fail
 refine (level_any c h _).mono ?_
 rintro e w2 ⟨rfl,hb⟩
 replace H:=Z1 (H.out.step hb)
 clear hb w1
 go_wp2_with fail
 rw [show (method 285 158 (.pointer (some ⟨Bm, 0, none⟩)) "vellum/atoms.level").run Tryz.prog _ = _ from meth_level (Nd.inner Bm c h (Nd.inner Bl cl hl ll lr) r) 284 _ H.out.m]
 go_wp2_with fail
 refine (level_any c h _).mono ?_
 rintro e w1 ⟨rfl,hb⟩
 replace H:=Z1 (H.out.step hb)
 clear hb w2
 go_wp2_with fail
 rw[meth_level n 284 _ H.out.n,HJ.out]
 go_wp2_with fail
 refine (level_any n.cn j _).mono ?_
 rintro e w2 ⟨rfl,hb⟩
 replace H:=Z1 (H.out.step hb)
 clear hb w1
 have hS:=B2_start H.out
 obtain⟨p9,p10,q9,q10,_⟩:=B2_start H.out
 generalize hrk:r.lev=rk at *
 have HRK:=Z1 hrk
 clear hrk
 go_wp2_with fail
 go_region_held3 (fun w'=>w'.cell? ⟨Bm,9,none⟩=some (.iface 158 (.pointer (some ⟨Bl,0,none⟩)))/\w'.cell? ⟨Bm,10,none⟩=some (.iface r.ty (.pointer (some ⟨r.blk,0,none⟩)))/\w'.cell? ⟨Bl,9,none⟩=some (.iface ll.ty (.pointer (some ⟨ll.blk,0,none⟩)))/\w'.cell? ⟨Bl,10,none⟩=some (.iface lr.ty (.pointer (some ⟨lr.blk,0,none⟩)))/\Two n (Nd.inner Bm c h (Nd.inner Bl cl hl ll lr) r) w w')
  (first|assumption|exact B2_drew (by assumption))
  (first
   |rw[meth_level r 284 _ (B2_r (by assumption)),HRK.out]
   | rw [show (method 285 158 (.pointer (some ⟨Bl, 0, none⟩)) "vellum/atoms.level").run Tryz.prog _ = _ from meth_level (Nd.inner Bl cl hl ll lr) 284 _ (B2_l (by assumption))]
   |(go_at_call 127;first|(refine (level_any r.cn rk _).mono ?_;rintro e w3 ⟨rfl,hb3⟩;have hS3:=B2_step (by assumption) hb3)|(refine (level_any cl hl _).mono ?_;rintro e w4 ⟨rfl,hb4⟩;have hS4:=B2_step (by assumption) hb4)))
 clear p9 p10 q9 q10
 obtain⟨p9,p10,q9,q10,_⟩:=hS4
 go_wp2_with fail
 go_region_held3 (fun w'=>w'.cell? ⟨Bm,9,none⟩=some (.iface 158 (.pointer (some ⟨Bl,0,none⟩)))/\w'.cell? ⟨Bm,10,none⟩=some (.iface r.ty (.pointer (some ⟨r.blk,0,none⟩)))/\w'.cell? ⟨Bl,9,none⟩=some (.iface ll.ty (.pointer (some ⟨ll.blk,0,none⟩)))/\w'.cell? ⟨Bl,10,none⟩=some (.iface lr.ty (.pointer (some ⟨lr.blk,0,none⟩)))/\Two n (Nd.inner Bm c h (Nd.inner Bl cl hl ll lr) r) w w')
  (first|assumption|exact B2_drew (by assumption))
  (first
   |(go_at_call 98;first
    |(refine (HA3.out B1 B2 _ (by assumption) (by assumption)).mono ?_;rintro e w7 ⟨B3,rfl,hi7,hb7⟩;have hS7:=B2_step (by assumption) hb7)
    |(have hB1:=Nat.le_refl B1;refine (HA2.out _ (B2_lr (by assumption)) (B2_r (by assumption))).mono ?_;rintro e w6 ⟨B2,rfl,hi6,hb6⟩;have hi56:=Nd.low hb6 hi5;have hS6:=B2_step (by assumption) hb6)
    |(refine (HA1.out _ (B2_n (by assumption)) (B2_ll (by assumption))).mono ?_;rintro e w5 ⟨B1,rfl,hi5,hb5⟩;have hS5:=B2_step (by assumption) hb5)))
 go_wp2_with fail
 go_ret
 exact⟨_,HQ.out B1 B2 B3 w7 hi7 hS7.2.2.2.2.b⟩
end Go.Proofs.YtoejbngihecafabGreatDoor
