import Derived.Deep.RegionHeld3
import Derived.Deep.Heap
import Derived.Test.YtoejbngihecafaaGreatDoorC10
import Derived.Test.YtoejbngihecafaaGreatDoorC0
set_option maxRecDepth 100000
set_option maxHeartbeats 1000000
open Go.Proofs.Tryz
namespace Go.Proofs.YtoejbngihecafaaGreatDoor
open Go.RowKit
variable {a:Cn} {w:World} {B:Nat}
theorem QhU (n m:Nd) (w w5:World) (o:Obj) (c:Cn) (x:Nat) (hp:n.cn.plus m.cn=c) (hx:max n.lev m.lev=x) (hn:n.In w5) (hm:m.In w5) (hb:Below w.heap.size w w5) :
  ∃B,Ending.returned (.iface 215 (.pointer (some ⟨w5.heap.size+1,0,none⟩)))=.returned (Nd.inner B (n.cn.plus m.cn) (1+max n.lev m.lev) n m).val/\w.heap.size<=B /\
   (Nd.inner B (n.cn.plus m.cn) (1+max n.lev m.lev) n m).In ((w5.alloc o).alloc (.cells #[.int .i64 c.body,.int .i64 c.bytes,.int .i64 c.chars,.int .i64 c.units,.int .i64 c.esc,.int .i64 c.lf,.int .i64 c.crlf,.int .i64 c.cr,.int .i64 (1+(x:Int)),.iface n.ty (.pointer (some ⟨n.blk,0,none⟩)),.iface m.ty (.pointer (some ⟨m.blk,0,none⟩))] 217)) /\
   Below w.heap.size w ((w5.alloc o).alloc (.cells #[.int .i64 c.body,.int .i64 c.bytes,.int .i64 c.chars,.int .i64 c.units,.int .i64 c.esc,.int .i64 c.lf,.int .i64 c.crlf,.int .i64 c.cr,.int .i64 (1+(x:Int)),.iface n.ty (.pointer (some ⟨n.blk,0,none⟩)),.iface m.ty (.pointer (some ⟨m.blk,0,none⟩))] 217)):=by
 subst hp hx
 have hz:=hb.size
 refine⟨w5.heap.size+1,rfl,by omega,⟨?_,?_,?_⟩,?_⟩
 ·rw[n.val_eq,m.val_eq];have h:=Go.Deep.blk_alloc_new (w5.alloc o) (.cells #[.int .i64 (n.cn.plus m.cn).body,.int .i64 (n.cn.plus m.cn).bytes,.int .i64 (n.cn.plus m.cn).chars,.int .i64 (n.cn.plus m.cn).units,.int .i64 (n.cn.plus m.cn).esc,.int .i64 (n.cn.plus m.cn).lf,.int .i64 (n.cn.plus m.cn).crlf,.int .i64 (n.cn.plus m.cn).cr,.int .i64 (1+((max n.lev m.lev:Nat):Int)),.iface n.ty (.pointer (some ⟨n.blk,0,none⟩)),.iface m.ty (.pointer (some ⟨m.blk,0,none⟩))] 217);rw[World.size_alloc] at h;exact h
 ·exact Nd.low ((Z7 _ _).alloc (by simp) _) hn
 ·exact Nd.low ((Z7 _ _).alloc (by simp) _) hm
 exact (hb.alloc hz _).alloc (by simp;omega) _
theorem Qhq (n m:Nd) (w:World) (hn:n.In w) (hm:m.In w) (sn:n.cn.Small) (sm:m.cn.Small) (ln:n.lev<=1152921504606846976) (lm:m.lev<=1152921504606846976) :
  Calls prog 145 #[n.val,m.val] w fun e w'=>∃B,e=.returned (Nd.inner B (n.cn.plus m.cn) (1+max n.lev m.lev) n m).val/\w.heap.size<=B/\(Nd.inner B (n.cn.plus m.cn) (1+max n.lev m.lev) n m).In w'/\Below w.heap.size w w':=by
 rw[n.val_eq,m.val_eq]
 have hz:=Nd.blk_lt hn
 have hz2:=Nd.blk_lt hm
 have HN:=Z1 hn
 have HM:=Z1 hm
 clear hn hm
 go_enter func145,ntmps145
 go_wp2_with fail
 rw[Qa0 n 362 _ HN.o]
 go_wp2_with fail
 refine (Qbn n.cn _).mono ?_
 rintro e w1 ⟨rfl,hb1⟩
 have HN1:=Z1 (Nd.low hb1 HN.o)
 have HM1:=Z1 (Nd.low hb1 HM.o)
 go_wp2_with fail
 rw[Qa0 m 362 _ HM1.o]
 go_wp2_with fail
 refine (Qbn m.cn _).mono ?_
 rintro e w2 ⟨rfl,hb2⟩
 have HN2:=Z1 (Nd.low hb2 HN1.o)
 have HM2:=Z1 (Nd.low hb2 HM1.o)
 go_wp2_with fail
 refine (QjU n.cn m.cn _ sn sm).mono ?_
 rintro e w3 ⟨rfl,hb3⟩
 have HN3:=Z1 (Nd.low hb3 HN2.o)
 have HM3:=Z1 (Nd.low hb3 HM2.o)
 have hb3':Below w.heap.size w w3:=(hb1.trans (hb2.mono hb1.size)).trans (hb3.mono (Nat.le_trans hb1.size hb2.size))
 clear HN HM HN1 HM1 HN2 HM2 hb1 hb2 hb3
 clear w1 w2
 go_wp2_with fail
 rw[Qac n 362 _ HN3.o]
 go_wp2_with fail
 refine (Qad n.cn n.lev _).mono ?_
 rintro e w4 ⟨rfl,hb4⟩
 have HN4:=Z1 (Nd.low hb4 HN3.o)
 have HM4:=Z1 (Nd.low hb4 HM3.o)
 go_wp2_with fail
 rw[Qac m 362 _ HM4.o]
 go_wp2_with fail
 refine (Qad m.cn m.lev _).mono ?_
 rintro e w5 ⟨rfl,hb5⟩
 have HN5:=Z1 (Nd.low hb5 HN4.o)
 have HM5:=Z1 (Nd.low hb5 HM4.o)
 have HB5:=Z1 ((hb3'.trans (hb4.mono hb3'.size)).trans (hb5.mono (Nat.le_trans hb3'.size hb4.size)))
 clear HN3 HM3 HN4 HM4 hb3' hb4 hb5
 clear w3 w4
 generalize hp:n.cn.plus m.cn=p
 have HP:=Z1 hp
 clear hp
 obtain⟨d0,d1,d2,d3,d4,d5,d6,d7⟩:=p
 simp only[Cn.val]
 generalize hk:n.lev=k at *
 generalize hj:m.lev=j at *
 have HK:=Z1 hk
 have HJ:=Z1 hj
 clear hk hj
 clear sn sm
 go_wp2_with fail
 ·go_ret;exact QhU n m w w5 _ _ j HP.o (by rw[HK.o,HJ.o];omega) HN5.o HM5.o HB5.o
 go_ret
 exact QhU n m w w5 _ _ k HP.o (by rw[HK.o,HJ.o];omega) HN5.o HM5.o HB5.o
theorem Cn.plus_assoc (a b c:Cn):(a.plus b).plus c=a.plus (b.plus c):=by simp [Cn.plus,Nat.add_assoc]
theorem Cn.Small.left {b:Cn} (h:(a.plus b).Small):a.Small:=by
 obtain⟨h0,h1,h2,h3,h4,h5,h6,h7⟩:=h;simp only[Cn.plus] at *;constructor<;>omega
theorem Cn.Small.right {b:Cn} (h:(a.plus b).Small):b.Small:=by
 obtain⟨h0,h1,h2,h3,h4,h5,h6,h7⟩:=h;simp only[Cn.plus] at *;constructor<;>omega
theorem Nd.lev_row :∀{n:Nd},n.Ok->n.lev<n.row.length
 |.leaf _ _ _,_=>by simp [Nd.lev,Nd.row]
 |.inner _ _ h l r,⟨_,hh,hl,hr⟩=>by
  have:=Nd.lev_row hl
  have:=Nd.lev_row hr
  simp only[Nd.lev,Nd.row,List.length_append] at *
  omega
structure Made (n m:Nd) (w:World) (e:Ending) (w':World) (r:Nd):Prop where
 val:e=.returned r.val
 inn:r.In w'
 ok:r.Ok
 cn:r.cn=n.cn.plus m.cn
 row:r.row=n.row++m.row
 lo:max n.lev m.lev<=r.lev
 up:r.lev<=1+max n.lev m.lev
 below:Below w.heap.size w w'
structure Two (n m:Nd) (w0 w:World):Prop where
 n:n.In w
 m:m.In w
 b:Below w0.heap.size w0 w
theorem Two.step {n m:Nd} {w0 w1:World} (h:Two n m w0 w) (hb:Below w.heap.size w w1):Two n m w0 w1 :=
 ⟨Nd.low hb h.n,Nd.low hb h.m,h.b.trans (hb.mono h.b.size)⟩
theorem Qgs {n m:Nd} {w':World} (on:n.Ok) (om:m.Ok) (hi:(Nd.inner B (n.cn.plus m.cn) (1+max n.lev m.lev) n m).In w') (hb:Below w.heap.size w w') (e:Ending) (he:e=.returned (Nd.inner B (n.cn.plus m.cn) (1+max n.lev m.lev) n m).val) :
  Made n m w e w' (.inner B (n.cn.plus m.cn) (1+max n.lev m.lev) n m) :=
 ⟨he,hi,⟨rfl,rfl,on,om⟩,rfl,rfl,by simp only[Nd.lev];omega,by simp only[Nd.lev];omega,hb⟩
theorem Qll (n m:Nd) (w:World) (hn:n.In w) (hm:m.In w) (on:n.Ok) (om:m.Ok) (hs:(n.cn.plus m.cn).Small) (hr:n.row.length+m.row.length<=1152921504606846976) (h1:n.lev<=m.lev+1) (h2:m.lev<=n.lev+1) :
  Calls prog 144 #[n.val,m.val] w fun e w'=>∃r,Made n m w e w' r:=by
 have l1:=Nd.lev_row on
 have l2:=Nd.lev_row om
 have HA:=Z1 (fun w1 (hn:n.In w1) (hm:m.In w1)=>Qhq n m w1 hn hm hs.left hs.right (by omega) (by omega))
 have HO:=Z1 on
 have HO2:=Z1 om
 have H:=Z1 (Two.mk hn hm (Below.refl w.heap.size w))
 rw[n.val_eq,m.val_eq] at *
 generalize hk:n.lev=k at l1 l2 h1 h2
 generalize hj:m.lev=j at l1 l2 h1 h2
 have HK:=Z1 hk
 have HJ:=Z1 hj
 clear hk hj hn hm on om
 go_enter func144,ntmps144
 go_wp2_with fail
 rw[Qac n 362 _ H.o.n,HK.o]
 go_wp2_with fail
 refine (Qad n.cn k _).mono ?_
 rintro e w1 ⟨rfl,hb⟩
 replace H:=Z1 (H.o.step hb)
 clear hb
 go_wp2_with fail
 rw[Qac m 362 _ H.o.m,HJ.o]
 go_wp2_with fail
 refine (Qad m.cn j _).mono ?_
 rintro e w2 ⟨rfl,hb⟩
 replace H:=Z1 (H.o.step hb)
 clear hb w1
 go_wp2_with fail
 rw[Qac m 362 _ H.o.m,HJ.o]
 go_wp2_with fail
 refine (Qad m.cn j _).mono ?_
 rintro e w1 ⟨rfl,hb⟩
 replace H:=Z1 (H.o.step hb)
 clear hb w2
 go_wp2_with fail
 rw[Qac n 362 _ H.o.n,HK.o]
 go_wp2_with fail
 refine (Qad n.cn k _).mono ?_
 rintro e w2 ⟨rfl,hb⟩
 replace H:=Z1 (H.o.step hb)
 clear hb w1
 go_wp2_with fail
 refine (HA.o _ H.o.n H.o.m).mono ?_
 rintro e w3 ⟨B,rfl,hB,hi,hb⟩
 have hb3:=H.o.b.trans (hb.mono H.o.b.size)
 go_wp2_with fail
 go_ret
 exact⟨_,Qgs HO.o HO2.o hi hb3 _ rfl⟩
theorem Qbq (v:Value) (w:World):(Instr.typeAssert (.iface 215 v) 87 215 false).run prog w=.ok v w:=by kernel_rfl
theorem Qal {c:Cn} {k:Nat} {l r:Nd} (h:(Nd.inner B c k l r).In w):w.cell? ⟨B,9,none⟩=some (.iface l.ty (.pointer (some ⟨l.blk,0,none⟩)))/\w.cell? ⟨B,10,none⟩=some (.iface r.ty (.pointer (some ⟨r.blk,0,none⟩))):=by
 have h1:=h.1;rw[l.val_eq,r.val_eq] at h1;constructor
 ·rw[Lib.cell_of_heap h1];rfl
 rw[Lib.cell_of_heap h1];rfl
theorem QaY (n m:Nd) (w:World) (hn:n.In w) (hm:m.In w) (sn:n.cn.Small) (sm:m.cn.Small) (ln:n.lev<=1152921504606846976) (lm:m.lev<=1152921504606846976) :
  Calls prog 145 #[.iface n.ty (.pointer (some ⟨n.blk,0,none⟩)),.iface m.ty (.pointer (some ⟨m.blk,0,none⟩))] w fun e w'=>∃B,e=.returned (.iface 215 (.pointer (some ⟨B,0,none⟩)))/\(Nd.inner B (n.cn.plus m.cn) (1+max n.lev m.lev) n m).In w'/\Below w.heap.size w w':=by
 rw[<-n.val_eq,<-m.val_eq]
 refine (Qhq n m w hn hm sn sm ln lm).mono ?_
 rintro e w' ⟨B,rfl,_,hi,hb⟩
 exact⟨B,rfl,hi,hb⟩
theorem QoP {Bn B1 B2 h:Nat} {c:Cn} {l r m:Nd} {w w':World} (on:(Nd.inner Bn c h l r).Ok) (om:m.Ok) (h1:m.lev+1<h) (h2:r.lev<=l.lev)
  (hi:(Nd.inner B2 (l.cn.plus (r.cn.plus m.cn)) (1+max l.lev (1+max r.lev m.lev)) l (Nd.inner B1 (r.cn.plus m.cn) (1+max r.lev m.lev) r m)).In w') (hb:Below w.heap.size w w') :
  Made (Nd.inner Bn c h l r) m w (.returned (.iface 215 (.pointer (some ⟨B2,0,none⟩)))) w' (Nd.inner B2 (l.cn.plus (r.cn.plus m.cn)) (1+max l.lev (1+max r.lev m.lev)) l (Nd.inner B1 (r.cn.plus m.cn) (1+max r.lev m.lev) r m)):=by
 obtain⟨hc,hh,ol,or⟩:=on
 refine⟨rfl,hi,⟨rfl,rfl,ol,rfl,rfl,or,om⟩,?_,?_,?_,?_,hb⟩
 ·show _=c.plus m.cn;rw[hc,Cn.plus_assoc];rfl
 ·simp [Nd.row]
 ·show max h m.lev<=1+max l.lev (1+max r.lev m.lev);omega
 show 1+max l.lev (1+max r.lev m.lev)<=1+max h m.lev
 omega
section
variable {Bn:Nat} {c:Cn} {h:Nat} {l r m:Nd} {w w1 w2:World}
theorem QgT (H:Two (Nd.inner Bn c h l r) m w w1):w1.cell? ⟨Bn,9,none⟩=some (.iface l.ty (.pointer (some ⟨l.blk,0,none⟩)))/\w1.cell? ⟨Bn,10,none⟩=some (.iface r.ty (.pointer (some ⟨r.blk,0,none⟩)))/\Two (Nd.inner Bn c h l r) m w w1 :=
 ⟨(Qal H.n).1,(Qal H.n).2,H⟩
theorem QfO (H:w1.cell? ⟨Bn,9,none⟩=some (.iface l.ty (.pointer (some ⟨l.blk,0,none⟩)))/\w1.cell? ⟨Bn,10,none⟩=some (.iface r.ty (.pointer (some ⟨r.blk,0,none⟩)))/\Two (Nd.inner Bn c h l r) m w w1) (hb:Below w1.heap.size w1 w2) :
 w2.cell? ⟨Bn,9,none⟩=some (.iface l.ty (.pointer (some ⟨l.blk,0,none⟩)))/\w2.cell? ⟨Bn,10,none⟩=some (.iface r.ty (.pointer (some ⟨r.blk,0,none⟩)))/\Two (Nd.inner Bn c h l r) m w w2:=QgT (H.2.2.step hb)
theorem Qmt (H:w1.cell? ⟨Bn,9,none⟩=some (.iface l.ty (.pointer (some ⟨l.blk,0,none⟩)))/\w1.cell? ⟨Bn,10,none⟩=some (.iface r.ty (.pointer (some ⟨r.blk,0,none⟩)))/\Two (Nd.inner Bn c h l r) m w w1) :
 w1.drew.cell? ⟨Bn,9,none⟩=some (.iface l.ty (.pointer (some ⟨l.blk,0,none⟩)))/\w1.drew.cell? ⟨Bn,10,none⟩=some (.iface r.ty (.pointer (some ⟨r.blk,0,none⟩)))/\Two (Nd.inner Bn c h l r) m w w1.drew:=QfO H ((Below.refl _ _).drew)
theorem A_l (H:w1.cell? ⟨Bn,9,none⟩=some (.iface l.ty (.pointer (some ⟨l.blk,0,none⟩)))/\w1.cell? ⟨Bn,10,none⟩=some (.iface r.ty (.pointer (some ⟨r.blk,0,none⟩)))/\Two (Nd.inner Bn c h l r) m w w1):l.In w1:=H.2.2.n.2.1
theorem A_r (H:w1.cell? ⟨Bn,9,none⟩=some (.iface l.ty (.pointer (some ⟨l.blk,0,none⟩)))/\w1.cell? ⟨Bn,10,none⟩=some (.iface r.ty (.pointer (some ⟨r.blk,0,none⟩)))/\Two (Nd.inner Bn c h l r) m w w1):r.In w1:=H.2.2.n.2.2
theorem A_m (H:w1.cell? ⟨Bn,9,none⟩=some (.iface l.ty (.pointer (some ⟨l.blk,0,none⟩)))/\w1.cell? ⟨Bn,10,none⟩=some (.iface r.ty (.pointer (some ⟨r.blk,0,none⟩)))/\Two (Nd.inner Bn c h l r) m w w1):m.In w1:=H.2.2.m
end
theorem QkB (Bn:Nat) (c:Cn) (h:Nat) (l r m:Nd) (w:World) (hn:(Nd.inner Bn c h l r).In w) (hm:m.In w) (on:(Nd.inner Bn c h l r).Ok) (om:m.Ok) (hs:(c.plus m.cn).Small) (hr:(Nd.inner Bn c h l r).row.length+m.row.length<=1152921504606846976) (h1:m.lev+1<h) (h2:r.lev<=l.lev) :
  Calls prog 144 #[(Nd.inner Bn c h l r).val,m.val] w fun e w'=>∃q,Made (Nd.inner Bn c h l r) m w e w' q:=by
 have l1:=Nd.lev_row on
 have l2:=Nd.lev_row om
 have l3:=Nd.lev_row on.2.2.1
 have l4:=Nd.lev_row on.2.2.2
 have hrow:(Nd.inner Bn c h l r).row.length=l.row.length+r.row.length:=by simp [Nd.row]
 have HO:=Z1 on
 have HO2:=Z1 om
 have H:=Z1 (Two.mk hn hm (Below.refl w.heap.size w))
 have hcc:c.plus m.cn=l.cn.plus (r.cn.plus m.cn):=by rw[on.1,Cn.plus_assoc]
 rw[hcc] at hs
 have HA1:=Z1 (fun w1 (hn:r.In w1) (hm:m.In w1)=>QaY r m w1 hn hm hs.right.left hs.right.right (by omega) (by omega))
 have HA2:=Z1 (fun B1 w1 (hn:l.In w1) (hm:(Nd.inner B1 (r.cn.plus m.cn) (1+max r.lev m.lev) r m).In w1)=>QaY l (Nd.inner B1 (r.cn.plus m.cn) (1+max r.lev m.lev) r m) w1 hn hm hs.left hs.right (by omega) (by show 1+max r.lev m.lev<=_;omega))
 have HQ:=Z1 (fun B1 B2 w'=>@QoP Bn B1 B2 h c l r m w w' on om h1 h2)
 clear hcc hs
 have HT:=Z1 (@Nd.val_eq (Nd.inner Bn c h l r))
 rw[m.val_eq]
 simp only[Nd.val]
 generalize hj:m.lev=j at l2 h1
 have HJ:=Z1 hj
 clear hj hn hm on om
 have ta:=Qbq
 go_enter func144,ntmps144
 go_wp2_with fail
 rw [show (method 363 215 (.pointer (some ⟨Bn, 0, none⟩)) "vellum/atoms.level").run prog _ = _ from Qac (Nd.inner Bn c h l r) 362 _ H.o.n]
 go_wp2_with fail
 refine (Qad c h _).mono ?_
 rintro e w1 ⟨rfl,hb⟩
 replace H:=Z1 (H.o.step hb)
 clear hb
 go_wp2_with fail
 rw[Qac m 362 _ H.o.m,HJ.o]
 go_wp2_with fail
 refine (Qad m.cn j _).mono ?_
 rintro e w2 ⟨rfl,hb⟩
 replace H:=Z1 (H.o.step hb)
 clear hb w1
 have hS:=QgT H.o
 obtain⟨p9,p10⟩:=Qal H.o.n
 generalize hlk:l.lev=lk at *
 generalize hrk:r.lev=rk at *
 have HLK:=Z1 hlk
 have HRK:=Z1 hrk
 clear hlk hrk
 go_wp2_with fail
 go_region_held3 (fun w'=>w'.cell? ⟨Bn,9,none⟩=some (.iface l.ty (.pointer (some ⟨l.blk,0,none⟩)))/\w'.cell? ⟨Bn,10,none⟩=some (.iface r.ty (.pointer (some ⟨r.blk,0,none⟩)))/\Two (Nd.inner Bn c h l r) m w w')
  (first|assumption|exact Qmt (by assumption))
  (first
   |rw[Qac l 362 _ (A_l (by assumption)),HLK.o]
   |rw[Qac r 362 _ (A_r (by assumption)),HRK.o]
   |(go_at_call 199;first|(refine (Qad l.cn lk _).mono ?_;rintro e w3 ⟨rfl,hb3⟩;have hS3:=QfO (by assumption) hb3)|(refine (Qad r.cn rk _).mono ?_;rintro e w4 ⟨rfl,hb4⟩;have hS4:=QfO (by assumption) hb4)))
 clear p9 p10
 obtain⟨p9,p10,_⟩:=hS4
 go_wp2_with fail
 go_region_held3 (fun w'=>w'.cell? ⟨Bn,9,none⟩=some (.iface l.ty (.pointer (some ⟨l.blk,0,none⟩)))/\w'.cell? ⟨Bn,10,none⟩=some (.iface r.ty (.pointer (some ⟨r.blk,0,none⟩)))/\Two (Nd.inner Bn c h l r) m w w')
  (first|assumption|exact Qmt (by assumption))
  (first
   |(go_at_call 145;first|(refine (HA2.o B1 _ (A_l (by assumption)) (by assumption)).mono ?_;rintro e w6 ⟨B2,rfl,hi6,hb6⟩;have hS6:=QfO (by assumption) hb6)|(refine (HA1.o _ (A_r (by assumption)) (A_m (by assumption))).mono ?_;rintro e w5 ⟨B1,rfl,hi5,hb5⟩;have hS5:=QfO (by assumption) hb5)))
 go_wp2_with fail
 go_ret
 exact⟨_,HQ.o B1 B2 w6 hi6 hS6.2.2.b⟩
end Go.Proofs.YtoejbngihecafaaGreatDoor
