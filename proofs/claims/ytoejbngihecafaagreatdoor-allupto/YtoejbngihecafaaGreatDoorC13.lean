import Derived.Test.YtoejbngihecafaaGreatDoorC12
import Derived.Test.YtoejbngihecafaaGreatDoorC0
set_option maxRecDepth 100000
set_option maxHeartbeats 1000000
open Go.Proofs.Tryz
namespace Go.Proofs.YtoejbngihecafaaGreatDoor
open Go.RowKit
structure Joined (n m:Nd) (w:World) (e:Ending) (w':World) (r:Nd):Prop where
 val:e=.returned (.iface r.ty (.pointer (some ⟨r.blk,0,none⟩)))
 inn:r.In w'
 ok:r.Ok
 cn:r.cn=n.cn.plus m.cn
 row:r.row=n.row++m.row
 below:Below w.heap.size w w'
theorem Made.joined {n m r:Nd} {w w':World} {e:Ending} (h:Made n m w e w' r):Joined n m w e w' r :=
 ⟨by rw[h.val,r.val_eq],h.inn,h.ok,h.cn,h.row,h.below⟩
theorem QfS (n m:Nd) (w:World) (hn:n.In w) (hm:m.In w) (on:n.Ok) (om:m.Ok) (hs:(n.cn.plus m.cn).Small) (hr:n.row.length+m.row.length<=1152921504606846976) :
  Calls prog 144 #[.iface n.ty (.pointer (some ⟨n.blk,0,none⟩)),.iface m.ty (.pointer (some ⟨m.blk,0,none⟩))] w fun e w'=>∃r,Joined n m w e w' r:=by
 rw[<-n.val_eq,<-m.val_eq]
 have key:Calls prog 144 #[n.val,m.val] w fun e w'=>∃r,Made n m w e w' r:=by
  by_cases h1:m.lev+1<n.lev
  ·cases n with
   |leaf B c s=>exact absurd h1 (by simp [Nd.lev])
   |inner B c h l r =>
    by_cases h2:r.lev<=l.lev
    ·exact QkB B c h l r m w hn hm on om hs hr h1 h2
    cases r with
    |leaf B' c' s'=>exact absurd h2 (by simp [Nd.lev])
    |inner B' c' h' l' r'=>exact Qkd B B' c c' h h' l l' r' m w hn hm on om hs hr h1 (by have:¬h'<=l.lev:=h2;omega)
  by_cases h3:n.lev+1<m.lev
  ·cases m with
   |leaf B c s=>exact absurd h3 (by simp [Nd.lev])
   |inner B c h l r =>
    by_cases h2:l.lev<=r.lev
    ·exact Qka B c h n l r w hn hm on om hs hr h3 h2
    cases l with
    |leaf B' c' s'=>exact absurd h2 (by simp [Nd.lev])
    |inner B' c' h' l' r'=>exact QkP B B' c c' h h' n l' r' r w hn hm on om hs hr h3 (by have:¬h'<=r.lev:=h2;omega)
  exact Qll n m w hn hm on om hs hr (by omega) (by omega)
 exact key.mono fun e w' ⟨r,h⟩=>⟨r,h.joined⟩
theorem QnU (n m:Nd) (w:World) (hn:n.In w) (hm:m.In w) (on:n.Ok) (om:m.Ok) (hs:(n.cn.plus m.cn).Small) (hr:n.row.length+m.row.length<=1152921504606846976) (h1:n.lev<=m.lev+1) (h2:m.lev<=n.lev+1) :
  Calls prog 116 #[.iface n.ty (.pointer (some ⟨n.blk,0,none⟩)),.iface m.ty (.pointer (some ⟨m.blk,0,none⟩))] w fun e w'=>∃r,Joined n m w e w' r:=by
 have l1:=Nd.lev_row on
 have l2:=Nd.lev_row om
 have HA:=Z1 (fun w1 (hn:n.In w1) (hm:m.In w1)=>QaY n m w1 hn hm hs.left hs.right (by omega) (by omega))
 have HO:=Z1 on
 have HO2:=Z1 om
 have H:=Z1 (Two.mk hn hm (Below.refl w.heap.size w))
 generalize hk:n.lev=k at l1 l2 h1 h2
 generalize hj:m.lev=j at l1 l2 h1 h2
 have HK:=Z1 hk
 have HJ:=Z1 hj
 clear hk hj hn hm on om
 go_enter func116,ntmps116
 go_wp2_with fail
 rw[Qac n 362 _ H.o.n,HK.o]
 go_wp2_with fail
 refine (Qad n.cn k _).mono ?_
 rintro e w1 ⟨rfl,hb⟩
 replace H:=Z1 (H.o.step hb)
 clear hb
 go_wp2_with fail
 rw[Qac m 362 _ H.o.m,HJ.o]
 go_wp2_with fail
 refine (Qad m.cn j _).mono ?_
 rintro e w2 ⟨rfl,hb⟩
 replace H:=Z1 (H.o.step hb)
 clear hb w1
 go_wp2_with fail
 rw[Qac m 362 _ H.o.m,HJ.o]
 go_wp2_with fail
 refine (Qad m.cn j _).mono ?_
 rintro e w1 ⟨rfl,hb⟩
 replace H:=Z1 (H.o.step hb)
 clear hb w2
 go_wp2_with fail
 rw[Qac n 362 _ H.o.n,HK.o]
 go_wp2_with fail
 refine (Qad n.cn k _).mono ?_
 rintro e w2 ⟨rfl,hb⟩
 replace H:=Z1 (H.o.step hb)
 clear hb w1
 go_wp2_with fail
 refine (HA.o _ H.o.n H.o.m).mono ?_
 rintro e w3 ⟨B,rfl,hi,hb⟩
 have hb3:=H.o.b.trans (hb.mono H.o.b.size)
 go_wp2_with fail
 go_ret
 exact⟨_,(Qgs HO.o HO2.o hi hb3 _ rfl).joined⟩
theorem QmL {Bn h:Nat} {c:Cn} {l r m q p:Nd} {w w5 w6 W:World} (on:(Nd.inner Bn c h l r).Ok) {e e':Ending} (H:Two (Nd.inner Bn c h l r) m w w6) (hq:Joined r m W e w5 q) {W':World} (hp:Joined l q W' e' w6 p):Joined (Nd.inner Bn c h l r) m w e' w6 p :=
 ⟨hp.val,hp.inn,hp.ok,by rw[hp.cn,hq.cn];show _=c.plus m.cn;rw[on.1,Cn.plus_assoc],by rw[hp.row,hq.row];simp [Nd.row],H.b⟩
theorem QnJ {Bm h:Nat} {c:Cn} {n l r q p:Nd} {w w5 w6 W:World} (om:(Nd.inner Bm c h l r).Ok) {e e':Ending} (H:Two n (Nd.inner Bm c h l r) w w6) (hq:Joined n l W e w5 q) {W':World} (hp:Joined q r W' e' w6 p):Joined n (Nd.inner Bm c h l r) w e' w6 p :=
 ⟨hp.val,hp.inn,hp.ok,by rw[hp.cn,hq.cn];show _=n.cn.plus c;rw[om.1,Cn.plus_assoc],by rw[hp.row,hq.row];simp [Nd.row],H.b⟩
theorem QoV (Bn:Nat) (c:Cn) (h:Nat) (l r m:Nd) (w:World) (hn:(Nd.inner Bn c h l r).In w) (hm:m.In w) (on:(Nd.inner Bn c h l r).Ok) (om:m.Ok) (hs:(c.plus m.cn).Small) (hr:(Nd.inner Bn c h l r).row.length+m.row.length<=1152921504606846976) (h1:m.lev+1<h)
  (ih:∀w1,r.In w1->m.In w1->Calls prog 116 #[.iface r.ty (.pointer (some ⟨r.blk,0,none⟩)),.iface m.ty (.pointer (some ⟨m.blk,0,none⟩))] w1 fun e w'=>∃q,Joined r m w1 e w' q) :
  Calls prog 116 #[.iface 215 (.pointer (some ⟨Bn,0,none⟩)),.iface m.ty (.pointer (some ⟨m.blk,0,none⟩))] w fun e w'=>∃q,Joined (Nd.inner Bn c h l r) m w e w' q:=by
 have l1:h<_:=Nd.lev_row on
 have l2:=Nd.lev_row om
 have hrow:(Nd.inner Bn c h l r).row.length=l.row.length+r.row.length:=by simp [Nd.row]
 have H:=Z1 (Two.mk hn hm (Below.refl w.heap.size w))
 have hcc:c.plus m.cn=l.cn.plus (r.cn.plus m.cn):=by rw[on.1,Cn.plus_assoc]
 rw[hcc] at hs
 have HI:=Z1 ih
 have HL:=Z1 (fun (q:Nd) (W W' w1:World) (e:Ending) (hq:Joined r m W e W' q) (hn:l.In w1) (hm:q.In w1)=>QfS l q w1 hn hm on.2.2.1 hq.ok (by rw[hq.cn];exact hs) (by rw[hq.row,List.length_append];omega))
 have HQ:=Z1 (fun (q p:Nd) (w5 w6 W:World) (e e':Ending)=>@QmL Bn h c l r m q p w w5 w6 W on e e')
 clear hcc hs ih
 generalize hj:m.lev=j at l2 h1
 have HJ:=Z1 hj
 clear hj hn hm on om
 have ta:=Qbq
 go_enter func116,ntmps116
 go_wp2_with fail
 rw [show (method 363 215 (.pointer (some ⟨Bn, 0, none⟩)) "vellum/atoms.level").run prog _ = _ from Qac (Nd.inner Bn c h l r) 362 _ H.o.n]
 go_wp2_with fail
 refine (Qad c h _).mono ?_
 rintro e w1 ⟨rfl,hb⟩
 replace H:=Z1 (H.o.step hb)
 clear hb
 go_wp2_with fail
 rw[Qac m 362 _ H.o.m,HJ.o]
 go_wp2_with fail
 refine (Qad m.cn j _).mono ?_
 rintro e w2 ⟨rfl,hb⟩
 replace H:=Z1 (H.o.step hb)
 clear hb w1
 have hS:=QgT H.o
 obtain⟨p9,p10,_⟩:=QgT H.o
 go_wp2_with fail
 go_region_held3 (fun w'=>w'.cell? ⟨Bn,9,none⟩=some (.iface l.ty (.pointer (some ⟨l.blk,0,none⟩)))/\w'.cell? ⟨Bn,10,none⟩=some (.iface r.ty (.pointer (some ⟨r.blk,0,none⟩)))/\Two (Nd.inner Bn c h l r) m w w')
  (first|assumption|exact Qmt (by assumption))
  (first
   |(go_at_call 144;refine (HL.o q _ _ _ _ hq (A_l (by assumption)) hq.inn).mono ?_;rintro e w6 ⟨p,hp⟩;obtain rfl:=hp.val;have hS6:=QfO (by assumption) hp.below)
   |(go_at_call 116;refine (HI.o _ (A_r (by assumption)) (A_m (by assumption))).mono ?_;rintro e w5 ⟨q,hq⟩;obtain rfl:=hq.val;have hS5:=QfO (by assumption) hq.below))
 go_wp2_with fail
 go_ret
 exact⟨_,HQ.o q p _ _ _ _ _ hS6.2.2 hq hp⟩
theorem Qo4 (Bm:Nat) (c:Cn) (h:Nat) (n l r:Nd) (w:World) (hn:n.In w) (hm:(Nd.inner Bm c h l r).In w) (on:n.Ok) (om:(Nd.inner Bm c h l r).Ok) (hs:(n.cn.plus c).Small) (hr:n.row.length+(Nd.inner Bm c h l r).row.length<=1152921504606846976) (h1:n.lev+1<h)
  (ih:∀w1,n.In w1->l.In w1->Calls prog 116 #[.iface n.ty (.pointer (some ⟨n.blk,0,none⟩)),.iface l.ty (.pointer (some ⟨l.blk,0,none⟩))] w1 fun e w'=>∃q,Joined n l w1 e w' q) :
  Calls prog 116 #[.iface n.ty (.pointer (some ⟨n.blk,0,none⟩)),.iface 215 (.pointer (some ⟨Bm,0,none⟩))] w fun e w'=>∃q,Joined n (Nd.inner Bm c h l r) w e w' q:=by
 have l1:h<_:=Nd.lev_row om
 have l2:=Nd.lev_row on
 have hrow:(Nd.inner Bm c h l r).row.length=l.row.length+r.row.length:=by simp [Nd.row]
 have H:=Z1 (Two.mk hn hm (Below.refl w.heap.size w))
 have hcc:n.cn.plus c=(n.cn.plus l.cn).plus r.cn:=by rw[om.1,Cn.plus_assoc]
 rw[hcc] at hs
 have HI:=Z1 ih
 have HL:=Z1 (fun (q:Nd) (W W' w1:World) (e:Ending) (hq:Joined n l W e W' q) (hn:q.In w1) (hm:r.In w1)=>QfS q r w1 hn hm hq.ok om.2.2.2 (by rw[hq.cn];exact hs) (by rw[hq.row,List.length_append];omega))
 have HQ:=Z1 (fun (q p:Nd) (w5 w6 W:World) (e e':Ending)=>@QnJ Bm h c n l r q p w w5 w6 W om e e')
 clear hcc hs ih
 generalize hj:n.lev=j at l2 h1
 have HJ:=Z1 hj
 clear hj hn hm on om
 have ta:=Qbq
 go_enter func116,ntmps116
 go_wp2_with fail
 rw[Qac n 362 _ H.o.n,HJ.o]
 go_wp2_with fail
 refine (Qad n.cn j _).mono ?_
 rintro e w1 ⟨rfl,hb⟩
 replace H:=Z1 (H.o.step hb)
 clear hb
 go_wp2_with fail
 rw [show (method 363 215 (.pointer (some ⟨Bm, 0, none⟩)) "vellum/atoms.level").run prog _ = _ from Qac (Nd.inner Bm c h l r) 362 _ H.o.m]
 go_wp2_with fail
 refine (Qad c h _).mono ?_
 rintro e w2 ⟨rfl,hb⟩
 replace H:=Z1 (H.o.step hb)
 clear hb w1
 go_wp2_with fail
 rw [show (method 363 215 (.pointer (some ⟨Bm, 0, none⟩)) "vellum/atoms.level").run prog _ = _ from Qac (Nd.inner Bm c h l r) 362 _ H.o.m]
 go_wp2_with fail
 refine (Qad c h _).mono ?_
 rintro e w1 ⟨rfl,hb⟩
 replace H:=Z1 (H.o.step hb)
 clear hb w2
 go_wp2_with fail
 rw[Qac n 362 _ H.o.n,HJ.o]
 go_wp2_with fail
 refine (Qad n.cn j _).mono ?_
 rintro e w2 ⟨rfl,hb⟩
 replace H:=Z1 (H.o.step hb)
 clear hb w1
 have hS:=Qf1 H.o
 obtain⟨p9,p10,_⟩:=Qf1 H.o
 go_wp2_with fail
 go_region_held3 (fun w'=>w'.cell? ⟨Bm,9,none⟩=some (.iface l.ty (.pointer (some ⟨l.blk,0,none⟩)))/\w'.cell? ⟨Bm,10,none⟩=some (.iface r.ty (.pointer (some ⟨r.blk,0,none⟩)))/\Two n (Nd.inner Bm c h l r) w w')
  (first|assumption|exact Qlq (by assumption))
  (first
   |(go_at_call 144;refine (HL.o q _ _ _ _ hq hq.inn (B_r (by assumption))).mono ?_;rintro e w6 ⟨p,hp⟩;obtain rfl:=hp.val;have hS6:=QfP (by assumption) hp.below)
   |(go_at_call 116;refine (HI.o _ (B_n (by assumption)) (B_l (by assumption))).mono ?_;rintro e w5 ⟨q,hq⟩;obtain rfl:=hq.val;have hS5:=QfP (by assumption) hq.below))
 go_wp2_with fail
 go_ret
 exact⟨_,HQ.o q p _ _ _ _ _ hS6.2.2 hq hp⟩
theorem Qni :∀(k:Nat) (n m:Nd) (w:World),n.lev+m.lev<=k->n.In w->m.In w->n.Ok->m.Ok->(n.cn.plus m.cn).Small->n.row.length+m.row.length<=1152921504606846976 ->
  Calls prog 116 #[.iface n.ty (.pointer (some ⟨n.blk,0,none⟩)),.iface m.ty (.pointer (some ⟨m.blk,0,none⟩))] w fun e w'=>∃r,Joined n m w e w' r:=by
 intro k
 induction k with
 |zero=>intro n m w hk hn hm on om hs hr;exact QnU n m w hn hm on om hs hr (by omega) (by omega)
 |succ k ih =>
  intro n m w hk hn hm on om hs hr;by_cases h1:m.lev+1<n.lev
  ·cases n with
   |leaf B c s=>exact absurd h1 (by simp [Nd.lev])
   |inner B c h l r =>
    have hh:h=1+max l.lev r.lev:=on.2.1;have hrow:(Nd.inner B c h l r).row.length=l.row.length+r.row.length:=by simp [Nd.row]
    have hcc:c.plus m.cn=l.cn.plus (r.cn.plus m.cn):=by rw[on.1,Cn.plus_assoc]
    have hs':(l.cn.plus (r.cn.plus m.cn)).Small:=by rw[<-hcc];exact hs
    have hk':h+m.lev<=k+1:=hk;exact QoV B c h l r m w hn hm on om hs hr h1 (fun w1 h1 h2=>ih r m w1 (by omega) h1 h2 on.2.2.2 om hs'.right (by omega))
  by_cases h3:n.lev+1<m.lev
  ·cases m with
   |leaf B c s=>exact absurd h3 (by simp [Nd.lev])
   |inner B c h l r =>
    have hh:h=1+max l.lev r.lev:=om.2.1;have hrow:(Nd.inner B c h l r).row.length=l.row.length+r.row.length:=by simp [Nd.row]
    have hcc:n.cn.plus c=(n.cn.plus l.cn).plus r.cn:=by rw[om.1,Cn.plus_assoc]
    have hs':((n.cn.plus l.cn).plus r.cn).Small:=by rw[<-hcc];exact hs
    have hk':n.lev+h<=k+1:=hk;exact Qo4 B c h n l r w hn hm on om hs hr h3 (fun w1 h1 h2=>ih n l w1 (by omega) h1 h2 on om.2.2.1 hs'.left (by omega))
  exact QnU n m w hn hm on om hs hr (by omega) (by omega)
end Go.Proofs.YtoejbngihecafaaGreatDoor
