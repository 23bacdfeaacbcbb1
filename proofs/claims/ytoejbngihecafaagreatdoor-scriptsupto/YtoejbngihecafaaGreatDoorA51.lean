import Derived.StillTailTactics
import Derived.Test.YtoejbngihecafaaGreatDoorA49
import Derived.Test.YtoejbngihecafaaGreatDoorA41
set_option maxRecDepth 100000
set_option maxHeartbeats 1000000
namespace Go.Proofs.YtoejbngihecafaaGreatDoor
open Go.RowKit
theorem rMrk (B r:Nat) (s:St) (G:Nat->Prop) (M:Nat) (w:World) (on:Bool) (h:RH B w r s G) (hg:s.Good M) (hM:M<=1000000000) :
  Calls Tryz.prog 121 #[.pointer (some ⟨r,0,none⟩),.bool on] w fun e w'=>e=.returned (.int .i64 (s.mrk on).1)/\∃G',RH B w' r (s.mrk on).2 G'/\Turn G G' w w':=by
 have hk:=hg.now.1
 have hbd:=good_body hg
 have hlen:=hg.len
 obtain⟨c0,c1,c2,_⟩:=h.doc
 have hzr:=Z3 c0
 obtain⟨V,hV⟩:∃V,V=s.mrk on:=⟨_,rfl⟩
 rw[<-hV]
 have HV:=Z1 hV
 have HH:=Z1 h
 clear hV h
 by_cases hno:on=true/\s.k.enc=3
 ·obtain⟨rfl,he3⟩:=hno
  have HE:=Z1 (show V=(6,s) by
   rw[HV.out]
   unfold St.mrk mkE St.chg
   rw[if_pos ⟨rfl,he3⟩]
   rfl)
  rw[he3] at c0
  clear HV he3
  go_enter Tryz.func121,Tryz.ntmps121
  go_wp2_with fail
  go_ret
  exact⟨by rw[HE.out];rfl,G,by rw[HE.out];exact HH.out,Turn.refl _ _⟩
 ·have HE:=Z1 (show V=(0,⟨markK s.k on,pushK s.O s.k,[]⟩) by
   rw[HV.out]
   unfold St.mrk mkE St.chg
   rw[if_neg hno]
   rfl)
  have hKE:=mrk_body hk on (fun q e=>hno ⟨q,e⟩)
  have HKE:=Z1 hKE
  have hms:=markB_size s.k.enc
  have hbs:(bytesOf s.k.enc on s.k.body).size<=1099511627776:=by
   unfold bytesOf;split
   ·rw[ByteArray.size_append];omega
   ·omega
  have BY:=Z1 (fun W=>rbytes_any s.k.enc on s.k.body W (by omega) hk.h0 hk.h3)
  have OF:=Z1 (fun W=>rof_any (bytesOf s.k.enc on s.k.body) s.k.enc W hbs hk.h0 hk.h3)
  have CH:=Z1 (fun W (h:RH B W r s G)=>rchange_any B r s G (ofK (bytesOf s.k.enc on s.k.body) s.k.enc) W h (by omega))
  unfold ofK at CH
  simp only at CH
  have hmo:Tryz.prog.follows Departure.mixedOrders=true:=by kernel_rfl
  have hen:on=true->¬s.k.enc=3:=fun q e=>hno ⟨q,e⟩
  clear HV hno hKE hms hbs
  have key:Calls Tryz.prog 121 #[.pointer (some ⟨r,0,none⟩),.bool on] w fun e w'=>e=.returned (.int .i64 0)/\∃G',RH B w' r ⟨ofK (bytesOf s.k.enc on s.k.body) s.k.enc,pushK s.O s.k,[]⟩ G'/\Turn G G' w w':=by
   clear HE HKE hg hM hbd hlen
   cases on with
   |true =>
    have he3:=hen rfl
    have hb3:(s.k.enc==3)=false:=by simpa using he3
    clear hen
    go_enter Tryz.func121,Tryz.ntmps121
    go_wp2_with fail
    have hx7:=Go.Deep.blk_alloc_new w (.cells #[.int .i64 s.k.enc,.bool true,.string s.k.body] 99)
    have hb7:Below w.heap.size w (w.alloc (.cells #[.int .i64 s.k.enc,.bool true,.string s.k.body] 99)):=(Below.refl _ _).alloc (Nat.le_refl _) _
    have H7:=Z1 (HH.out.low hb7)
    have HW7:=Z1 (Turn.of_below (F:=G) hb7)
    clear c0 c1 c2 hzr hb7 HH
    generalize w.alloc (.cells #[.int .i64 s.k.enc,.bool true,.string s.k.body] 99)=w7 at *
    generalize w.heap.size=X at hx7 ⊢
    have x0:w7.cell? ⟨X,0,none⟩=some (.int .i64 s.k.enc):=by rw[Lib.cell_of_heap hx7];rfl
    have x1:w7.cell? ⟨X,1,none⟩=some (.bool true):=by rw[Lib.cell_of_heap hx7];rfl
    have x2:w7.cell? ⟨X,2,none⟩=some (.string s.k.body):=by rw[Lib.cell_of_heap hx7];rfl
    have hz7:=Z3 x0
    have hzr7:=(H7.out.ty H7.out.self).2.1
    clear hx7
    go_region_with
     (first
      |(have _hq:=hof;go_at_call 150;refine (CH.out _ ((H7.out.low (((Below.refl _ _).drew).trans hby)).low hof)).mono ?_;rintro e w9 ⟨rfl,G9,hr9,ht9⟩)
      |(have _hq:=hby;go_at_call 42;refine (OF.out _).mono ?_;rintro e w8 ⟨rfl,hof⟩)
      |(go_at_call 75;refine (BY.out _).mono ?_;rintro e w6 ⟨rfl,hby⟩;have x0b:w6.cell? ⟨X,0,none⟩=some (.int .i64 s.k.enc):=(hby.cell (p:=⟨X,0,none⟩) hz7).trans x0)
      |fail)
    all_goals
     have HR9:=Z1 hr9
     have HT9:=Z1 (HW7.out.trans ((Turn.of_below (((Below.refl _ _).drew).trans hby)).trans ((Turn.of_below hof).trans ht9)))
     clear hr9 ht9 hby hof x0 x1 x2 hz7 hzr7 H7 HW7
     go_wp2_with fail
     go_ret
     exact⟨rfl,G9,HR9.out,HT9.out⟩
   |false =>
    clear hen
    go_enter Tryz.func121,Tryz.ntmps121
    go_wp2_with fail
    have hx7:=Go.Deep.blk_alloc_new w (.cells #[.int .i64 s.k.enc,.bool false,.string s.k.body] 99)
    have hb7:Below w.heap.size w (w.alloc (.cells #[.int .i64 s.k.enc,.bool false,.string s.k.body] 99)):=(Below.refl _ _).alloc (Nat.le_refl _) _
    have H7:=Z1 (HH.out.low hb7)
    have HW7:=Z1 (Turn.of_below (F:=G) hb7)
    clear c0 c1 c2 hzr hb7 HH
    generalize w.alloc (.cells #[.int .i64 s.k.enc,.bool false,.string s.k.body] 99)=w7 at *
    generalize w.heap.size=X at hx7 ⊢
    have x0:w7.cell? ⟨X,0,none⟩=some (.int .i64 s.k.enc):=by rw[Lib.cell_of_heap hx7];rfl
    have x1:w7.cell? ⟨X,1,none⟩=some (.bool false):=by rw[Lib.cell_of_heap hx7];rfl
    have x2:w7.cell? ⟨X,2,none⟩=some (.string s.k.body):=by rw[Lib.cell_of_heap hx7];rfl
    have hz7:=Z3 x0
    have hzr7:=(H7.out.ty H7.out.self).2.1
    clear hx7
    go_region_with
     (first
      |(have _hq:=hof;go_at_call 150;refine (CH.out _ ((H7.out.low (((Below.refl _ _).drew).trans hby)).low hof)).mono ?_;rintro e w9 ⟨rfl,G9,hr9,ht9⟩)
      |(have _hq:=hby;go_at_call 42;refine (OF.out _).mono ?_;rintro e w8 ⟨rfl,hof⟩)
      |(go_at_call 75;refine (BY.out _).mono ?_;rintro e w6 ⟨rfl,hby⟩;have x0b:w6.cell? ⟨X,0,none⟩=some (.int .i64 s.k.enc):=(hby.cell (p:=⟨X,0,none⟩) hz7).trans x0)
      |fail)
    all_goals
     have HR9:=Z1 hr9
     have HT9:=Z1 (HW7.out.trans ((Turn.of_below (((Below.refl _ _).drew).trans hby)).trans ((Turn.of_below hof).trans ht9)))
     clear hr9 ht9 hby hof x0 x1 x2 hz7 hzr7 H7 HW7
     go_wp2_with fail
     go_ret
     exact⟨rfl,G9,HR9.out,HT9.out⟩
  exact key.mono fun e w' ⟨h1,G',h2,h3⟩=>⟨by rw[HE.out];exact h1,G',by rw[HE.out,<-HKE.out];exact h2,h3⟩
end Go.Proofs.YtoejbngihecafaaGreatDoor
namespace Go.Proofs.YtoejbngihecafaaGreatDoor
open Go.RowKit
theorem Tn.drewn {b:Nat} {w w':World} (h:Tn b w w'):Tn b w w'.drew:=⟨h.os,h.tape,h.output,h.size,h.keep⟩
theorem rundo_yes (B r:Nat) (s:St) (vo vb:Value) (l:List Kp) (z:Kp) (w:World) (h:RHs B w r s vo vb) (hl:s.O=l++[z]) (hO:s.O.length+s.U.length<=30) :
  Calls Tryz.prog 124 #[.pointer (some ⟨r,0,none⟩)] w fun e w'=>e=.returned (.int .i64 0)/\∃vo' vb',RHs B w' r ⟨z,l,s.U++[s.k]⟩ vo' vb'/\Turn (fp r vo vb) (fp r vo' vb') w w':=by
 obtain⟨qa,ca,hva,hca,_⟩:=h.hb.val
 obtain⟨n,hn⟩:∃n,n=l.length:=⟨_,rfl⟩
 obtain⟨N,hN⟩:∃N,N=n+1:=⟨_,rfl⟩
 have hlen:s.O.length=N:=by rw[hl,List.length_append,List.length_singleton,hN,hn]
 have hle:s.U.length<=30:=by omega
 have hn30:n<=29:=by omega
 obtain⟨g,o,cap,hvr,hcap,hcm,hg⟩:∃g o cap,vo=.slice (some ⟨g,o,none⟩) N cap/\N<=cap/\cap<=9223372036854775807/\g<w.heap.size:=by
  rcases h.ho with ⟨_,q⟩|⟨g,o,cap,cur,e1,_,e3,_,e5,e6,_⟩
  ·rw[q] at hlen;simp at hlen;omega
  ·rw[hlen] at e1 e5
   exact⟨g,o,cap,e1,e5,e6,Z4 e3⟩
 subst hva hvr
 have hkr:Kr B w (.slice (some ⟨g,o,none⟩) (l++[z]).length cap) (l++[z]):=by
  have:=h.ho
  rw[hl] at this
  rw[List.length_append,List.length_singleton,<-hn,<-hN];exact this
 obtain⟨z0,z1,z2⟩:=hkr.cell (j:=n) (k:=z) (by rw[hn];simp)
 have hki:Kr B w (.slice (some ⟨g,o,none⟩) n cap) l:=by rw[hn];exact hkr.init
 have hz1:r<w.heap.size:=Z4 h.blk
 have c0:w.cell? ⟨r,0,none⟩=some (.int .i64 s.k.enc):=by rw[Lib.cell_of_heap h.blk];rfl
 have c1:w.cell? ⟨r,1,none⟩=some (.bool s.k.mark):=by rw[Lib.cell_of_heap h.blk];rfl
 have c2:w.cell? ⟨r,2,none⟩=some (.string s.k.body):=by rw[Lib.cell_of_heap h.blk];rfl
 have c4:w.cell? ⟨r,4,none⟩=some (.slice qa s.U.length ca):=by rw[Lib.cell_of_heap h.blk];rfl
 have c3:w.cell? ⟨r,3,none⟩=some (.slice (some ⟨g,o,none⟩) N cap):=by rw[Lib.cell_of_heap h.blk];rfl
 have fc:=fun j=>Lib.frozen_of_heap h.blk j
 have hrB:=h.rB
 have hWW:Below w.heap.size w (w.alloc (.cells (kc s.k).toArray 99)).drew:=((Below.refl _ _).alloc (Nat.le_refl _) _).drew
 obtain⟨v',w2,hrun,hk,hst,hat⟩:=kr_append 101 B (.slice qa s.U.length ca) s.U s.k (w.alloc (.cells (kc s.k).toArray 99)).drew ⟨w.heap.size,0,none⟩ 1 (h.hb.low (fun g hg=>hWW.block g (h.hb.lt hg).2.1)) (cells_new w (kc s.k) 99) (by omega) (by have:=hWW.size;omega)
 obtain⟨q',cap',rfl,hcap',hcm'⟩:∃q' cap',v'=.slice q' (s.U.length+1) cap'/\s.U.length+1<=cap'/\cap'<=maxLen:=by
  obtain⟨q',cap',e1,e2,e3⟩:=hk.val
  rw[List.length_append,List.length_singleton] at e1 e2
  exact⟨q',cap',e1,e2,e3⟩
 have hnr:=h.nr
 have hgr:g≠r:=fun e=>hnr.1 (by rw[<-e];rfl)
 have hga:wblk (Value.slice qa s.U.length ca)≠some g:=fun e=>h.ne g rfl e
 have hb2:w2.heap[r]?=some (.cells #[.int .i64 s.k.enc,.bool s.k.mark,.string s.k.body,.slice (some ⟨g,o,none⟩) N cap,.slice qa s.U.length ca] 103):=by
  rw[hst.keep r (by have:=hWW.size;omega) hnr.2,hWW.block r hz1];exact h.blk
 have hbg:w2.heap[g]?=w.heap[g]?:=by rw[hst.keep g (by have:=hWW.size;omega) hga,hWW.block g hg]
 have d0:w2.cell? ⟨r,0,none⟩=some (.int .i64 s.k.enc):=by rw[Lib.cell_of_heap hb2];rfl
 have d1:w2.cell? ⟨r,1,none⟩=some (.bool s.k.mark):=by rw[Lib.cell_of_heap hb2];rfl
 have d2:w2.cell? ⟨r,2,none⟩=some (.string s.k.body):=by rw[Lib.cell_of_heap hb2];rfl
 have d4:w2.cell? ⟨r,4,none⟩=some (.slice qa s.U.length ca):=by rw[Lib.cell_of_heap hb2];rfl
 have d3:w2.cell? ⟨r,3,none⟩=some (.slice (some ⟨g,o,none⟩) N cap):=by rw[Lib.cell_of_heap hb2];rfl
 have y0:w2.cell? ⟨g,o+n * 3,none⟩=some (.int .i64 z.enc):=(World.cell?_of_block (w:=w) (a:=⟨g,o+n * 3,none⟩) hbg).trans z0
 have y1:w2.cell? ⟨g,o+n * 3+1,none⟩=some (.bool z.mark):=(World.cell?_of_block (w:=w) (a:=⟨g,o+n * 3+1,none⟩) hbg).trans z1
 have y2:w2.cell? ⟨g,o+n * 3+2,none⟩=some (.string z.body):=(World.cell?_of_block (w:=w) (a:=⟨g,o+n * 3+2,none⟩) hbg).trans z2
 have hyz:=Z3 y0
 have fd:=fun j=>Lib.frozen_of_heap hb2 j
 have hz2:=Z3 d0
 have HFIN:=Z1 (fun F (ht:Tn r w2 F) (hF:F.heap[r]?=some (.cells #[.int .i64 z.enc,.bool z.mark,.string z.body,.slice (some ⟨g,o,none⟩) n cap,.slice q' (s.U.length+1) cap'] 103))=>und_fin (z:=z) (F:=F) (v':=.slice (some ⟨g,o,none⟩) n cap) h hWW hst hat rfl hk hki ht hF)
 have HB2:=Z1 hb2
 have HY:=Z1 (fun (W:World) (ht:Tn r w2 W)=>show W.cell? ⟨g,o+n * 3,none⟩=some (.int .i64 z.enc)/\W.cell? ⟨g,o+n * 3+1,none⟩=some (.bool z.mark)/\W.cell? ⟨g,o+n * 3+2,none⟩=some (.string z.body) from
  have e:=ht.keep g hyz hgr
  ⟨(World.cell?_of_block (w:=w2) (a:=⟨g,o+n * 3,none⟩) e).trans y0,(World.cell?_of_block (w:=w2) (a:=⟨g,o+n * 3+1,none⟩) e).trans y1,(World.cell?_of_block (w:=w2) (a:=⟨g,o+n * 3+2,none⟩) e).trans y2⟩)
 have hmo:Tryz.prog.follows Departure.mixedOrders=true:=by kernel_rfl
 have hwr:IntKind.i64.wrap ((N:Int) - 1)=(n:Int):=by rw[IntKind.wrap_i64];omega
 have hne0:¬(N:Int)=0:=by omega
 have hneb:((N:Int)==0)=false:=by simpa using hne0
 have hnN:(n:Int)<(N:Int):=by omega
 have hnc:(n:Int)<=(cap:Int):=by omega
 unfold kc at hrun
 clear h hl hlen hkr hki hk hst hat hb2 hbg hWW hnr hO hn z0 z1 z2 hga hN
 generalize s.U.length=m at *
 go_enter Tryz.func124,Tryz.ntmps124
 go_wp2_with fail
 go_cut [] from 4 to 21 (fun wx=>Tn r w2 wx/\wx.heap[r]?=some (.cells #[.int .i64 s.k.enc,.bool s.k.mark,.string s.k.body,.slice (some ⟨g,o,none⟩) N cap,.slice q' (m+1) cap'] 103))
 case first =>
  go_region_law (refine step_append_run rfl _ _ _ _ rfl _ _ rfl rfl _ _ hrun ?_)
  all_goals
   clear hrun c0 c1 c2 c3 c4 fc
   go_wp2_with fail
   go_meet
   exact⟨(Tn.refl r w2).setCell _,blk_set HB2.out _⟩
 case rest =>
  obtain⟨ht1,hb1⟩:=hcut
  clear hrun c0 c1 c2 c3 c4 fc d0 d1 d2 d3 d4 fd y0 y1 y2 HB2 hyz hz1 hz2
  obtain⟨y0,y1,y2⟩:=HY.out _ ht1
  have e0:wc.cell? ⟨r,0,none⟩=some (.int .i64 s.k.enc):=by rw[Lib.cell_of_heap hb1];rfl
  have e1:wc.cell? ⟨r,1,none⟩=some (.bool s.k.mark):=by rw[Lib.cell_of_heap hb1];rfl
  have e2:wc.cell? ⟨r,2,none⟩=some (.string s.k.body):=by rw[Lib.cell_of_heap hb1];rfl
  have e3:wc.cell? ⟨r,3,none⟩=some (.slice (some ⟨g,o,none⟩) N cap):=by rw[Lib.cell_of_heap hb1];rfl
  have fe:=fun j=>Lib.frozen_of_heap hb1 j
  have hze:=Z3 e0
  have hzg:=Z3 y0
  have HT1:=Z1 ht1
  have HB1:=Z1 hb1
  clear ht1 hb1
  go_wp2_with fail
  go_cut [] from 22 to 36 (fun wx=>Tn r w2 wx/\wx.heap[r]?=some (.cells #[.int .i64 z.enc,.bool z.mark,.string z.body,.slice (some ⟨g,o,none⟩) N cap,.slice q' (m+1) cap'] 103))
  case first =>
   go_region_with (fail)
   all_goals
    go_wp2_with fail
    go_meet
    exact⟨((HT1.out.drewn.setCell _).setCell _).setCell _,blk_set (blk_set (blk_set (show wc.drew.heap[r]?=_ from HB1.out) _) _) _⟩
  case rest =>
   obtain⟨ht3,hb3⟩:=hcut
   clear e0 e1 e2 e3 fe hze hzg y0 y1 y2 HT1 HB1 HY
   rename World=>wd
   have e3:wd.cell? ⟨r,3,none⟩=some (.slice (some ⟨g,o,none⟩) N cap):=by rw[Lib.cell_of_heap hb3];rfl
   have fe:=fun j=>Lib.frozen_of_heap hb3 j
   have hze:=Z3 e3
   have HT3:=Z1 ht3
   have HB3:=Z1 hb3
   clear ht3 hb3
   go_wp2_with fail
   go_region_with (fail)
   all_goals
    go_wp2_with fail
    go_ret
    have hf:=HFIN.out (wd.drew.setCell ⟨r,3,none⟩ (.slice (some ⟨g,o,none⟩) n cap)) (HT3.out.drewn.setCell _) (blk_set (show wd.drew.heap[r]?=_ from HB3.out) _)
    exact⟨rfl,_,_,hf.1,hf.2⟩
theorem rredo_yes (B r:Nat) (s:St) (vo vb:Value) (l:List Kp) (z:Kp) (w:World) (h:RHs B w r s vo vb) (hl:s.U=l++[z]) (hO:s.O.length+s.U.length<=30) :
  Calls Tryz.prog 125 #[.pointer (some ⟨r,0,none⟩)] w fun e w'=>e=.returned (.int .i64 0)/\∃vo' vb',RHs B w' r ⟨z,s.O++[s.k],l⟩ vo' vb'/\Turn (fp r vo vb) (fp r vo' vb') w w':=by
 obtain⟨qa,ca,hva,hca,_⟩:=h.ho.val
 obtain⟨n,hn⟩:∃n,n=l.length:=⟨_,rfl⟩
 obtain⟨N,hN⟩:∃N,N=n+1:=⟨_,rfl⟩
 have hlen:s.U.length=N:=by rw[hl,List.length_append,List.length_singleton,hN,hn]
 have hle:s.O.length<=30:=by omega
 have hn30:n<=29:=by omega
 obtain⟨g,o,cap,hvr,hcap,hcm,hg⟩:∃g o cap,vb=.slice (some ⟨g,o,none⟩) N cap/\N<=cap/\cap<=9223372036854775807/\g<w.heap.size:=by
  rcases h.hb with ⟨_,q⟩|⟨g,o,cap,cur,e1,_,e3,_,e5,e6,_⟩
  ·rw[q] at hlen;simp at hlen;omega
  ·rw[hlen] at e1 e5
   exact⟨g,o,cap,e1,e5,e6,Z4 e3⟩
 subst hva hvr
 have hkr:Kr B w (.slice (some ⟨g,o,none⟩) (l++[z]).length cap) (l++[z]):=by
  have:=h.hb
  rw[hl] at this
  rw[List.length_append,List.length_singleton,<-hn,<-hN];exact this
 obtain⟨z0,z1,z2⟩:=hkr.cell (j:=n) (k:=z) (by rw[hn];simp)
 have hki:Kr B w (.slice (some ⟨g,o,none⟩) n cap) l:=by rw[hn];exact hkr.init
 have hz1:r<w.heap.size:=Z4 h.blk
 have c0:w.cell? ⟨r,0,none⟩=some (.int .i64 s.k.enc):=by rw[Lib.cell_of_heap h.blk];rfl
 have c1:w.cell? ⟨r,1,none⟩=some (.bool s.k.mark):=by rw[Lib.cell_of_heap h.blk];rfl
 have c2:w.cell? ⟨r,2,none⟩=some (.string s.k.body):=by rw[Lib.cell_of_heap h.blk];rfl
 have c3:w.cell? ⟨r,3,none⟩=some (.slice qa s.O.length ca):=by rw[Lib.cell_of_heap h.blk];rfl
 have c4:w.cell? ⟨r,4,none⟩=some (.slice (some ⟨g,o,none⟩) N cap):=by rw[Lib.cell_of_heap h.blk];rfl
 have fc:=fun j=>Lib.frozen_of_heap h.blk j
 have hrB:=h.rB
 have hWW:Below w.heap.size w (w.alloc (.cells (kc s.k).toArray 99)).drew:=((Below.refl _ _).alloc (Nat.le_refl _) _).drew
 obtain⟨v',w2,hrun,hk,hst,hat⟩:=kr_append 101 B (.slice qa s.O.length ca) s.O s.k (w.alloc (.cells (kc s.k).toArray 99)).drew ⟨w.heap.size,0,none⟩ 1 (h.ho.low (fun g hg=>hWW.block g (h.ho.lt hg).2.1)) (cells_new w (kc s.k) 99) (by omega) (by have:=hWW.size;omega)
 obtain⟨q',cap',rfl,hcap',hcm'⟩:∃q' cap',v'=.slice q' (s.O.length+1) cap'/\s.O.length+1<=cap'/\cap'<=maxLen:=by
  obtain⟨q',cap',e1,e2,e3⟩:=hk.val
  rw[List.length_append,List.length_singleton] at e1 e2
  exact⟨q',cap',e1,e2,e3⟩
 have hnr:=h.nr
 have hgr:g≠r:=fun e=>hnr.2 (by rw[<-e];rfl)
 have hga:wblk (Value.slice qa s.O.length ca)≠some g:=fun e=>h.ne g e rfl
 have hb2:w2.heap[r]?=some (.cells #[.int .i64 s.k.enc,.bool s.k.mark,.string s.k.body,.slice qa s.O.length ca,.slice (some ⟨g,o,none⟩) N cap] 103):=by
  rw[hst.keep r (by have:=hWW.size;omega) hnr.1,hWW.block r hz1];exact h.blk
 have hbg:w2.heap[g]?=w.heap[g]?:=by rw[hst.keep g (by have:=hWW.size;omega) hga,hWW.block g hg]
 have d0:w2.cell? ⟨r,0,none⟩=some (.int .i64 s.k.enc):=by rw[Lib.cell_of_heap hb2];rfl
 have d1:w2.cell? ⟨r,1,none⟩=some (.bool s.k.mark):=by rw[Lib.cell_of_heap hb2];rfl
 have d2:w2.cell? ⟨r,2,none⟩=some (.string s.k.body):=by rw[Lib.cell_of_heap hb2];rfl
 have d3:w2.cell? ⟨r,3,none⟩=some (.slice qa s.O.length ca):=by rw[Lib.cell_of_heap hb2];rfl
 have d4:w2.cell? ⟨r,4,none⟩=some (.slice (some ⟨g,o,none⟩) N cap):=by rw[Lib.cell_of_heap hb2];rfl
 have y0:w2.cell? ⟨g,o+n * 3,none⟩=some (.int .i64 z.enc):=(World.cell?_of_block (w:=w) (a:=⟨g,o+n * 3,none⟩) hbg).trans z0
 have y1:w2.cell? ⟨g,o+n * 3+1,none⟩=some (.bool z.mark):=(World.cell?_of_block (w:=w) (a:=⟨g,o+n * 3+1,none⟩) hbg).trans z1
 have y2:w2.cell? ⟨g,o+n * 3+2,none⟩=some (.string z.body):=(World.cell?_of_block (w:=w) (a:=⟨g,o+n * 3+2,none⟩) hbg).trans z2
 have hyz:=Z3 y0
 have fd:=fun j=>Lib.frozen_of_heap hb2 j
 have hz2:=Z3 d0
 have HFIN:=Z1 (fun F (ht:Tn r w2 F) (hF:F.heap[r]?=some (.cells #[.int .i64 z.enc,.bool z.mark,.string z.body,.slice q' (s.O.length+1) cap',.slice (some ⟨g,o,none⟩) n cap] 103))=>red_fin (z:=z) (F:=F) (v':=.slice (some ⟨g,o,none⟩) n cap) h hWW hst hat rfl hk hki ht hF)
 have HB2:=Z1 hb2
 have HY:=Z1 (fun (W:World) (ht:Tn r w2 W)=>show W.cell? ⟨g,o+n * 3,none⟩=some (.int .i64 z.enc)/\W.cell? ⟨g,o+n * 3+1,none⟩=some (.bool z.mark)/\W.cell? ⟨g,o+n * 3+2,none⟩=some (.string z.body) from
  have e:=ht.keep g hyz hgr
  ⟨(World.cell?_of_block (w:=w2) (a:=⟨g,o+n * 3,none⟩) e).trans y0,(World.cell?_of_block (w:=w2) (a:=⟨g,o+n * 3+1,none⟩) e).trans y1,(World.cell?_of_block (w:=w2) (a:=⟨g,o+n * 3+2,none⟩) e).trans y2⟩)
 have hmo:Tryz.prog.follows Departure.mixedOrders=true:=by kernel_rfl
 have hwr:IntKind.i64.wrap ((N:Int) - 1)=(n:Int):=by rw[IntKind.wrap_i64];omega
 have hne0:¬(N:Int)=0:=by omega
 have hneb:((N:Int)==0)=false:=by simpa using hne0
 have hnN:(n:Int)<(N:Int):=by omega
 have hnc:(n:Int)<=(cap:Int):=by omega
 unfold kc at hrun
 clear h hl hlen hkr hki hk hst hat hb2 hbg hWW hnr hO hn z0 z1 z2 hga hN
 generalize s.O.length=m at *
 go_enter Tryz.func125,Tryz.ntmps125
 go_wp2_with fail
 go_cut [] from 4 to 21 (fun wx=>Tn r w2 wx/\wx.heap[r]?=some (.cells #[.int .i64 s.k.enc,.bool s.k.mark,.string s.k.body,.slice q' (m+1) cap',.slice (some ⟨g,o,none⟩) N cap] 103))
 case first =>
  go_region_law (refine step_append_run rfl _ _ _ _ rfl _ _ rfl rfl _ _ hrun ?_)
  all_goals
   clear hrun c0 c1 c2 c3 c4 fc
   go_wp2_with fail
   go_meet
   exact⟨(Tn.refl r w2).setCell _,blk_set HB2.out _⟩
 case rest =>
  obtain⟨ht1,hb1⟩:=hcut
  clear hrun c0 c1 c2 c3 c4 fc d0 d1 d2 d3 d4 fd y0 y1 y2 HB2 hyz hz1 hz2
  obtain⟨y0,y1,y2⟩:=HY.out _ ht1
  have e0:wc.cell? ⟨r,0,none⟩=some (.int .i64 s.k.enc):=by rw[Lib.cell_of_heap hb1];rfl
  have e1:wc.cell? ⟨r,1,none⟩=some (.bool s.k.mark):=by rw[Lib.cell_of_heap hb1];rfl
  have e2:wc.cell? ⟨r,2,none⟩=some (.string s.k.body):=by rw[Lib.cell_of_heap hb1];rfl
  have e4:wc.cell? ⟨r,4,none⟩=some (.slice (some ⟨g,o,none⟩) N cap):=by rw[Lib.cell_of_heap hb1];rfl
  have fe:=fun j=>Lib.frozen_of_heap hb1 j
  have hze:=Z3 e0
  have hzg:=Z3 y0
  have HT1:=Z1 ht1
  have HB1:=Z1 hb1
  clear ht1 hb1
  go_wp2_with fail
  go_cut [] from 22 to 36 (fun wx=>Tn r w2 wx/\wx.heap[r]?=some (.cells #[.int .i64 z.enc,.bool z.mark,.string z.body,.slice q' (m+1) cap',.slice (some ⟨g,o,none⟩) N cap] 103))
  case first =>
   go_region_with (fail)
   all_goals
    go_wp2_with fail
    go_meet
    exact⟨((HT1.out.drewn.setCell _).setCell _).setCell _,blk_set (blk_set (blk_set (show wc.drew.heap[r]?=_ from HB1.out) _) _) _⟩
  case rest =>
   obtain⟨ht3,hb3⟩:=hcut
   clear e0 e1 e2 e4 fe hze hzg y0 y1 y2 HT1 HB1 HY
   rename World=>wd
   have e4:wd.cell? ⟨r,4,none⟩=some (.slice (some ⟨g,o,none⟩) N cap):=by rw[Lib.cell_of_heap hb3];rfl
   have fe:=fun j=>Lib.frozen_of_heap hb3 j
   have hze:=Z3 e4
   have HT3:=Z1 ht3
   have HB3:=Z1 hb3
   clear ht3 hb3
   go_wp2_with fail
   go_region_with (fail)
   all_goals
    go_wp2_with fail
    go_ret
    have hf:=HFIN.out (wd.drew.setCell ⟨r,4,none⟩ (.slice (some ⟨g,o,none⟩) n cap)) (HT3.out.drewn.setCell _) (blk_set (show wd.drew.heap[r]?=_ from HB3.out) _)
    exact⟨rfl,_,_,hf.1,hf.2⟩
theorem rundo_no (B r:Nat) (s:St) (vo vb:Value) (w:World) (h:RHs B w r s vo vb) (hl:s.O=[]) :
  Calls Tryz.prog 124 #[.pointer (some ⟨r,0,none⟩)] w fun e w'=>e=.returned (.int .i64 8)/\w'=w:=by
 obtain⟨q,cap,hv,_⟩:=h.ho.val
 rw[hl] at hv
 subst hv
 have c:w.cell? ⟨r,3,none⟩=some (.slice q 0 cap):=by rw[Lib.cell_of_heap h.blk];rfl
 have hz:=Z3 c
 clear h hl
 go_enter Tryz.func124,Tryz.ntmps124
 go_wp2_with fail
 go_ret
 exact⟨rfl,rfl⟩
theorem rredo_no (B r:Nat) (s:St) (vo vb:Value) (w:World) (h:RHs B w r s vo vb) (hl:s.U=[]) :
  Calls Tryz.prog 125 #[.pointer (some ⟨r,0,none⟩)] w fun e w'=>e=.returned (.int .i64 9)/\w'=w:=by
 obtain⟨q,cap,hv,_⟩:=h.hb.val
 rw[hl] at hv
 subst hv
 have c:w.cell? ⟨r,4,none⟩=some (.slice q 0 cap):=by rw[Lib.cell_of_heap h.blk];rfl
 have hz:=Z3 c
 clear h hl
 go_enter Tryz.func125,Tryz.ntmps125
 go_wp2_with fail
 go_ret
 exact⟨rfl,rfl⟩
theorem rUnd (B r:Nat) (s:St) (G:Nat->Prop) (M:Nat) (w:World) (h:RH B w r s G) (hg:s.Good M) :
  Calls Tryz.prog 124 #[.pointer (some ⟨r,0,none⟩)] w fun e w'=>e=.returned (.int .i64 s.und.1)/\∃G',RH B w' r s.und.2 G'/\Turn G G' w w':=by
 obtain⟨vo,vb,h1,rfl⟩:=h
 unfold St.und
 cases ho:s.O.getLast? with
 |none =>
  have he:s.O=[]:=List.getLast?_eq_none_iff.1 ho
  exact (rundo_no B r s vo vb w h1 he).mono fun e w' ⟨he,hw⟩=>⟨he,_,⟨vo,vb,by rw[hw];exact h1,rfl⟩,by rw[hw];exact Turn.refl _ _⟩
 |some z =>
  exact (rundo_yes B r s vo vb s.O.dropLast z w h1 (last_split ho) hg.len).mono fun e w' ⟨he,vo',vb',h2,h3⟩=>⟨he,_,⟨vo',vb',h2,rfl⟩,h3⟩
theorem rRed (B r:Nat) (s:St) (G:Nat->Prop) (M:Nat) (w:World) (h:RH B w r s G) (hg:s.Good M) :
  Calls Tryz.prog 125 #[.pointer (some ⟨r,0,none⟩)] w fun e w'=>e=.returned (.int .i64 s.red.1)/\∃G',RH B w' r s.red.2 G'/\Turn G G' w w':=by
 obtain⟨vo,vb,h1,rfl⟩:=h
 unfold St.red
 cases ho:s.U.getLast? with
 |none =>
  have he:s.U=[]:=List.getLast?_eq_none_iff.1 ho
  exact (rredo_no B r s vo vb w h1 he).mono fun e w' ⟨he,hw⟩=>⟨he,_,⟨vo,vb,by rw[hw];exact h1,rfl⟩,by rw[hw];exact Turn.refl _ _⟩
 |some z =>
  exact (rredo_yes B r s vo vb s.U.dropLast z w h1 (last_split ho) hg.len).mono fun e w' ⟨he,vo',vb',h2,h3⟩=>⟨he,_,⟨vo',vb',h2,rfl⟩,h3⟩
end Go.Proofs.YtoejbngihecafaaGreatDoor
