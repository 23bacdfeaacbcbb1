import Derived.Deep.Slices
import Derived.Carry
import Derived.Test.YtoejbngihecafaaGreatDoorB49
import Derived.Test.YtoejbngihecafaaGreatDoorB47
import Derived.Test.YtoejbngihecafaaGreatDoorB7
set_option maxRecDepth 100000
set_option maxHeartbeats 1000000
namespace Go.Proofs.YtoejbngihecafaaGreatDoor
open Go.RowKit
theorem openedX (B:Nat) (b:ByteArray) (c:Int) (w:World) (ht:Tabs w) (hb:b.size<=1099511627776) (h1:-9223372036854775808<=c) (h2:c<=9223372036854775807) (hB:B<=w.heap.size) :
  Calls Tryz.prog 24 #[.string b,.int .i64 c] w fun e w'=>∃p,e=.returned (.tuple #[.pointer (some ⟨p,0,none⟩),.bool true])/\w.heap.size<=p/\EH B w' p ⟨ofK b (encOf b (Vm.pick c 8)),[],[]⟩ (fun i=>i=p)/\Below w.heap.size w w':=by
 have hp:=Vm.pick_bd c 8 (by decide)
 have K:=Z2 (kpick_any c 8)
 have L:=Z2 (fun w h=>load_new b (Vm.pick c 8) w h)
 have N:=Z2 (known_any api w ht)
 generalize Vm.pick c 8=m at *
 go_enter Tryz.func24,Tryz.ntmps24
 go_wp2_with fail
 refine N.out.mono ?_
 rintro e w1 ⟨rfl,hb1⟩
 have ht1:=ht.below hb1
 go_wp2_with fail
 refine (K.out w1 h1 h2 (by decide) (by decide)).mono ?_
 rintro e w2 ⟨rfl,rfl⟩
 go_wp2_with fail
 refine (L.out w2 ht1 hb hp.1 (by omega)).mono ?_
 rintro e w3 ⟨p,rfl,hpz,hd,hb3⟩
 have hz1:=hb1.size
 have HE:=Z2 (show EH B w3 p ⟨ofK b (encOf b m),[],[]⟩ (fun i=>i=p) from EH.new hd (by omega))
 clear hd
 go_wp2
 go_ret2
 exact⟨p,rfl,Nat.le_trans hz1 hpz,HE.out,hb1.trans (hb3.mono hb1.size)⟩
def KOpsAt (w:World) (v:Value) (l:List KOp):Prop :=
 ∃q cap,v=.slice q l.length cap/\∀i o,l[i]?=some o->(∃g f,q=some ⟨g,f,none⟩/\w.cell? ⟨g,f+i * 4,none⟩=some (.int .i64 o.kind)/\w.cell? ⟨g,f+i * 4+1,none⟩=some (.int .i64 o.a)/\w.cell? ⟨g,f+i * 4+2,none⟩=some (.int .i64 o.b)/\w.cell? ⟨g,f+i * 4+3,none⟩=some o.t)/\o.Ok w
theorem KOp.Ok.low {w w':World} {o:KOp} (h:o.Ok w) (hb:Below w.heap.size w w'):o.Ok w':=by
 obtain⟨h1,h2,h3,h4,h5⟩:=h
 exact⟨h1,h2,h3,h4.low hb,h5⟩
theorem KOpsAt.low {w w':World} {v:Value} {l:List KOp} (h:KOpsAt w v l) (hb:Below w.heap.size w w'):KOpsAt w' v l:=by
 obtain⟨q,cap,h1,h2⟩:=h
 refine⟨q,cap,h1,fun i o hi=>?_⟩
 obtain⟨⟨g,f,a0,a1,a2,a3,a4⟩,hok⟩:=h2 i o hi
 have z:=Z3 a1
 exact⟨⟨g,f,a0,(hb.cell (p:=⟨g,f+i * 4,none⟩) z).trans a1,(hb.cell (p:=⟨g,f+i * 4+1,none⟩) z).trans a2,(hb.cell (p:=⟨g,f+i * 4+2,none⟩) z).trans a3,(hb.cell (p:=⟨g,f+i * 4+3,none⟩) z).trans a4⟩,hok.low hb⟩
def kopsZ (l:List KOp):Nat:=(l.map (fun o=>o.zs.length)).sum
theorem kopsZ_step {l:List KOp} {j:Nat} {o:KOp} (h:l[j]?=some o):kopsZ (l.take (j+1))=kopsZ (l.take j)+o.zs.length:=by
 unfold kopsZ
 rw[List.take_add_one,h];simp
theorem kopsZ_le (l:List KOp) (j:Nat):kopsZ (l.take j)<=kopsZ l:=by
 have g:∀X Y:List KOp,kopsZ (X++Y)=kopsZ X+kopsZ Y:=fun X Y=>by unfold kopsZ;simp
 have h:=g (l.take j) (l.drop j)
 rw[List.take_append_drop] at h
 omega
theorem enc_self {k:Kp} (h:k.Ok):encOf (bytesOf k.enc k.mark k.body) k.enc=k.enc/\ofMark (bytesOf k.enc k.mark k.body) k.enc=k.mark/\ofBody (bytesOf k.enc k.mark k.body) k.enc=k.body:=by
 have hb:=h.back
 have h0:=h.h0
 have h3:=h.h3
 refine⟨?_,congrArg Kp.mark hb,congrArg Kp.body hb⟩
 unfold encOf
 rw[if_neg (by omega)]
 omega
theorem reread_any (b:ByteArray) (mode:Int) (v:Value) (l:List KOp) (w:World) (ht:TabA w) (hv:KOpsAt w v l) (hs:b.size+72 * kopsZ l<=100000000) (hl:l.length<=1000000000) (h1:-9223372036854775808<=mode) (h2:mode<=9223372036854775807) :
  Calls Tryz.prog 9 #[.string b,.int .i64 mode,v] w fun e w'=>e=.returned (.bool true)/\Below w.heap.size w w':=by
 have L:=Z2 (openedX w.heap.size b mode w ht.tw.tabs (by omega) h1 h2 (Nat.le_refl _))
 have hG:St.Good b.size ⟨ofK b (encOf b (Vm.pick mode 8)),[],[]⟩:=ofK_good (encOf_bd b _).1 (encOf_bd b _).2
 have HG:=Z2 hG
 have HT:=Z2 ht
 have HV:=Z2 hv
 obtain⟨q,cap,rfl,_⟩:=hv
 clear ht hG
 go_enter Tryz.func9,Tryz.ntmps9
 go_wp2_with fail
 refine L.out.mono ?_
 rintro e w1 ⟨p,rfl,hp,hx,hb1⟩
 have HX:=Z2 hx
 have HB:=Z2 hb1
 clear L hx hb1
 go_wp2_with fail
 go_loopw [9] (fun i wx=>∃(j:Nat) (s:St) (F:Nat->Prop),j<=l.length/\i=.int .i64 j/\EH w.heap.size wx p s F/\s.Good (b.size+64 * kopsZ (l.take j))/\Below w.heap.size w wx) (fun i _=>l.length - (intOf i).toNat)
 case atStart=>exact⟨0,_,_,Nat.zero_le _,rfl,HX.out,HG.out.mono (by omega),HB.out⟩
 case round =>
  clear HX HB HG
  obtain⟨j,s,F,hj,rfl,hx,hg,hb⟩:=hrel
  have ht:=HT.out.below hb
  have hle:=kopsZ_le l j
  have HX:=Z2 hx
  have HB:=Z2 hb
  have HGJ:=Z2 hg
  have HTJ:=Z2 ht
  have HVJ:=Z2 (HV.out.low hb)
  have hz:p<wr.heap.size:=hx.lt
  clear hx hb hg ht
  by_cases hlt:j<l.length
  ·have hltI:(j:Int)<(l.length:Int):=by omega
   obtain⟨o,ho⟩:∃o,l[j]?=some o:=⟨l[j],List.getElem?_eq_getElem hlt⟩
   have hst:=kopsZ_step ho
   have hle1:=kopsZ_le l (j+1)
   obtain⟨_,_,hq,hcs⟩:=HVJ.out
   obtain⟨⟨g,f,hqe,o0,o1,o2,o3⟩,hok⟩:=hcs j o ho
   injection hq with hq1 hq2 hq3
   subst hq1
   subst hqe
   clear hcs hq2 hq3 ho HVJ
   have hzo:=Z3 o0
   have P:=Z2 (kchange_any w.heap.size p s F _ o wr HTJ.out HX.out HGJ.out (by omega) hok)
   obtain⟨tq,tc,hte⟩:=hok.2.2.2.1.val
   rw[hte] at o3 P
   have HST:=Z2 hst
   clear hst hok hte
   go_wp2_with fail
   refine P.out.mono ?_
   rintro e w2 ⟨c,s2,F2,rfl,hx2,t2,hg2,hch⟩
   have HX2:=Z2 hx2
   have HG2:=Z2 hg2
   have HB2:=Z2 (t2.below HB.out (fun i hi=>(HX.out.ty hi).1))
   clear P hx2 hg2 t2 hch o0 o1 o2 o3 hzo HX HGJ HTJ HB
   go_wp2_with fail
   refine⟨⟨j+1,s2,F2,by omega,by go_num,HX2.out,HG2.out.mono (by rw[HST.out];omega),HB2.out⟩,by simp [intOf];omega⟩
  ·obtain rfl:j=l.length:=by omega
   have hbd:=good_body HGJ.out
   have hok:=HGJ.out.now.1
   have hes:=enc_self hok
   have hDD:=fun W (hb:Below wr.heap.size wr W)=>(HX.out.low hb).dd (by omega)
   have hTT:=fun W (hb:Below wr.heap.size wr W)=>(HTJ.out.below hb).tw.tabs
   have h0:=hok.h0
   have h3:=hok.h3
   have hsz:(bytesOf s.k.enc s.k.mark s.k.body).size<=1099511627776:=by
    have:=markB_size s.k.enc
    unfold bytesOf;split
    ·rw[ByteArray.size_append];omega
    ·omega
   obtain⟨n2,n3,n4,n5,n6,t7,n8,hsh⟩:=shown_parts s.k.enc s.k.mark s.k.body
   have SH:=Z2 (fun W (hb:Below wr.heap.size wr W)=>docShow p s.k.enc s.k.mark s.k.body W (hTT W hb) (hDD W hb))
   rw[hsh] at SH
   have SV:=Z2 (fun W (hb:Below wr.heap.size wr W)=>docSave p s.k.enc s.k.mark s.k.body W (hTT W hb) (hDD W hb))
   have SB:=Z2 (fun W (hb:Below wr.heap.size wr W)=>docStable p s.k.enc s.k.mark s.k.body W (hTT W hb) (hDD W hb))
   have L1:=Z2 (fun W (hb:Below wr.heap.size wr W)=>load_ok (bytesOf s.k.enc s.k.mark s.k.body) s.k.enc W (hTT W hb) hsz h0 (by omega))
   rw[hes.1,hes.2.1,hes.2.2] at L1
   have L2:=Z2 (fun W (hb:Below wr.heap.size wr W)=>load_ok (bytesOf s.k.enc s.k.mark s.k.body) (4+s.k.enc) W (hTT W hb) hsz (by omega) (by omega))
   have SM:=Z2 (fun W (hb:Below wr.heap.size wr W) r (hd:DD W r s.k.enc s.k.mark s.k.body)=>same_any api r p s.k.enc s.k.mark s.k.body W (hTT W hb) hd (hDD W hb))
   have SN:=Z2 (fun W (hb:Below wr.heap.size wr W) r e2 m2 b2 (hd:DD W r e2 m2 b2)=>docShow r e2 m2 b2 W (hTT W hb) hd)
   have hstb:stableB s.k.enc s.k.mark s.k.body=(encOf (bytesOf s.k.enc s.k.mark s.k.body) (4+s.k.enc)==s.k.enc):=rfl
   have HES:=Z2 hes
   rw[hstb] at SB
   have hwr:IntKind.i64.wrap (4+s.k.enc)=4+s.k.enc:=by rw[IntKind.wrap_i64];omega
   have n1:¬s.k.enc<0:=by omega
   have n2':¬3<s.k.enc:=by omega
   have hmo:Tryz.prog.follows Departure.mixedOrders=true:=by kernel_rfl
   clear hes hDD hTT hsh hstb hok hbd hsz HTJ HX HGJ HVJ hlt
   generalize hbs:bytesOf s.k.enc s.k.mark s.k.body=bs at *
   have HBS:=Z2 hbs
   clear hbs
   go_wp2_with fail
   refine (SH.out _ (Below.refl _ _)).mono ?_
   rintro e w2 ⟨rfl,hb2⟩
   have hX3:=Go.Deep.blk_alloc_new w2 (.cells #[.int .i64 s.k.enc,.bool s.k.mark,.int .i64 n2,.int .i64 n3,.int .i64 n4,.int .i64 n5,.int .i64 n6,.bool t7,.int .i64 n8] 66)
   have hb3:Below wr.heap.size wr (w2.alloc (.cells #[.int .i64 s.k.enc,.bool s.k.mark,.int .i64 n2,.int .i64 n3,.int .i64 n4,.int .i64 n5,.int .i64 n6,.bool t7,.int .i64 n8] 66)):=hb2.alloc hb2.size _
   go_wp2_with fail
   generalize w2.alloc (.cells #[.int .i64 s.k.enc,.bool s.k.mark,.int .i64 n2,.int .i64 n3,.int .i64 n4,.int .i64 n5,.int .i64 n6,.bool t7,.int .i64 n8] 66)=w3 at *
   generalize w2.heap.size=X at *
   have x0:w3.cell? ⟨X,0,none⟩=some (.int .i64 s.k.enc):=by rw[Lib.cell_of_heap hX3];rfl
   have hzx:=Z3 x0
   have HB3:=Z2 hb3
   clear hb2 hb3 hX3 SH
   generalize hen:s.k.enc=en at *
   generalize hmk:s.k.mark=mk at *
   generalize hbd:s.k.body=bd at *
   have HZ:=Z2 (show True from trivial)
   clear hen hmk hbd
   generalize he2:encOf bs (4+en)=e2 at *
   have HE2:=Z2 he2
   clear he2
   go_cut [11,12] from 47 to 54 (fun s11 s12 wx=>∃c,s11=.pointer (some ⟨c,0,none⟩)/\s12=.int .i64 0/\DD wx c en mk bd/\Below w3.heap.size w3 wx)
   case first =>
    go_region_with
     (first
      |(have _hq:=hsv;go_at_call 36;refine (L1.out _ (HB3.out.trans ((((Below.refl _ _).drew).trans hsv).mono HB3.out.size))).mono ?_;rintro e w5 ⟨c,rfl,hdc,hb5⟩)
      |(go_at_call 30;refine (SV.out _ (HB3.out.trans (((Below.refl _ _).drew).mono HB3.out.size))).mono ?_;rintro e w4 ⟨rfl,hsv⟩;have x0b:w4.cell? ⟨X,0,none⟩=some (.int .i64 en):=(hsv.cell (p:=⟨X,0,none⟩) hzx).trans x0)
      |fail)
    all_goals
     go_wp2_with fail
     go_meet
     exact⟨c,rfl,rfl,hdc,(((Below.refl _ _).drew).trans hsv).trans (hb5.mono hsv.size)⟩
   case rest =>
    obtain⟨c,rfl,rfl,hdc,hb5⟩:=hcut
    rename World=>w5
    have x5:=(hb5.cell (p:=⟨X,0,none⟩) hzx).trans x0
    have hzx5:=Z3 x5
    have HB5:=Z2 (HB3.out.trans (hb5.mono HB3.out.size))
    have HDC:=Z2 hdc
    clear x0 hzx hb5 hdc L1 HB3
    go_wp2_with fail
    go_cut [13,14] from 55 to 63 (fun s13 s14 wx=>∃n,s13=.pointer (some ⟨n,0,none⟩)/\s14=.int .i64 0/\DD wx n e2 (ofMark bs e2) (ofBody bs e2)/\Below w5.heap.size w5 wx)
    case first =>
     go_region_with
      (first
       |(have _hq:=hsv;go_at_call 36;refine (L2.out _ (HB5.out.trans ((((Below.refl _ _).drew).trans hsv).mono HB5.out.size))).mono ?_;rintro e w7 ⟨n,rfl,hdn,hb7⟩)
       |(go_at_call 30;refine (SV.out _ (HB5.out.trans (((Below.refl _ _).drew).mono HB5.out.size))).mono ?_;rintro e w6 ⟨rfl,hsv⟩;have x0b:w6.cell? ⟨X,0,none⟩=some (.int .i64 en):=(hsv.cell (p:=⟨X,0,none⟩) hzx5).trans x5)
       |fail)
     all_goals
      go_wp2_with fail
      go_meet
      exact⟨n,rfl,rfl,hdn,(((Below.refl _ _).drew).trans hsv).trans (hb7.mono hsv.size)⟩
    case rest =>
     obtain⟨n,rfl,rfl,hdn,hb7⟩:=hcut
     rename World=>w7
     have x7:=(hb7.cell (p:=⟨X,0,none⟩) hzx5).trans x5
     have hb7r:=HB5.out.trans (hb7.mono HB5.out.size)
     have HDC7:=Z2 (api.low HDC.out hb7)
     have S7:=Z2 (SM.out w7 hb7r c HDC7.out)
     have HB7:=Z2 hb7r
     have HDN:=Z2 hdn
     have hzx7:=Z3 x7
     clear x5 hzx5 hb7 hb7r hdn HDC HB5 L2 SV
     go_wp2_with fail
     refine S7.out.mono ?_
     rintro e w8 ⟨rfl,hb8⟩
     have hb8r:=HB7.out.trans (hb8.mono HB7.out.size)
     have x8:=(hb8.cell (p:=⟨X,0,none⟩) hzx7).trans x7
     have hzx8:=Z3 x8
     have HDN8:=Z2 (api.low HDN.out hb8)
     have N8:=Z2 (SN.out w8 hb8r n _ _ _ HDN8.out)
     obtain⟨m2,m3,m4,m5,m6,u7,m8,hsh2⟩:=shown_parts e2 (ofMark bs e2) (ofBody bs e2)
     rw[hsh2] at N8
     have HB8:=Z2 hb8r
     clear x7 hzx7 hb8 hb8r HB7 HDN S7 hsh2 SN
     go_wp2_with fail
     refine N8.out.mono ?_
     rintro e w9 ⟨rfl,hb9⟩
     have hY:=Go.Deep.blk_alloc_new w9 (.cells #[.int .i64 e2,.bool (ofMark bs e2),.int .i64 m2,.int .i64 m3,.int .i64 m4,.int .i64 m5,.int .i64 m6,.bool u7,.int .i64 m8] 66)
     have hb9r:=HB8.out.trans (hb9.mono HB8.out.size)
     have hb10:Below wr.heap.size wr (w9.alloc (.cells #[.int .i64 e2,.bool (ofMark bs e2),.int .i64 m2,.int .i64 m3,.int .i64 m4,.int .i64 m5,.int .i64 m6,.bool u7,.int .i64 m8] 66)):=hb9r.alloc hb9r.size _
     have x9:=(hb9.cell (p:=⟨X,0,none⟩) hzx8).trans x8
     have hzx9:=Z3 x9
     have hx10:(w9.alloc (.cells #[.int .i64 e2,.bool (ofMark bs e2),.int .i64 m2,.int .i64 m3,.int .i64 m4,.int .i64 m5,.int .i64 m6,.bool u7,.int .i64 m8] 66)).cell? ⟨X,0,none⟩=some (.int .i64 en):=by
      have hb:Below w9.heap.size w9 (w9.alloc (.cells #[.int .i64 e2,.bool (ofMark bs e2),.int .i64 m2,.int .i64 m3,.int .i64 m4,.int .i64 m5,.int .i64 m6,.bool u7,.int .i64 m8] 66)):=(Below.refl _ _).alloc (Nat.le_refl _) _
      exact (hb.cell (p:=⟨X,0,none⟩) hzx9).trans x9
     have HDN10:=Z2 (api.low (api.low HDN8.out hb9) (show Below w9.heap.size w9 (w9.alloc (.cells #[.int .i64 e2,.bool (ofMark bs e2),.int .i64 m2,.int .i64 m3,.int .i64 m4,.int .i64 m5,.int .i64 m6,.bool u7,.int .i64 m8] 66)) from (Below.refl _ _).alloc (Nat.le_refl _) _))
     clear hb9 hb9r x8 hzx8 x9 hzx9 HB8 HDN8 N8
     go_wp2_with fail
     generalize w9.alloc (.cells #[.int .i64 e2,.bool (ofMark bs e2),.int .i64 m2,.int .i64 m3,.int .i64 m4,.int .i64 m5,.int .i64 m6,.bool u7,.int .i64 m8] 66)=w10 at *
     generalize w9.heap.size=Y at *
     have y0:w10.cell? ⟨Y,0,none⟩=some (.int .i64 e2):=by rw[Lib.cell_of_heap hY];rfl
     have hzx10:=Z3 hx10
     have hzy:=Z3 y0
     have HB10:=Z2 hb10
     clear hb10 hY
     refine (SB.out _ HB10.out).mono ?_
     rintro e w11 ⟨rfl,hb11⟩
     have x11:=(hb11.cell (p:=⟨X,0,none⟩) hzx10).trans hx10
     have y11:=(hb11.cell (p:=⟨Y,0,none⟩) hzy).trans y0
     have hz11:=Z3 x11
     have hz11y:=Z3 y11
     have hb11r:=HB10.out.trans (hb11.mono HB10.out.size)
     have HFB:=Z2 (HB.out.trans (hb11r.mono HB.out.size))
     have HDN11:=Z2 (api.low HDN10.out hb11)
     have HB11:=Z2 hb11r
     clear hb11 hb11r hx10 y0 hzx10 hzy HB10 HDN10 SB
     by_cases hst:e2=en
     ·subst hst
      have hdn2:DD w11 n e2 mk bd:=by
       have:=HDN11.out
       rw[HES.out.2.1,HES.out.2.2] at this
       exact this
      have S11:=Z2 (fun W (hb:Below w11.heap.size w11 W)=>SM.out W (HB11.out.trans (hb.mono HB11.out.size)) n (api.low hdn2 hb))
      clear hdn2 HDN11 SM HES
      go_wp2_with fail
      refine (S11.out _ (Below.refl _ _)).mono ?_
      rintro e w12 ⟨rfl,hb12⟩
      have HF2:=Z2 (HFB.out.trans (hb12.mono HFB.out.size))
      clear S11 hb12 HFB HB11 x11 y11 hz11 hz11y
      go_wp2_with fail
      go_ret
      exact⟨rfl,HF2.out⟩
     ·have hsb:(e2==en)=false:=by simpa using hst
      clear SM HES HDN11
      go_wp2_with fail
      go_ret
      exact⟨rfl,HFB.out⟩
end Go.Proofs.YtoejbngihecafaaGreatDoor
namespace Go.Proofs.YtoejbngihecafaaGreatDoor
open Go.ChangeShapes Go.WideShapes Go.ChangeAt Go.RowKit
theorem ints_open {H:Type} {enc:TypeId × Value->H} {W:World} {base:Nat} {held:Bool} {fuel:Nat} {cs:List Value} {x:DataW H × List MemPlace} (h:DataW.trod enc Tryz.prog W base (fun _=>true) held fuel 22 cs=some x) :
  ∃v zs,cs=[v]/\IntsAt W v zs/\(∀z∈zs,(Lit.int .i64 z).wf=true)/\zs.length+1<=Rows.uptoBulk x.1:=by
 have ci:Tryz.prog.cellsOf 3=1:=by kernel_rfl
 rcases open_ints Tryz.underlying22 Tryz.underlying3 ci h with ⟨hcs,hx⟩|⟨a,len,cap,zs,hcs,hb,hl,hm,hz,hx,hcell,hw⟩
 ·exact⟨_,[],hcs,.inl ⟨rfl,rfl⟩,fun z hz=>(by cases hz),by rw[hx];simp [Rows.uptoBulk]⟩
 ·simp only[if_true] at hz
  have htl:(zs.take len).length=len:=by rw[List.length_take];omega
  refine⟨_,zs.take len,hcs,.inr ⟨a,cap,by rw[htl],fun i hi=>?_⟩,fun z hz'=>hw z (List.mem_of_mem_take hz'),?_⟩
  ·rw[htl] at hi
   rw[hcell i (by omega)]
   simp [List.getD,hi]
  ·rw[hx]
   simp only[Rows.uptoBulk]
   have:=bulk_lits (H:=H) (zs.take len)
   omega
theorem wf_rng {z:Int} (h:(Lit.int .i64 z).wf=true):-9223372036854775808<=z/\z<=9223372036854775807:=by
 simp only[Lit.wf,Bool.and_eq_true,decide_eq_true_eq] at h
 exact⟨h.1,h.2⟩
theorem getD_rng {zs:List Int} (h:∀z∈zs,(Lit.int .i64 z).wf=true) (i:Nat):-9223372036854775808<=zs.getD i 0/\zs.getD i 0<=9223372036854775807:=by
 by_cases hi:i<zs.length
 ·exact wf_rng (h (zs.getD i 0) (by simp [List.getD,List.getElem?_eq_getElem hi]))
 ·have:zs.getD i 0=0:=by simp [List.getD,List.getElem?_eq_none (Nat.le_of_not_lt hi)]
  rw[this];decide
theorem kop_open {H:Type} {enc:TypeId × Value->H} {W:World} {base:Nat} {held:Bool} {fuel:Nat} {cs:List Value} {x:DataW H × List MemPlace} (h:DataW.trod enc Tryz.prog W base (fun _=>true) held fuel 79 cs=some x) :
  ∃o:KOp,cs=[.int .i64 o.kind,.int .i64 o.a,.int .i64 o.b,o.t]/\o.Ok W/\o.zs.length+1<=Rows.uptoBulk x.1:=by
 obtain⟨xs,n,_,hx,hcl,hxl,hall⟩:=DataW.trod_struct Tryz.underlying79 h
 have c4:Tryz.prog.cellsOf 79=4:=by kernel_rfl
 have ci:Tryz.prog.cellsOf 3=1:=by kernel_rfl
 have cst:Tryz.prog.cellsOf 22=1:=by kernel_rfl
 rw[c4] at hcl
 match cs,hcl with
 |[v0,v1,v2,v3],_ =>
  match xs,hxl with
  |[y0,y1,y2,y3],_ =>
   have h0:DataW.trod enc Tryz.prog W base (fun _=>true) held n 3 (([v0,v1,v2,v3].drop 0).take (Tryz.prog.cellsOf 3))=some y0:=hall 0 _ rfl
   have h1:DataW.trod enc Tryz.prog W base (fun _=>true) held n 3 (([v0,v1,v2,v3].drop 1).take (Tryz.prog.cellsOf 3))=some y1:=hall 1 _ rfl
   have h2:DataW.trod enc Tryz.prog W base (fun _=>true) held n 3 (([v0,v1,v2,v3].drop 2).take (Tryz.prog.cellsOf 3))=some y2:=hall 2 _ rfl
   have h3:DataW.trod enc Tryz.prog W base (fun _=>true) held n 22 (([v0,v1,v2,v3].drop 3).take (Tryz.prog.cellsOf 22))=some y3:=hall 3 _ rfl
   rw[ci] at h0 h1 h2
   rw[cst] at h3
   obtain⟨k,e0,z0,r0⟩:=DataW.trod_int Tryz.underlying3 h0
   obtain⟨a,e1,z1,r1⟩:=DataW.trod_int Tryz.underlying3 h1
   obtain⟨b,e2,z2,r2⟩:=DataW.trod_int Tryz.underlying3 h2
   obtain⟨t,zs,e3,z3,r3,r4⟩:=ints_open h3
   have g0:v0=.int .i64 k:=by simpa using e0
   have g1:v1=.int .i64 a:=by simpa using e1
   have g2:v2=.int .i64 b:=by simpa using e2
   have g3:v3=t:=by simpa using e3
   refine⟨⟨k,a,b,t,zs⟩,by rw[g0,g1,g2,g3],⟨wf_rng r0,wf_rng r1,wf_rng r2,z3,getD_rng r3⟩,?_⟩
   rw[hx]
   simp only[List.map,Rows.uptoBulk,Rows.uptoBulkAll]
   omega
theorem bulk_rng {H:Type} (D:Nat->DataW H) (f:Nat->KOp):∀n:Nat,(∀i,i<n->(f i).zs.length+1<=Rows.uptoBulk (D i))->kopsZ ((List.range n).map f)+n<=Rows.uptoBulkAll ((List.range n).map D)
 |0,_=>by simp [kopsZ]
 |n+1,h=>by
  have ih:=bulk_rng D f n (fun i hi=>h i (by omega))
  have hn:=h n (by omega)
  have e1:kopsZ ((List.range (n+1)).map f)=kopsZ ((List.range n).map f)+(f n).zs.length:=by
   unfold kopsZ
   rw[List.range_succ];simp
  have e2:∀(L:List (DataW H)) (d:DataW H),Rows.uptoBulkAll (L++[d])=Rows.uptoBulkAll L+Rows.uptoBulk d:=by
   intro L d
   induction L with
   |nil=>simp [Rows.uptoBulkAll]
   |cons x L ih2=>simp only[List.cons_append,Rows.uptoBulkAll,ih2];omega
  have e3:(List.range (n+1)).map D=(List.range n).map D++[D n]:=by rw[List.range_succ];simp
  rw[e1,e3,e2]
  omega
theorem Tryz.laidOutK2:laidOutB Tryz.prog=true:=by kernel_rfl
theorem arg_kops {H:Type} {enc:TypeId × Value->H} {W:World} {base:Nat} {v:Value} {d:DataW H} {ps:List MemPlace} (hval:Value.okWide Tryz.prog W .any base 76 v) (hd:DataW.Trod enc Tryz.prog W 0 (fun _=>true) true 76 v d ps) (hlt:∀p∈ps,p.block<W.heap.size) :
  ∃l:List KOp,KOpsAt W v l/\kopsZ l+l.length<=Rows.uptoBulk d/\(∀W',Below W.heap.size W W'->∀sp:Nat->Bool,(∀p∈ps,sp p.block=true)->DataW.Trod enc Tryz.prog W' 0 sp true 76 v d ps):=by
 have hkeep:∀W',Below W.heap.size W W'->∀sp:Nat->Bool,(∀p∈ps,sp p.block=true)->DataW.Trod enc Tryz.prog W' 0 sp true 76 v d ps:=fun W' hb sp hsp =>
  WideElems.Trod_stays Tryz.laidOutK2 (by kernel_rfl) (of_decide_eq_true (by kernel_rfl)) hd (fun x hx=>hb.same (hlt x hx)) hsp
 obtain⟨a0,len0,cap0,rfl⟩:=okWide_slice Tryz.underlying76 hval
 have ce:Tryz.prog.cellsOf 79=4:=by kernel_rfl
 obtain⟨fuel,hf⟩:=hd
 rcases Go.Deep.open_slice Tryz.underlying76 hf with ⟨hcs,hx⟩|⟨a,len,cap,m,n,D,Pl,hcs,hb,hl,hm,hmm,hx,hcell⟩
 ·simp [Value.cells] at hcs
  obtain⟨rfl,rfl,rfl⟩:=hcs
  exact⟨[],⟨none,0,rfl,fun i o h=>by simp at h⟩,by simp [kopsZ],hkeep⟩
 ·simp [Value.cells] at hcs
  obtain⟨rfl,rfl,rfl⟩:=hcs
  injection hx with hx1 hx2
  simp only[if_true] at hmm
  have hD:∀i,∃o:KOp,i<m->(∀j,j<4->W.cell? ((a.add (i * 4)).add j)=[Value.int .i64 o.kind,.int .i64 o.a,.int .i64 o.b,o.t][j]?)/\o.Ok W/\o.zs.length+1<=Rows.uptoBulk (D i):=fun i=>by
   by_cases hi:i<m
   ·obtain⟨cs',h1,h2⟩:=hcell i hi
    rw[ce] at h1
    obtain⟨o,e1,e2,e3⟩:=kop_open h2
    subst e1
    exact⟨o,fun _=>⟨(World.cells?_some h1).2.2,e2,e3⟩⟩
   ·exact⟨⟨0,0,0,.slice none 0 0,[]⟩,fun h=>absurd h hi⟩
  obtain⟨f,hfD⟩:=Classical.axiomOfChoice hD
  refine⟨(List.range len0).map f,⟨some a,cap0,by simp,fun i o hi=>?_⟩,?_,hkeep⟩
  ·have hil:i<len0:=by
    have:=(List.getElem?_eq_some_iff.1 hi).1
    simpa using this
   obtain⟨e2,hok,_⟩:=hfD i (by omega)
   have ho:o=f i:=by
    rw[List.getElem?_map,List.getElem?_range hil] at hi
    exact (Option.some.inj hi).symm
   subst ho
   refine⟨?_,hok⟩
   obtain⟨g,fo,spot⟩:=a
   have hsp:=World.cell?_spot ((hfD 0 (by omega)).1 0 (by decide))
   have hspot:spot=none:=by simpa [Addr.add] using hsp
   subst hspot
   simp only[Addr.add_lit] at e2
   exact⟨g,fo,rfl,e2 0 (by decide),e2 1 (by decide),e2 2 (by decide),e2 3 (by decide)⟩
  ·rw[hx1]
   simp only[Rows.uptoBulk]
   have:=bulk_rng D f len0 (fun i hi=>(hfD i (by omega)).2.2)
   rw[List.length_map,List.length_range]
   omega
end Go.Proofs.YtoejbngihecafaaGreatDoor
