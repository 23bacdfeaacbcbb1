import Derived.Test.YtoejbngihecafabGreatDoorB48
import Derived.Test.YtoejbngihecafabGreatDoorB51
set_option maxRecDepth 100000
set_option maxHeartbeats 1000000
namespace Go.Proofs.YtoejbngihecafabGreatDoor
open Go.RowKit
theorem any_take_step {l:List UInt8} {j:Nat} {b:UInt8} {f:UInt8->Bool} (h:l[j]?=some b):(l.take (j+1)).any f=((l.take j).any f || f b):=by
 rw[List.take_add_one,h,List.any_append]
 simp
theorem recodedK_any (v:Value) (zs:List Int) (ev:Int) (vt:Value) (ts:List Int) (mk:Bool) (w:World) (ht:TabA w) (hv:IntsAt w v zs) (hvt:IntsAt w vt ts)
  (hz:∀i,-9223372036854775808<=zs.getD i 0/\zs.getD i 0<=9223372036854775807) (hzt:∀i,-9223372036854775808<=ts.getD i 0/\ts.getD i 0<=9223372036854775807) (he:-9223372036854775808<=ev/\ev<=9223372036854775807) :
  Calls Tryz.prog 3 #[v,.int .i64 ev,vt,.bool mk] w fun e w'=>e=.returned (.bool true)/\Below w.heap.size w w':=by
 have hp:=Vm.pick_bd ev 3 (by decide)
 have PE:=Z1 (fun W=>kpick_any ev 3 W he.1 he.2 (by decide) (by decide))
 generalize Vm.pick ev 3=en at *
 obtain⟨q,cap,rfl⟩:=hv.val
 obtain⟨qt,capt,rfl⟩:=hvt.val
 have TY:=Z1 (ktyped_free (.slice q zs.length cap) zs 0 en w hv (by decide) (by decide) hp.1 (by omega) hz)
 rw[show decide ((0:Int)=3)=false by decide] at TY
 have hpf:=put_first (zs.take 60)
 have hts:(strOfNums (Vm.recL 0 (Vm.ktA false false (zs.take 60)))).size<=480:=by
  have htl:=rec_len8 0 (Vm.ktA false false (zs.take 60))
  rw[Vm.kt_len,List.length_take] at htl
  rw[str_size];omega
 generalize strOfNums (Vm.recL 0 (Vm.ktA false false (zs.take 60)))=tx at *
 generalize strOfNums (Vm.typL 0 en (Vm.ktA false false (zs.take 60)))=ty at *
 have hg0:St.Good 1 ⟨⟨0,false,⟨#[120]⟩⟩,[],[]⟩:=by
  have:=ofK_good (b:=⟨#[120]⟩) (enc:=0) (by decide) (by decide)
  rw[x_ofK] at this
  exact this
 have OP:=Z1 (show ∀W,Below w.heap.size w W->Calls Tryz.prog 6 #[.string ⟨#[120]⟩,.int .i64 0] W fun e w'=>∃p,e=.returned (.tuple #[.pointer (some ⟨p,0,none⟩),.bool true])/\Dk w p 1 ⟨0,false,⟨#[120]⟩⟩ w' from fun W hB=>by
  have h:=openedM w.heap.size ⟨#[120]⟩ 0 W (ht.below hB).tw.tabs (by decide) (by decide) (by decide) hB.size
  rw[show Vm.pick 0 8=0 by decide,show encOf ⟨#[120]⟩ 0=0 by decide,x_ofK] at h
  exact h.mono fun e w' ⟨p,h1,h2,h3,h4⟩=>⟨p,h1,_,_,rfl,h3,hg0,hB.trans (h4.mono hB.size)⟩)
 have HT:=Z1 ht
 have HVT:=Z1 hvt
 have HPF:=Z1 hpf
 clear ht hv hvt hg0 hpf he hz
 go_enter Tryz.func3,Tryz.ntmps3
 go_wp2_with fail
 refine (PE.out _).mono ?_
 rintro e w1 ⟨rfl,hq1⟩
 rw[hq1]
 go_wp2_with fail
 refine TY.out.mono ?_
 rintro e w2 ⟨rfl,hb2⟩
 clear PE TY hq1 w1
 go_wp2_with fail
 refine (OP.out _ hb2).mono ?_
 rintro e w3 ⟨p,rfl,hd3⟩
 have R1:=Z1 (hd3.rpl HT.out 0 1 ⟨#[]⟩ (by decide) x_gone.1)
 rw[x_gone.2] at R1
 have hz3:=hd3.lt
 clear OP hb2 hd3
 go_wp2_with fail
 refine R1.out.mono ?_
 rintro e w4 ⟨rfl,hd4,_⟩
 have hd4:Dk w p 1 k00 w4:=hd4
 have R2:=Z1 (hd4.rpl HT.out 0 0 tx (by omega) HPF.out.1)
 have hz4:=hd4.lt
 have HP1:=Z1 HPF.out.2
 clear R1 hd4 hz3 HPF
 generalize rplK k00 0 0 tx=K1 at *
 go_wp2_with fail
 refine R2.out.mono ?_
 rintro e w5 ⟨rfl,hd5,_⟩
 have hd5:=hd5.mono (show 1+8 * tx.size<=4000 by omega)
 have R3:=Z1 (hd5.eds HT.out (by decide) en hp.1 (by omega))
 have HP2:=Z1 (pl0_end HP1.out hp.1 (show en<=2 by omega))
 have hz5:=hd5.lt
 clear R2 hd5 HP1 hz4
 generalize endK K1 en=K2 at *
 go_wp2_with fail
 refine R3.out.mono ?_
 rintro e w6 ⟨rfl,hd6,_⟩
 have R4:=Z1 (hd6.mrk HT.out (by decide) false (by rw[HP2.out.e0];decide))
 have HP3:=Z1 (pl0_mark (on:=false) HP2.out)
 have hz6:=hd6.lt
 clear R3 hd6 HP2 hz5
 generalize markK K2 false=K3 at *
 go_wp2_with fail
 refine R4.out.mono ?_
 rintro e w7 ⟨rfl,hd7,_⟩
 have hz7:=hd7.lt
 have HD7:=Z1 hd7
 clear R4 hd7 hz6
 go_upto_if 70 with fail
 go_cut [17] from 71 to 74 (fun _ wx=>∃K,Pl0 K/\Dk w p 4000 K wx)
 case first =>
  cases mk with
  |false =>
   go_wp2_with fail
   go_meet
   exact⟨K3,HP3.out,HD7.out⟩
  |true =>
   have R5:=Z1 (HD7.out.mrk HT.out (by decide) true (by rw[HP3.out.e0];decide))
   have HP4:=Z1 (pl0_mark (on:=true) HP3.out)
   clear HD7 HP3
   generalize markK K3 true=K4 at *
   go_wp2_with fail
   refine R5.out.mono ?_
   rintro e w8 ⟨rfl,hd8,_⟩
   have HD8:=Z1 hd8
   clear R5 hd8
   go_wp2_with fail
   go_meet
   exact⟨K4,HP4.out,HD8.out⟩
 case rest =>
  obtain⟨K,hpl,hd⟩:=hcut
  rename World=>w8
  clear HD7 HP3 hz7
  have TX:=Z1 (hd.text HT.out (by decide))
  have hz8:=hd.lt
  have hsb:=hd.siz
  have hT0:(strOfNums (Vm.textL K.A)).size<=1000000:=by
   have h1:=Vm.bytesA_le K.A
   have h2:K.A.length<=4000:=by
    obtain⟨s,F,rfl,_,hg,_⟩:=hd
    exact hg.now.2
   rw[str_size,Vm.textL_len]
   omega
  have HPL:=Z1 hpl
  have HD8:=Z1 hd
  have HGR:=Z1 (great_of K)
  have HTX:=Z1 (show ∀k,Sm K k->strOfNums (Vm.textL k.A)=strOfNums (Vm.textL K.A) from fun k h=>by rw[h.text])
  clear hd hpl
  generalize strOfNums (Vm.textL K.A)=T0 at *
  obtain⟨sm,hsm0⟩:∃sm,smallA K.A=sm:=⟨_,rfl⟩
  rw[hsm0] at HGR
  have HSM:=Z1 hsm0
  clear hsm0
  go_wp2_with fail
  refine TX.out.mono ?_
  rintro e w9 ⟨rfl,hb9⟩
  have HD9:=Z1 (HD8.out.low hb9)
  obtain⟨n2,n4,n6,n8,t7,hsh⟩:=HD9.out.show HT.out (by decide)
  rw[HPL.out.e0] at hsh
  have SH:=Z1 hsh
  have hz9:=HD9.out.lt
  clear hsh TX HD8 hb9 hz8
  go_wp2_with fail
  refine SH.out.mono ?_
  rintro e w10 ⟨rfl,hb10⟩
  have hX:=Go.Deep.blk_alloc_new w10 (.cells #[.int .i64 0,.bool K.mark,.int .i64 n2,.int .i64 K.A.length,.int .i64 n4,.int .i64 ((Vm.linesA K.A:Int)+1),.int .i64 n6,.bool t7,.int .i64 n8] 35)
  have hb11:Below w9.heap.size w9 (w10.alloc (.cells #[.int .i64 0,.bool K.mark,.int .i64 n2,.int .i64 K.A.length,.int .i64 n4,.int .i64 ((Vm.linesA K.A:Int)+1),.int .i64 n6,.bool t7,.int .i64 n8] 35)):=hb10.alloc hb10.size _
  have HD11:=Z1 (HD9.out.low hb11)
  clear hb10 hb11 SH HD9 hz9
  go_wp2_with fail
  generalize w10.alloc (.cells #[.int .i64 0,.bool K.mark,.int .i64 n2,.int .i64 K.A.length,.int .i64 n4,.int .i64 ((Vm.linesA K.A:Int)+1),.int .i64 n6,.bool t7,.int .i64 n8] 35)=w11 at *
  generalize w10.heap.size=X at *
  have HX:=Z1 hX
  have hz11:=HD11.out.lt
  clear hX
  go_loopg [20,21] T0.size (fun kk gr i wx=>∃j:Nat,kk=T0.size - j/\j<=T0.size/\gr=.bool ((T0.data.toList.take j).any (fun b=>decide (196<=b.toNat)))/\i=.int .i64 j/\wx=w11)
  case atStart=>exact⟨0,rfl,Nat.zero_le _,rfl,rfl,rfl⟩
  case round =>
   obtain⟨j,rfl,hj,rfl,rfl,rfl⟩:=hrel
   by_cases hlt:j<T0.size
   ·have hltI:(j:Int)<(T0.size:Int):=by omega
    have hl:j<T0.data.toList.length:=hlt
    have hb:T0.data.toList[j]?=some (T0[j]):=by rw[List.getElem?_eq_getElem hl];rfl
    have hst:=any_take_step (f:=fun b=>decide (196<=b.toNat)) hb
    generalize (T0.data.toList.take j).any (fun b=>decide (196<=b.toNat))=G at *
    have HST:=Z1 hst
    clear hst hb
    cases G with
    |true =>
     go_wp2_with fail
     go_roundg (T0.size - (j+1))
     case measure=>omega
     case rel=>exact⟨j+1,rfl,by omega,by rw[HST.out];rfl,by go_num,rfl⟩
    |false =>
     go_wp2_with fail
     go_roundg (T0.size - (j+1))
     case measure=>omega
     case rel =>
      refine⟨j+1,rfl,by omega,?_,by go_num,rfl⟩
      rw[HST.out,Bool.false_or]
      congr 1
      apply decide_eq_decide.2
      omega
   ·have hnI:¬(j:Int)<(T0.size:Int):=by omega
    have hgr:(T0.data.toList.take j).any (fun b=>decide (196<=b.toNat))=!sm:=by
     rw[List.take_of_length_le (show T0.data.toList.length<=j from Nat.le_of_not_lt hlt)];exact HGR.out
    rw[hgr]
    clear hgr hlt HGR
    have SV:=Z1 (HD11.out.save HT.out (by decide))
    rw[HPL.out.e0] at SV
    obtain⟨WAS,hwas⟩:∃W,W=bytesOf 0 K.mark K.body:=⟨_,rfl⟩
    rw[<-hwas] at SV
    have HWAS:=Z1 hwas
    clear hwas
    go_wp2_with fail
    refine SV.out.mono ?_
    rintro e w12 ⟨rfl,hb12⟩
    have HD12:=Z1 (HD11.out.low hb12)
    have HX12:=Z1 ((hb12.block X (Z4 HX.out)).trans HX.out)
    have hz12:=HD12.out.lt
    clear SV hb12 HD11 HX hz11 hnI
    go_wp2_with fail
    go_loopg [23,24] 6 (fun kk nw i wx=>∃(j:Nat) (k:Kp) (nv:Int),kk=6 - j/\j<=ts.length/\j<=6/\nw=.int .i64 nv/\i=.int .i64 j/\Dk w p 4000 k wx/\Sm K k/\Mk K k ts/\wx.heap[X]?=some (.cells #[.int .i64 0,.bool K.mark,.int .i64 n2,.int .i64 K.A.length,.int .i64 n4,.int .i64 ((Vm.linesA K.A:Int)+1),.int .i64 n6,.bool t7,.int .i64 n8] 35))
    case atStart=>exact⟨0,K,0,rfl,Nat.zero_le _,by omega,rfl,rfl,HD12.out,Sm.refl HPL.out.ok HPL.out.tail HPL.out.e0,.inl rfl,HX12.out⟩
    case round =>
     clear HD12 HX12 hz12
     obtain⟨j2,k,nv,rfl,hj2,hj6,rfl,rfl,hd,hs,hmk,hX⟩:=hrel
     have hz:=hd.lt
     have hzX:=Z4 hX
     have hty:tyAt wr X=some 35:=by unfold tyAt;rw[hX]
     have HS:=Z1 hs
     have HMK:=Z1 hmk
     have HDJ:=Z1 hd
     have HXJ:=Z1 hX
     have HTY:=Z1 hty
     clear hs hmk hd hX hty
     by_cases hlt2:j2<ts.length/\j2<6
     ·obtain⟨hl1,hl2⟩:=hlt2
      have hl1I:(j2:Int)<(ts.length:Int):=by omega
      have hl2I:(j2:Int)<6:=by omega
      obtain⟨a,rfl,hca⟩:=(HVT.out.low HDJ.out.bel).at_ j2 hl1
      have hza:=cell_lt hca
      have hzr:=hzt j2
      have HLA:=Z1 (show Vm.pick (ts.getD j2 0) 4=3->isLat ts=true from isLat_at hl1 hl2)
      generalize ts.getD j2 0=z at *
      have hpk:=Vm.pick_bd z 4 (by decide)
      have PK:=Z1 (kpick_any z 4 wr hzr.1 hzr.2 (by decide) (by decide))
      generalize Vm.pick z 4=n at *
      clear hzr
      by_cases hno:n=3/\sm=false
      ·obtain⟨rfl,rfl⟩:=hno
       have hf:fitsK k 3=false:=by rw[HS.out.fits HPL.out.pl,HSM.out];rfl
       have EN:=Z1 (HDJ.out.cod_no HT.out (by decide) 3 (by decide) (by decide) hf)
       clear hf
       go_wp2_with fail
       refine PK.out.mono ?_
       rintro e w13 ⟨rfl,hq⟩
       rw[hq]
       clear PK hq w13
       go_wp2_with fail
       refine EN.out.mono ?_
       rintro e w14 ⟨rfl,hd14,hk14⟩
       have HD14:=Z1 hd14
       have HX14:=Z1 ((hk14 X HTY.out).trans HXJ.out)
       clear EN hd14 hk14 hca hza
       go_wp2_with fail
       go_roundg (6 - (j2+1))
       case measure=>omega
       case rel=>exact⟨j2+1,k,nv,rfl,by omega,by omega,rfl,by go_num,HD14.out,HS.out,HMK.out,HX14.out⟩
      ·have hf:fitsK k n=true:=by
        rw[HS.out.fits HPL.out.pl,HSM.out]
        by_cases h3:n=3
        ·have:sm=true:=by
          cases sm with
          |true=>rfl
          |false=>exact absurd ⟨h3,rfl⟩ hno
         rw[this,Bool.or_true]
        ·rw[decide_eq_true h3];rfl
       obtain⟨g1,g2,g3,g4⟩:=HS.out.enc HPL.out.pl hpk.1 (show n<=3 by omega) hf
       have EN:=Z1 (HDJ.out.cod HT.out (by decide) n hpk.1 (by omega) hf)
       have hmk1:Mk K (encK k n) ts:=by
        by_cases h3:n=3
        ·exact .inr (HLA.out h3)
        ·rcases HMK.out with q|q
         ·left;rw[g3,decide_eq_true h3,Bool.and_true];exact q
         ·exact .inr q
       have HMK1:=Z1 hmk1
       have HS1:=Z1 g1
       have HE1:=Z1 g2
       clear g1 g2 g3 g4 hf hmk1 HLA
       generalize encK k n=k1 at *
       have hnn:(n==3&&!sm)=false:=by
        cases sm with
        |true=>simp
        |false =>
         have:¬n=3:=fun q=>hno ⟨q,rfl⟩
         simp [this]
       have hn3:n=3->sm=true:=fun q=>by
        cases sm with
        |true=>rfl
        |false=>exact absurd ⟨q,rfl⟩ hno
       clear hno
       go_wp2_with fail
       refine PK.out.mono ?_
       rintro e w13 ⟨rfl,hq⟩
       rw[hq]
       clear PK hq w13
       go_wp2_with fail
       refine EN.out.mono ?_
       rintro e w14 ⟨rfl,hd14,hk14⟩
       have hX14:=(hk14 X HTY.out).trans HXJ.out
       have hz14:=hd14.lt
       have TX:=Z1 (hd14.text HT.out (by decide))
       rw[HTX.out k1 HS1.out] at TX
       have HD14:=Z1 hd14
       have HX14:=Z1 hX14
       have hzX14:=Z4 hX14
       clear EN hd14 hk14 hca hza hX14 HXJ HTY HDJ HMK HS
       have key:(n==3)=true/\sm=true\/(n==3)=false:=by
        by_cases h3:n=3
        ·exact .inl ⟨by simpa using h3,hn3 h3⟩
        ·exact .inr (by simpa using h3)
       clear hn3 hnn
       rcases key with ⟨hb3,rfl⟩|hb3
       all_goals
        go_wp2_with fail
        refine TX.out.mono ?_
        rintro e w15 ⟨rfl,hb15⟩
        have hd15:=HD14.out.low hb15
        have hX15:=(hb15.block X hzX14).trans HX14.out
        obtain⟨m2,m4,m6,m8,u7,hsh⟩:=hd15.show HT.out (by decide)
        rw[HE1.out,sg_len HS1.out.sg,sg_lines HS1.out.sg] at hsh
        have SH:=Z1 hsh
        have hz15:=hd15.lt
        have HD15:=Z1 hd15
        have HX15:=Z1 hX15
        clear hsh TX hb15 hd15 hX15 HD14 HX14 hz14 hzX14
        go_wp2_with fail
        refine SH.out.mono ?_
        rintro e w16 ⟨rfl,hb16⟩
        have hba:Below w15.heap.size w15 (w16.alloc (.cells #[.int .i64 n,.bool k1.mark,.int .i64 m2,.int .i64 K.A.length,.int .i64 m4,.int .i64 ((Vm.linesA K.A:Int)+1),.int .i64 m6,.bool u7,.int .i64 m8] 35)):=hb16.alloc hb16.size _
        have hY:=Go.Deep.blk_alloc_new w16 (.cells #[.int .i64 n,.bool k1.mark,.int .i64 m2,.int .i64 K.A.length,.int .i64 m4,.int .i64 ((Vm.linesA K.A:Int)+1),.int .i64 m6,.bool u7,.int .i64 m8] 35)
        have hX17:=(hba.block X (Z4 HX15.out)).trans HX15.out
        have HD17:=Z1 (HD15.out.low hba)
        clear SH hb16 hba HX15 HD15
        go_upto_region 38 with fail
        generalize w16.alloc (.cells #[.int .i64 n,.bool k1.mark,.int .i64 m2,.int .i64 K.A.length,.int .i64 m4,.int .i64 ((Vm.linesA K.A:Int)+1),.int .i64 m6,.bool u7,.int .i64 m8] 35)=w17 at *
        generalize w16.heap.size=Y at *
        have y0:w17.cell? ⟨Y,0,none⟩=some (.int .i64 n):=by rw[Lib.cell_of_heap hY];rfl
        have y3:w17.cell? ⟨Y,3,none⟩=some (.int .i64 K.A.length):=by rw[Lib.cell_of_heap hY];rfl
        have y5:w17.cell? ⟨Y,5,none⟩=some (.int .i64 ((Vm.linesA K.A:Int)+1)):=by rw[Lib.cell_of_heap hY];rfl
        have x3:w17.cell? ⟨X,3,none⟩=some (.int .i64 K.A.length):=by rw[Lib.cell_of_heap hX17];rfl
        have x5:w17.cell? ⟨X,5,none⟩=some (.int .i64 ((Vm.linesA K.A:Int)+1)):=by rw[Lib.cell_of_heap hX17];rfl
        have hzY:=Z3 y0
        have hzX7:=Z3 x3
        have HX17:=Z1 hX17
        clear hX17 hY
        generalize (K.A.length:Int)=cA at *
        generalize ((Vm.linesA K.A:Int)+1)=cL at *
        go_wp2_with fail
        go_roundg (6 - (j2+1))
        case measure=>omega
        case rel=>exact⟨j2+1,k1,n,rfl,by omega,by omega,rfl,by go_num,HD17.out,HS1.out,HMK1.out,HX17.out⟩
     ·have hn2:¬((j2:Int)<(ts.length:Int)/\(j2:Int)<6):=by omega
      have hbk:=HS.out.back HPL.out.ok HPL.out.tail HPL.out.e0 HPL.out.pl
      have hf:fitsK k 0=true:=by rw[HS.out.fits HPL.out.pl];rfl
      have EN:=Z1 (HDJ.out.cod HT.out (by decide) 0 (by decide) (by decide) hf)
      rw[hbk] at EN
      have hm1:k.mark=true->K.mark=true:=HS.out.mrk
      have hm2:k.mark=K.mark\/isLat ts=true:=HMK.out
      clear hbk hf HS HMK hlt2
      generalize k.mark=km at *
      have hbz:(bytesOf 0 km K.body).size<=1000000:=by
       have:=markB_size 0
       unfold bytesOf;split
       ·rw[ByteArray.size_append];omega
       ·omega
      have key:((j2:Int)<(ts.length:Int)/\¬(j2:Int)<6)\/¬(j2:Int)<(ts.length:Int):=by omega
      clear hn2
      rcases key with ⟨hc1,hc2⟩|hc1
      all_goals
       go_wp2_with fail
       refine EN.out.mono ?_
       rintro e w13 ⟨rfl,hd13,hk13⟩
       have hX13:=(hk13 X HTY.out).trans HXJ.out
       have hz13:=hd13.lt
       obtain⟨m2,m4,m6,m8,u7,hsh⟩:=hd13.show HT.out (by decide)
       simp only at hsh
       generalize ((Kp.mk 0 km K.body).A.length:Int)=l3 at hsh
       generalize ((Vm.linesA (Kp.mk 0 km K.body).A:Int)+1)=l5 at hsh
       have SH:=Z1 hsh
       have HD13:=Z1 hd13
       have HX13:=Z1 hX13
       clear hsh EN hd13 hk13 hX13 HXJ HTY HDJ hz hzX
       go_wp2_with fail
       refine SH.out.mono ?_
       rintro e w14 ⟨rfl,hb14⟩
       have hba:Below w13.heap.size w13 (w14.alloc (.cells #[.int .i64 0,.bool km,.int .i64 m2,.int .i64 l3,.int .i64 m4,.int .i64 l5,.int .i64 m6,.bool u7,.int .i64 m8] 35)):=hb14.alloc hb14.size _
       have hY:=Go.Deep.blk_alloc_new w14 (.cells #[.int .i64 0,.bool km,.int .i64 m2,.int .i64 l3,.int .i64 m4,.int .i64 l5,.int .i64 m6,.bool u7,.int .i64 m8] 35)
       have hX15:=(hba.block X (Z4 HX13.out)).trans HX13.out
       have HD15:=Z1 (HD13.out.low hba)
       clear SH hb14 hba HX13 HD13 hz13
       go_wp2_with fail
       generalize w14.alloc (.cells #[.int .i64 0,.bool km,.int .i64 m2,.int .i64 l3,.int .i64 m4,.int .i64 l5,.int .i64 m6,.bool u7,.int .i64 m8] 35)=w15 at *
       generalize w14.heap.size=Y at *
       have SV:=Z1 (HD15.out.save HT.out (by decide))
       simp only at SV
       refine SV.out.mono ?_
       rintro e w16 ⟨rfl,hb16⟩
       have hX16:=(hb16.block X (Z4 hX15)).trans hX15
       have hY16:=(hb16.block Y (Z4 hY)).trans hY
       have y1:w16.cell? ⟨Y,1,none⟩=some (.bool km):=by rw[Lib.cell_of_heap hY16];rfl
       have x1:w16.cell? ⟨X,1,none⟩=some (.bool K.mark):=by rw[Lib.cell_of_heap hX16];rfl
       have hzY:=Z3 y1
       have hzX6:=Z3 x1
       have HFB:=Z1 (HD15.out.low hb16).bel
       have LT:=Z1 (klatin_any (.slice qt ts.length capt) ts w16 (HVT.out.low HFB.out) hzt)
       have MKK:=Z1 (fun W=>kmark_any 0 W (by decide) (by decide))
       clear SV hb16 hX16 hY16 hX15 hY HD15
       cases km with
       |true =>
        have hKm:K.mark=true:=hm1 rfl
        have hW:=HWAS.out
        rw[hKm] at x1 hW
        subst hW
        clear HWAS
        generalize bytesOf 0 true K.body=BK at *
        go_wp2_with fail
        go_ret
        exact⟨by simp,HFB.out⟩
       |false =>
        cases hKm:K.mark with
        |false =>
         have hW:=HWAS.out
         rw[hKm] at x1 hW
         subst hW
         clear HWAS
         generalize bytesOf 0 false K.body=BK at *
         go_wp2_with fail
         go_ret
         exact⟨by simp,HFB.out⟩
        |true =>
         have hW:=HWAS.out
         rw[hKm] at x1 hW
         have hlat:isLat ts=true:=by
          rcases hm2 with q|q
          ·rw[hKm] at q;cases q
          ·exact q
         rw[hlat] at LT
         have hbb:=back_bytes false K.body rfl
         rw[<-hW] at hbb
         clear HWAS hW hm1 hm2 hlat
         generalize bytesOf 0 false K.body=BK at *
         have hms:=markB_size 0
         have hsz2:(markB 0).size+BK.size<=2000000:=by omega
         have HBB:=Z1 hbb
         clear hbb
         generalize markB 0=MB at *
         go_wp2_with fail
         refine LT.out.mono ?_
         rintro e w17 ⟨rfl,hq⟩
         rw[hq]
         clear LT hq w17
         go_wp2_with fail
         refine (MKK.out _).mono ?_
         rintro e w17 ⟨rfl,hq⟩
         rw[hq]
         clear MKK hq w17
         go_wp2_with fail
         go_ret
         refine⟨?_,HFB.out⟩
         rw[HBB.out]
         simp
end Go.Proofs.YtoejbngihecafabGreatDoor
