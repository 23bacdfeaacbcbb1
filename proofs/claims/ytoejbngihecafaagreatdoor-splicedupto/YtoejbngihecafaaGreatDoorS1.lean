import Derived.Test.YtoejbngihecafaaGreatDoorX1
import Derived.Test.YtoejbngihecafaaGreatDoorB45
import Derived.Test.YtoejbngihecafaaGreatDoorB50
set_option maxRecDepth 100000
set_option maxHeartbeats 1000000
namespace Go.Proofs.YtoejbngihecafaaGreatDoor
open Go.RowKit
theorem plV2' (A:List Vm.At) (o:Int):(plV A o).2=(rplV A o).2:=by
 unfold plV rplV
 split
 ·rfl
 ·split<;>rfl
theorem strV_at {A:List Vm.At} {ja jb:Nat} (h1:ja<=jb) (h2:jb<=A.length):(strV A (Vm.bytesA (A.take ja)) (Vm.bytesA (A.take jb))).2.2=0/\Vm.plK A (Vm.bytesA (A.take ja))=ja/\Vm.plK A (Vm.bytesA (A.take jb))=jb:=by
 have e1:=rplV_at (A:=A) (k:=ja) (by omega) rfl
 have e2:=rplV_at (A:=A) (k:=jb) h2 rfl
 have m1:=Vm.bytesA_mono A ja jb h1
 have m2:=Vm.bytesA_mono A jb A.length h2
 rw[List.take_length] at m2
 refine⟨?_,?_,?_⟩
 ·unfold strV
  rw[if_neg (by omega),plV2',plV2',e1,e2]
  rfl
 ·exact Vm.plK_eq (by omega) (Int.le_refl _) (fun hl=>by have:=Vm.bytesA_lt A ja (ja+1) (by omega) hl;omega)
 ·exact Vm.plK_eq h2 (Int.le_refl _) (fun hl=>by have:=Vm.bytesA_lt A jb (jb+1) (by omega) hl;omega)
theorem ofK_bytes (b:ByteArray) (enc:Int):bytesOf enc (ofMark b enc) (ofBody b enc)=b:=by
 cases hm:ofMark b enc with
 |false=>rw[ofBody_no hm];rfl
 |true =>
  obtain⟨_,r,hr⟩:=ofMark_iff.1 hm
  rw[ofBody_of hm hr]
  apply ba_ext
  show (markB enc++ofL r).data.toList=_
  rw[ByteArray.data_append,Array.toList_append,ofL_list,hr]
theorem saveK_stl (k:Kp):bytesOf (stl k).enc (stl k).mark (stl k).body=bytesOf k.enc k.mark k.body:=by
 unfold stl
 cases hm:k.mark with
 |true=>rw[if_pos rfl,hm]
 |false =>
  rw[if_neg (by decide)]
  exact ofK_bytes k.body k.enc
theorem whole_wh {b:ByteArray} {enc:Int} (h0:0<=enc) (h3:enc<=3):Vm.Wh enc (ofK (wholeB b enc) enc).L:=by
 have hc:enc=0\/enc=3\/(enc=1\/enc=2):=by omega
 rcases hc with h|h|hc
 ·exact .inl h
 ·exact .inr (.inl h)
 ·right;right
  have hw:(wholeB b enc).size%2=0:=by
   unfold wholeB
   by_cases hs:b.size%2=1
   ·rw[if_pos ⟨hc,hs⟩,ByteArray.size_extract];omega
   ·rw[if_neg (fun q=>hs q.2)];omega
  rw[Kp.L_len]
  show (ofBody (wholeB b enc) enc).size%2=0
  unfold ofBody
  split
  ·have hm:(markB enc).size=2:=by rcases hc with rfl|rfl<;>decide
   rw[ByteArray.size_extract,hm];omega
  ·exact hw
theorem empty_text:Vm.atoms 0 (⟨#[]⟩:ByteArray).data.toList=[]:=by decide
theorem rplE_empty {k:Kp} {f t:Int} (h:(strV k.A f t).2.2=0):rplE k f t ⟨#[]⟩=0:=by
 unfold rplE
 rw[if_neg (by simpa using h),empty_text]
 simp
theorem rplK_empty (k:Kp) (f t:Int):rplK k f t ⟨#[]⟩=replK k (Vm.plK k.A f) (Vm.plK k.A t) []:=by
 unfold rplK
 rw[empty_text]
 rfl
theorem rplE_text {k:Kp} {f t:Int} (zs:List Int) (h:(strV k.A f t).2.2=0):rplE k f t (strOfNums (Vm.recL 0 (Vm.ktA (decide (k.enc=3)) false zs)))=0:=by
 unfold rplE
 have hn:(strOfNums (Vm.recL 0 (Vm.ktA (decide (k.enc=3)) false zs))).data.toList=Vm.nb (Vm.recL 0 (Vm.ktA (decide (k.enc=3)) false zs)):=rfl
 rw[if_neg (by simpa using h),hn,Vm.kt_plain,if_neg (by decide),if_neg]
 rintro ⟨e3,hq⟩
 rw[decide_eq_true e3,Vm.kt_small] at hq
 cases hq
theorem rplK_text {k:Kp} {f t:Int} (zs:List Int):rplK k f t (strOfNums (Vm.recL 0 (Vm.ktA (decide (k.enc=3)) false zs)))=replK k (Vm.plK k.A f) (Vm.plK k.A t) (Vm.nb (Vm.typL k.enc (Vm.endingOf (Vm.cntK k.A 0) (Vm.cntK k.A 1) (Vm.cntK k.A 2)) (Vm.ktA (decide (k.enc=3)) false zs))):=by
 unfold rplK
 have hn:(strOfNums (Vm.recL 0 (Vm.ktA (decide (k.enc=3)) false zs))).data.toList=Vm.nb (Vm.recL 0 (Vm.ktA (decide (k.enc=3)) false zs)):=rfl
 rw[hn,Vm.kt_atoms,Vm.typL_toE]
theorem save_repl (k:Kp) (a b:Nat) (put:List UInt8):(bytesOf (replK k a b put).enc (replK k a b put).mark (replK k a b put).body).data.toList=(mkB k.enc k.mark).data.toList++(k.L.take (Vm.sizeA (k.A.take a))++(put++k.L.drop (Vm.sizeA (k.A.take b)))):=by
 unfold replK
 rw[saveK_stl,bytes_list,ofL_list]
theorem spliced_bytes {k:Kp} {ja jb:Nat} (put:List UInt8) (hw:Vm.Wh k.enc k.L):(mkB k.enc k.mark).data.toList++(k.L.take (Vm.sizeA (k.A.take ja))++(put++k.L.drop (Vm.sizeA (k.A.take jb))))=((mkB k.enc k.mark).data.toList++(k.L.take (Vm.sizeA (k.A.take ja))++([]++k.L.drop (Vm.sizeA (k.A.take k.A.length)))))++put++k.L.drop (Vm.sizeA (k.A.take jb)):=by
 have e:k.L.drop (Vm.sizeA (k.A.take k.A.length))=[]:=by
  rw[List.take_length]
  apply List.drop_eq_nil_of_le
  have:=Vm.wh_size hw
  unfold Kp.A
  omega
 rw[e]
 simp [List.append_assoc]
end Go.Proofs.YtoejbngihecafaaGreatDoor
namespace Go.Proofs.YtoejbngihecafaaGreatDoor
open Go.RowKit
theorem rpl_ok (B p:Nat) (k:Kp) (M:Nat) (w:World) (f t:Int) (text:ByteArray) (ht:TabA w) (h:EH B w p ⟨k,[],[]⟩ (fun i=>i=p)) (hg:St.Good M ⟨k,[],[]⟩) (hM:M+text.size<=1000000000) (he:rplE k f t text=0) :
  Calls Tryz.prog 29 #[.pointer (some ⟨p,0,none⟩),.int .i64 f,.int .i64 t,.string text] w fun e w'=>e=.returned (.int .i64 0)/\∃F',EH B w' p ⟨rplK k f t text,pushK [] k,[]⟩ F'/\Turn (fun i=>i=p) F' w w':=by
 have hq:=eRpl B p ⟨k,[],[]⟩ (fun i=>i=p) M w f t text ht h hg hM
 have e:St.rpl ⟨k,[],[]⟩ f t text=(0,⟨rplK k f t text,pushK [] k,[]⟩):=by
  unfold St.rpl St.chg
  simp only[he,if_pos]
 rw[e] at hq
 exact hq
theorem rpl_size {k:Kp} {M:Nat} {f t:Int} {text:ByteArray} (hg:St.Good M ⟨k,[],[]⟩) (he:rplE k f t text=0):(rplK k f t text).body.size<=8 * (M+8 * text.size)+1:=by
 have hq:=good_body (hg.rpl (f:=f) (t:=t) (text:=text))
 have e:St.rpl ⟨k,[],[]⟩ f t text=(0,⟨rplK k f t text,pushK [] k,[]⟩):=by
  unfold St.rpl St.chg
  simp only[he,if_pos]
 rw[e] at hq
 exact hq
theorem spliced_any (b:ByteArray) (ev fr tv:Int) (v:Value) (zs:List Int) (w:World) (ht:TabA w) (hv:IntsAt w v zs) (hs:b.size<=2000000) (hzl:zs.length<=2000000) (hz:∀i,-9223372036854775808<=zs.getD i 0/\zs.getD i 0<=9223372036854775807) (he:-9223372036854775808<=ev/\ev<=9223372036854775807) (hf:-9223372036854775808<=fr/\fr<=9223372036854775807) (htv:-9223372036854775808<=tv/\tv<=9223372036854775807) :
  Calls Tryz.prog 7 #[.string b,.int .i64 ev,.int .i64 fr,.int .i64 tv,v] w fun e w'=>e=.returned (.bool true)/\Below w.heap.size w w':=by
 have hp:=Vm.pick_bd ev 4 (by decide)
 have PE:=Z1 (fun W=>kpick_any ev 4 W he.1 he.2 (by decide) (by decide))
 generalize Vm.pick ev 4=enc at *
 have WH:=Z1 (fun W=>kwhole_any b enc W hp.1 (by omega) (by omega))
 have hws:(wholeB b enc).size<=2000000:=by
  unfold wholeB;split
  ·rw[ByteArray.size_extract];omega
  ·exact hs
 have hwh:=whole_wh (b:=b) hp.1 (show enc<=3 by omega)
 have hko:=ofK_ok (b:=wholeB b enc) hp.1 (show enc<=3 by omega)
 have hgd:=ofK_good (b:=wholeB b enc) hp.1 (show enc<=3 by omega)
 have hp8:Vm.pick enc 8=enc:=by unfold Vm.pick;rw[if_neg (by omega)];omega
 have hee:encOf (wholeB b enc) enc=enc:=by unfold encOf;rw[if_neg (by omega)];omega
 have OP:=Z1 (fun W (hT:Tabs W) (hB:w.heap.size<=W.heap.size)=>openedX w.heap.size (wholeB b enc) enc W hT (by omega) (by omega) (by omega) hB)
 rw[hp8,hee] at OP
 generalize wholeB b enc=bw at *
 have hke:(ofK bw enc).enc=enc:=rfl
 generalize ofK bw enc=k at *
 have hgk:St.Good 2000000 ⟨k,[],[]⟩:=hgd.mono hws
 have hA2:=hgk.now.2
 have hbd:=good_body hgk
 simp only at hA2 hbd
 have HT:=Z1 ht
 obtain⟨q,cap,rfl⟩:=hv.val
 have HV:=Z1 hv
 have HG:=Z1 hgk
 have HWH:=Z1 hwh
 clear ht hv hgd hgk hwh hws hp8 hee he
 go_enter Tryz.func7,Tryz.ntmps7
 go_wp2_with fail
 refine (PE.out _).mono ?_
 rintro e w1 ⟨rfl,rfl⟩
 go_wp2_with fail
 refine (WH.out _).mono ?_
 rintro e w2 ⟨rfl,rfl⟩
 clear PE WH
 go_wp2_with fail
 refine (OP.out _ HT.out.tw.tabs (Nat.le_refl _)).mono ?_
 rintro e w3 ⟨p1,rfl,hp1,hx1,hb3⟩
 have ht3:=HT.out.below hb3
 go_wp2_with fail
 refine (OP.out _ ht3.tw.tabs hb3.size).mono ?_
 rintro e w4 ⟨p2,rfl,hp2,hx2,hb4⟩
 have hb4r:=hb3.trans (hb4.mono hb3.size)
 have hx1b:=hx1.low hb4
 have ht4:=HT.out.below hb4r
 have hl1:=hx1.lt
 clear hx1
 go_wp2_with fail
 refine (OP.out _ ht4.tw.tabs hb4r.size).mono ?_
 rintro e w5 ⟨p3,rfl,hp3,hx3,hb5⟩
 have hb5r:=hb4r.trans (hb5.mono hb4r.size)
 have hl2:=hx2.lt
 have hx2b:=hx2.low hb5
 have hx1c:=hx1b.low hb5
 have hz4:=hb4.size
 have hz5:=hb5.size
 have d12:p1≠p2:=by omega
 have d13:p1≠p3:=by omega
 have d23:p2≠p3:=by omega
 have E1:=Z1 hx1c
 have E2:=Z1 hx2b
 have E3:=Z1 hx3
 have HB5:=Z1 hb5r
 have hz51:=hx1c.lt
 have hz52:=hx2b.lt
 have hz53:=hx3.lt
 clear hx1b hx1c hx2 hx2b hx3 hb3 hb4 hb4r hb5 hb5r ht3 ht4 hl1 hl2 hz4 hz5 hp1 hp2 hp3 OP
 have ht5:=HT.out.below HB5.out
 have hend:0<=Vm.endingOf (Vm.cntK k.A 0) (Vm.cntK k.A 1) (Vm.cntK k.A 2)/\Vm.endingOf (Vm.cntK k.A 0) (Vm.cntK k.A 1) (Vm.cntK k.A 2)<=2:=by
  unfold Vm.endingOf
  by_cases q:(if Vm.cntK k.A 0<Vm.cntK k.A 1 then Vm.cntK k.A 1 else Vm.cntK k.A 0)<Vm.cntK k.A 2
  ·rw[if_pos q];decide
  ·rw[if_neg q];split<;>decide
 have htl:decide (Vm.sizeA k.A<k.body.size)=false:=by
  apply decide_eq_false
  have h1:=Vm.wh_size HWH.out
  have h2:=k.L_len
  rw[<-hke] at h1
  unfold Kp.A
  omega
 obtain⟨n3,n4,n5,n6,hsh⟩:∃(n3 n4 n5 n6:Int),shown k.enc k.mark k.body=.agg #[.int .i64 k.enc,.bool k.mark,.int .i64 (Vm.bytesA k.A),.int .i64 n3,.int .i64 n4,.int .i64 n5,.int .i64 n6,.bool (decide (Vm.sizeA k.A<k.body.size)),.int .i64 (Vm.endingOf (Vm.cntK k.A 0) (Vm.cntK k.A 1) (Vm.cntK k.A 2))]:=⟨_,_,_,_,rfl⟩
 have SH:=Z1 (docShow p1 k.enc k.mark k.body w5 ht5.tw.tabs (E1.out.dd (by simp only;omega)))
 rw[hsh,htl] at SH
 have OF:=Z1 (fun W (hb:Below w5.heap.size w5 W)=>offsets_any apiK p1 k.enc k.mark k.body W (ht5.below hb).tw.tabs ((E1.out.low hb).dd (by simp only;omega)) (show k.A.length<=1073741824 by omega))
 change Hid (∀W (hb:Below w5.heap.size w5 W),Calls Tryz.prog 26 #[.pointer (some ⟨p1,0,none⟩),.int .i64 (Vm.bytesA k.A)] W fun e w'=>∃g cap,e=.returned (.tuple #[.slice (some ⟨g,0,none⟩) (k.A.length+1) cap,.bool true])/\OwnI w' W.heap.size (.slice (some ⟨g,0,none⟩) (k.A.length+1) cap) (Vm.offL k.A (k.A.length+1))/\Below W.heap.size W w') at OF
 have hpa:=Vm.pick_bd fr ((k.A.length:Int)+1) (by omega)
 have hpb:=Vm.pick_bd tv ((k.A.length:Int)+1) (by omega)
 have PA:=Z1 (fun W=>kpick_any fr ((k.A.length:Int)+1) W hf.1 hf.2 (by omega) (by omega))
 have PB:=Z1 (fun W=>kpick_any tv ((k.A.length:Int)+1) W htv.1 htv.2 (by omega) (by omega))
 obtain⟨ja,hja⟩:∃j:Nat,Vm.pick fr ((k.A.length:Int)+1)=j:=⟨(Vm.pick fr ((k.A.length:Int)+1)).toNat,by omega⟩
 obtain⟨jb,hjb⟩:∃j:Nat,Vm.pick tv ((k.A.length:Int)+1)=j:=⟨(Vm.pick tv ((k.A.length:Int)+1)).toNat,by omega⟩
 rw[hja] at PA hpa
 rw[hjb] at PB hpb
 obtain⟨en,hen⟩:∃en,en=Vm.endingOf (Vm.cntK k.A 0) (Vm.cntK k.A 1) (Vm.cntK k.A 2):=⟨_,rfl⟩
 rw[<-hen] at SH hend
 have HEN:=Z1 hen
 have hv5:=HV.out.low HB5.out
 have TY:=Z1 (fun W (hb:Below w5.heap.size w5 W)=>ktyped_any (.slice q zs.length cap) zs k.enc en W (hv5.low hb) hko.h0 hko.h3 hend.1 hend.2 (by omega) hz)
 have KD:=Z1 (fun W=>kkind_any (.int .i64 k.enc) (.bool k.mark) (.int .i64 (Vm.bytesA k.A)) (.int .i64 n3) (.int .i64 n4) (.int .i64 n5) (.int .i64 n6) (.bool false) en W hend.1 hend.2)
 have hmo:Tryz.prog.follows Departure.mixedOrders=true:=by kernel_rfl
 have HT5:=Z1 ht5
 have HKO:=Z1 hko
 rw[<-hke] at *
 clear hsh htl hja hjb hen hv5 ht5 HV hko hz hf htv hend
 go_wp2_with fail
 refine SH.out.mono ?_
 rintro e w6 ⟨rfl,hb6⟩
 have hC1:Below w5.heap.size w5 (w6.alloc (.cells #[.int .i64 k.enc,.bool k.mark,.int .i64 (Vm.bytesA k.A),.int .i64 n3,.int .i64 n4,.int .i64 n5,.int .i64 n6,.bool false,.int .i64 en] 66)):=hb6.alloc hb6.size _
 have hX2:=Go.Deep.blk_alloc_new w6 (.cells #[.int .i64 k.enc,.bool k.mark,.int .i64 (Vm.bytesA k.A),.int .i64 n3,.int .i64 n4,.int .i64 n5,.int .i64 n6,.bool false,.int .i64 en] 66)
 have hX5:=hb6.size
 clear hb6 SH
 go_wp2_with fail
 refine (OF.out _ hC1).mono ?_
 rintro e w7 ⟨g,gc,rfl,hown,hb7⟩
 have hX7:=(hb7.block w6.heap.size (Z4 hX2)).trans hX2
 have HB7:=Z1 (hC1.trans (hb7.mono hC1.size))
 clear hC1 hX2 hb7 OF
 generalize w6.heap.size=X at *
 have x0:w7.cell? ⟨X,0,none⟩=some (.int .i64 k.enc):=by rw[Lib.cell_of_heap hX7];rfl
 have x1:w7.cell? ⟨X,1,none⟩=some (.bool k.mark):=by rw[Lib.cell_of_heap hX7];rfl
 have x2:w7.cell? ⟨X,2,none⟩=some (.int .i64 (Vm.bytesA k.A)):=by rw[Lib.cell_of_heap hX7];rfl
 have x3:w7.cell? ⟨X,3,none⟩=some (.int .i64 n3):=by rw[Lib.cell_of_heap hX7];rfl
 have x4:w7.cell? ⟨X,4,none⟩=some (.int .i64 n4):=by rw[Lib.cell_of_heap hX7];rfl
 have x5:w7.cell? ⟨X,5,none⟩=some (.int .i64 n5):=by rw[Lib.cell_of_heap hX7];rfl
 have x6:w7.cell? ⟨X,6,none⟩=some (.int .i64 n6):=by rw[Lib.cell_of_heap hX7];rfl
 have x7:w7.cell? ⟨X,7,none⟩=some (.bool false):=by rw[Lib.cell_of_heap hX7];rfl
 have x8:w7.cell? ⟨X,8,none⟩=some (.int .i64 en):=by rw[Lib.cell_of_heap hX7];rfl
 have qa:=hown.cellAt ja _ (offL_nn k.A (k.A.length+1) ja (by omega))
 have qb:=hown.cellAt jb _ (offL_nn k.A (k.A.length+1) jb (by omega))
 have hzX:=Z3 x0
 have hzg:=Z3 qa
 have HX7:=Z1 hX7
 clear hX7 hown
 have hfm:(jb<ja->(Vm.bytesA (k.A.take jb):Int)<Vm.bytesA (k.A.take ja))/\(ja<jb->(Vm.bytesA (k.A.take ja):Int)<Vm.bytesA (k.A.take jb)):=⟨fun h=>by have:=Vm.bytesA_lt k.A jb ja h (by omega);omega,fun h=>by have:=Vm.bytesA_lt k.A ja jb h (by omega);omega⟩
 obtain⟨fa,hfa⟩:∃fa:Int,fa=(Vm.bytesA (k.A.take ja):Int):=⟨_,rfl⟩
 obtain⟨fb,hfb⟩:∃fb:Int,fb=(Vm.bytesA (k.A.take jb):Int):=⟨_,rfl⟩
 rw[<-hfa] at qa hfm
 rw[<-hfb] at qb hfm
 have HFA:=Z1 hfa
 have HFB:=Z1 hfb
 clear hfa hfb
 go_wp2_with fail
 refine (PA.out _).mono ?_
 rintro e w8 ⟨rfl,rfl⟩
 go_wp2_with fail
 refine (PB.out _).mono ?_
 rintro e w9 ⟨rfl,rfl⟩
 clear PA PB
 have FIN:=Z1 (show ∀(lo hi:Int) (jl jh:Nat),jl<=jh->jh<=k.A.length->lo=(Vm.bytesA (k.A.take jl):Int)->hi=(Vm.bytesA (k.A.take jh):Int) ->
   rplE k lo hi (strOfNums (Vm.recL 0 (Vm.ktA (decide (k.enc=3)) false (zs.take 60))))=0/\rplE k lo (Vm.bytesA k.A) ⟨#[]⟩=0/\rplE k 0 hi ⟨#[]⟩=0 /\
   (∃dd:ByteArray,bytesOf (rplK k 0 hi ⟨#[]⟩).enc (rplK k 0 hi ⟨#[]⟩).mark (rplK k 0 hi ⟨#[]⟩).body=mkB k.enc k.mark++dd /\
    bytesOf (rplK k lo hi (strOfNums (Vm.recL 0 (Vm.ktA (decide (k.enc=3)) false (zs.take 60))))).enc (rplK k lo hi (strOfNums (Vm.recL 0 (Vm.ktA (decide (k.enc=3)) false (zs.take 60))))).mark (rplK k lo hi (strOfNums (Vm.recL 0 (Vm.ktA (decide (k.enc=3)) false (zs.take 60))))).body=bytesOf (rplK k lo (Vm.bytesA k.A) ⟨#[]⟩).enc (rplK k lo (Vm.bytesA k.A) ⟨#[]⟩).mark (rplK k lo (Vm.bytesA k.A) ⟨#[]⟩).body++strOfNums (Vm.typL k.enc en (Vm.ktA (decide (k.enc=3)) false (zs.take 60)))++dd) from fun lo hi jl jh h1 h2 e1 e2=>by
  have a:=strV_at (A:=k.A) h1 h2
  have b:=strV_at (A:=k.A) (show jl<=k.A.length by omega) (Nat.le_refl _)
  have c:=strV_at (A:=k.A) (Nat.zero_le jh) h2
  rw[List.take_length] at b
  rw[<-e1] at a b
  rw[<-e2] at a c
  have z:((Vm.bytesA (k.A.take 0):Nat):Int)=0:=rfl
  rw[z] at c
  refine⟨rplE_text _ a.1,rplE_empty b.1,rplE_empty c.1,ofL (k.L.drop (Vm.sizeA (k.A.take jh))),ba_ext ?_,ba_ext ?_⟩
  ·rw[rplK_empty,c.2.1,c.2.2,save_repl,ByteArray.data_append,Array.toList_append,ofL_list]
   rfl
  ·rw[rplK_text,a.2.1,a.2.2,save_repl,ByteArray.data_append,Array.toList_append,ofL_list,ByteArray.data_append,Array.toList_append,rplK_empty,b.2.1,b.2.2,save_repl,HEN.out]
   exact spliced_bytes _ HWH.out)
 have hts:(strOfNums (Vm.recL 0 (Vm.ktA (decide (k.enc=3)) false (zs.take 60)))).size<=480:=by
  have htl:=rec_len8 0 (Vm.ktA (decide (k.enc=3)) false (zs.take 60))
  rw[Vm.kt_len,List.length_take] at htl
  rw[str_size];omega
 by_cases hab:fb<fa
 ·have hjj:jb<=ja:=by omega
  have HLO:=HFB
  have HHI:=HFA
  go_wp2_with fail
  refine (KD.out _).mono ?_
  rintro e w10 ⟨rfl,hb10⟩
  have hb10r:=HB7.out.trans (hb10.mono HB7.out.size)
  have hX10:=(hb10.block X hzX).trans HX7.out
  clear KD hb10 x0 x1 x2 x3 x4 x5 x6 x7 x8 qa qb hzg
  go_wp2_with fail
  refine (TY.out _ hb10r).mono ?_
  rintro e w11 ⟨rfl,hb11⟩
  have hX11:=(hb11.block X (Z4 hX10)).trans hX10
  have HB11:=Z1 (hb10r.trans (hb11.mono hb10r.size))
  clear hb10r hb11 hX10 TY
  obtain⟨f1,f2,f3,dd,f4,f5⟩:=FIN.out fb fa jb ja hjj (by omega) HLO.out HHI.out
  generalize strOfNums (Vm.recL 0 (Vm.ktA (decide (k.enc=3)) false (zs.take 60)))=tx at *
  generalize strOfNums (Vm.typL k.enc en (Vm.ktA (decide (k.enc=3)) false (zs.take 60)))=ty at *
  have hs1:=rpl_size HG.out f1
  have hs2:=rpl_size HG.out f2
  have hs3:=rpl_size HG.out f3
  have he0:(⟨#[]⟩:ByteArray).size=0:=rfl
  rw[he0] at hs2 hs3
  obtain⟨K1,hK1⟩:∃K,K=rplK k fb fa tx:=⟨_,rfl⟩
  obtain⟨K2,hK2⟩:∃K,K=rplK k fb (Vm.bytesA k.A) ⟨#[]⟩:=⟨_,rfl⟩
  obtain⟨K3,hK3⟩:∃K,K=rplK k 0 fa ⟨#[]⟩:=⟨_,rfl⟩
  rw[<-hK1] at f5 hs1
  rw[<-hK2] at f5 hs2
  rw[<-hK3] at f4 hs3
  have HK2:=Z1 hK2
  have HK3:=Z1 hK3
  have e11:=E1.out.low HB11.out
  have P1:=Z1 (rpl_ok w2.heap.size p1 k 2000000 w11 fb fa tx (HT5.out.below HB11.out) e11 HG.out (by omega) f1)
  rw[<-hK1] at P1
  clear hK1 hK2 hK3
  have y2:w11.cell? ⟨X,2,none⟩=some (.int .i64 (Vm.bytesA k.A)):=by rw[Lib.cell_of_heap hX11];rfl
  have HX11:=Z1 hX11
  have hz11:=HB11.out.size
  clear hX11 f1
  go_wp2_with fail
  refine P1.out.mono ?_
  rintro e w12 ⟨rfl,F1,he12,ht12⟩
  have hq1:NoNd w11 p1:=e11.nd rfl
  have e22:=(E2.out.low HB11.out).turn ht12 (fun i q r=>d12 (q.symm.trans r)) (fun i q=>q ▸ hq1)
  have e32:=(E3.out.low HB11.out).turn ht12 (fun i q r=>d13 (q.symm.trans r)) (fun i q=>q ▸ hq1)
  have hX12:=(ht12.keep X (Z4 HX11.out) (by omega)).trans HX11.out
  have hbw11:=HB5.out.trans (HB11.out.mono HB5.out.size)
  have hbw12:=ht12.below hbw11 (fun i q=>(e11.ty q).1)
  have hnF1:∀i,i<w11.heap.size->i≠p1->¬F1 i:=fun i a b c=>by rcases ht12.new i c with q|q<;>omega
  have P2:=Z1 (rpl_ok w2.heap.size p2 k 2000000 w12 fb (Vm.bytesA k.A) ⟨#[]⟩ (HT.out.below hbw12) e22 HG.out (by decide) f2)
  rw[<-HK2.out] at P2
  have y2:w12.cell? ⟨X,2,none⟩=some (.int .i64 (Vm.bytesA k.A)):=by rw[Lib.cell_of_heap hX12];rfl
  have HX12:=Z1 hX12
  have HE1:=Z1 he12
  have HE3:=Z1 e32
  have HE2:=Z1 e22
  have hz12:=ht12.size
  have HBW:=Z1 hbw12
  clear P1 he12 ht12 e11 hX12 e32 hbw11 hbw12 f2 HX11 E1 E2 E3 HB11 HB7 HX7 hq1 e22
  go_wp2_with fail
  refine P2.out.mono ?_
  rintro e w13 ⟨rfl,F2,he13,ht13⟩
  have hq2:NoNd w12 p2:=HE2.out.nd rfl
  have e31:=HE1.out.turn ht13 (fun i q=>q ▸ hnF1 p2 (by omega) (Ne.symm d12)) (fun i q=>q ▸ hq2)
  have e33:=HE3.out.turn ht13 (fun i q r=>d23 (q.symm.trans r)) (fun i q=>q ▸ hq2)
  have hX13:=(ht13.keep X (Z4 HX12.out) (by omega)).trans HX12.out
  have hbw13:=ht13.below HBW.out (fun i q=>(HE2.out.ty q).1)
  have hnF2:∀i,i<w12.heap.size->i≠p2->¬F2 i:=fun i a b c=>by rcases ht13.new i c with q|q<;>omega
  have P3:=Z1 (rpl_ok w2.heap.size p3 k 2000000 w13 0 fa ⟨#[]⟩ (HT.out.below hbw13) e33 HG.out (by decide) f3)
  rw[<-HK3.out] at P3
  have HX13:=Z1 hX13
  have HE2':=Z1 he13
  have HE1':=Z1 e31
  have HE3':=Z1 e33
  have hz13:=ht13.size
  have HBW3:=Z1 hbw13
  clear P2 he13 ht13 e31 e33 hX13 hbw13 f3 HX12 HE1 HE2 HE3 HBW hq2 y2
  go_wp2_with fail
  refine P3.out.mono ?_
  rintro e w14 ⟨rfl,F3,he14,ht14⟩
  have hq3:NoNd w13 p3:=HE3'.out.nd rfl
  have e41:=HE1'.out.turn ht14 (fun i q=>q ▸ hnF1 p3 (by omega) (Ne.symm d13)) (fun i q=>q ▸ hq3)
  have e42:=HE2'.out.turn ht14 (fun i q=>q ▸ hnF2 p3 (by omega) (Ne.symm d23)) (fun i q=>q ▸ hq3)
  have hX14:=(ht14.keep X (Z4 HX13.out) (by omega)).trans HX13.out
  have hbw14:=ht14.below HBW3.out (fun i q=>(HE3'.out.ty q).1)
  have S2:=Z1 (docSave p2 K2.enc K2.mark K2.body w14 (HT.out.below hbw14).tw.tabs (e42.dd (by simp only;omega)))
  have hz14:=ht14.size
  have HBW4:=Z1 hbw14
  have G1:=Z1 e41
  have G3:=Z1 he14
  have HX14:=Z1 hX14
  have hX14z:=Z4 hX14
  clear P3 he14 ht14 e41 e42 hX14 hbw14 HX13 HE1' HE2' HE3' HBW3 hq3 HK2 HK3 hnF1 hnF2
  obtain⟨N2,hN2⟩:∃N,N=bytesOf K2.enc K2.mark K2.body:=⟨_,rfl⟩
  rw[<-hN2] at S2 f5
  go_wp2_with fail
  refine S2.out.mono ?_
  rintro e w15 ⟨rfl,hb15⟩
  have hbw15:=HBW4.out.trans (hb15.mono HBW4.out.size)
  have S3:=Z1 (docSave p3 K3.enc K3.mark K3.body w15 (HT.out.below hbw15).tw.tabs ((G3.out.low hb15).dd (by simp only;omega)))
  have HB15:=Z1 hb15
  have hz15:=hb15.size
  clear S2 hN2 hbw15 hb15
  obtain⟨R,hR⟩:∃R,R=mkB k.enc k.mark++dd:=⟨_,rfl⟩
  rw[f4,<-hR] at S3
  have hRs:R.size<=1000000000:=by
   have h1:=bytes_list K3.enc K3.mark K3.body
   have h2:=congrArg List.length h1
   rw[List.length_append] at h2
   have h3:=mkB_size K3.enc K3.mark
   rw[f4,<-hR] at h2
   have e1:R.data.toList.length=R.size:=rfl
   have e2:(mkB K3.enc K3.mark).data.toList.length=(mkB K3.enc K3.mark).size:=rfl
   have e3:K3.body.data.toList.length=K3.body.size:=rfl
   omega
  have HR:=Z1 hR
  clear f4 hR
  go_wp2_with fail
  refine S3.out.mono ?_
  rintro e w16 ⟨rfl,hb16⟩
  have hb416:=HB15.out.trans (hb16.mono HB15.out.size)
  have hX16:=(hb416.block X hX14z).trans HX14.out
  have y1:w16.cell? ⟨X,1,none⟩=some (.bool k.mark):=by rw[Lib.cell_of_heap hX16];rfl
  have HB16:=Z1 hb416
  clear S3 HB15 hb16 hb416 hX16
  have hz16:=Z3 y1
  have S1:=Z1 (docSave p1 K1.enc K1.mark K1.body w16 (HT.out.below (HBW4.out.trans (HB16.out.mono HBW4.out.size))).tw.tabs ((G1.out.low HB16.out).dd (by simp only;omega)))
  have hNs:(N2++ty++dd).size<=1000000000:=by
   have h2:=congrArg List.length (bytes_list K1.enc K1.mark K1.body)
   rw[List.length_append] at h2
   have h3:=mkB_size K1.enc K1.mark
   rw[f5] at h2
   have e1:(N2++ty++dd).data.toList.length=(N2++ty++dd).size:=rfl
   have e2:(mkB K1.enc K1.mark).data.toList.length=(mkB K1.enc K1.mark).size:=rfl
   have e3:K1.body.data.toList.length=K1.body.size:=rfl
   omega
  have hNt:(N2++ty).size<=1000000000:=by
   have h4:=ByteArray.size_append (a:=N2++ty) (b:=dd)
   omega
  have hds:dd.size<=1000000000:=by
   have h4:=ByteArray.size_append (a:=N2++ty) (b:=dd)
   omega
  have hNd:(N2++ty).size+dd.size<=1000000000:=by
   have h4:=ByteArray.size_append (a:=N2++ty) (b:=dd)
   omega
  have hNn:N2.size+ty.size<=1000000000:=by
   have h4:=ByteArray.size_append (a:=N2) (b:=ty)
   omega
  rw[f5] at S1
  have HM:=Z1 (fun W=>kmark_any k.enc W HKO.out.h0 HKO.out.h3)
  have HFN:=Z1 (fun W (hb:Below w16.heap.size w16 W)=>(HBW4.out.trans (HB16.out.mono HBW4.out.size)).trans (hb.mono (HBW4.out.trans (HB16.out.mono HBW4.out.size)).size))
  clear f5
  cases hm:k.mark with
  |false =>
   have hRd:R=dd:=by
    rw[HR.out,hm]
    exact ba_ext (by simp [mkB])
   subst hRd
   rw[hm] at y1
   go_wp2_with fail
   refine S1.out.mono ?_
   rintro e w17 ⟨rfl,hb17⟩
   have HB17:=Z1 (HFN.out w17 hb17)
   clear S1 HFN hb17
   go_wp2_with fail
   go_ret
   refine⟨?_,HB17.out⟩
   simp
  |true =>
   have hRd:R=markB k.enc++dd:=by
    rw[HR.out,hm];rfl
   have hR1:R.extract 0 (markB k.enc).size=markB k.enc:=by
    rw[hRd];exact ba_ext (by rw[ext_take,ByteArray.data_append,Array.toList_append,List.take_left'];rfl)
   have hR2:R.extract (markB k.enc).size R.size=dd:=by
    rw[hRd];exact ba_ext (by
     rw[ByteArray.data_extract,Array.toList_extract,List.extract_eq_take_drop,ByteArray.data_append,Array.toList_append,List.drop_left' (show (markB k.enc).data.toList.length=(markB k.enc).size from rfl),ByteArray.size_append,Nat.add_sub_cancel_left]
     exact List.take_of_length_le (Nat.le_refl _))
   have hR3:(markB k.enc).size<=R.size:=by rw[hRd,ByteArray.size_append];omega
   rw[hm] at y1
   have hmb:=markB_size k.enc
   clear HR hRd
   generalize markB k.enc=mb at *
   go_wp2_with fail
   refine (HM.out _).mono ?_
   rintro e w17 ⟨rfl,rfl⟩
   clear HM
   go_wp2_with fail
   refine S1.out.mono ?_
   rintro e w18 ⟨rfl,hb18⟩
   have HB18:=Z1 (HFN.out w18 hb18)
   clear S1 HFN hb18
   go_wp2_with fail
   go_ret
   refine⟨?_,HB18.out⟩
   simp
 ·have hjj:ja<=jb:=by omega
  have HLO:=HFA
  have HHI:=HFB
  go_wp2_with fail
  refine (KD.out _).mono ?_
  rintro e w10 ⟨rfl,hb10⟩
  have hb10r:=HB7.out.trans (hb10.mono HB7.out.size)
  have hX10:=(hb10.block X hzX).trans HX7.out
  clear KD hb10 x0 x1 x2 x3 x4 x5 x6 x7 x8 qa qb hzg
  go_wp2_with fail
  refine (TY.out _ hb10r).mono ?_
  rintro e w11 ⟨rfl,hb11⟩
  have hX11:=(hb11.block X (Z4 hX10)).trans hX10
  have HB11:=Z1 (hb10r.trans (hb11.mono hb10r.size))
  clear hb10r hb11 hX10 TY
  obtain⟨f1,f2,f3,dd,f4,f5⟩:=FIN.out fa fb ja jb hjj (by omega) HLO.out HHI.out
  generalize strOfNums (Vm.recL 0 (Vm.ktA (decide (k.enc=3)) false (zs.take 60)))=tx at *
  generalize strOfNums (Vm.typL k.enc en (Vm.ktA (decide (k.enc=3)) false (zs.take 60)))=ty at *
  have hs1:=rpl_size HG.out f1
  have hs2:=rpl_size HG.out f2
  have hs3:=rpl_size HG.out f3
  have he0:(⟨#[]⟩:ByteArray).size=0:=rfl
  rw[he0] at hs2 hs3
  obtain⟨K1,hK1⟩:∃K,K=rplK k fa fb tx:=⟨_,rfl⟩
  obtain⟨K2,hK2⟩:∃K,K=rplK k fa (Vm.bytesA k.A) ⟨#[]⟩:=⟨_,rfl⟩
  obtain⟨K3,hK3⟩:∃K,K=rplK k 0 fb ⟨#[]⟩:=⟨_,rfl⟩
  rw[<-hK1] at f5 hs1
  rw[<-hK2] at f5 hs2
  rw[<-hK3] at f4 hs3
  have HK2:=Z1 hK2
  have HK3:=Z1 hK3
  have e11:=E1.out.low HB11.out
  have P1:=Z1 (rpl_ok w2.heap.size p1 k 2000000 w11 fa fb tx (HT5.out.below HB11.out) e11 HG.out (by omega) f1)
  rw[<-hK1] at P1
  clear hK1 hK2 hK3
  have y2:w11.cell? ⟨X,2,none⟩=some (.int .i64 (Vm.bytesA k.A)):=by rw[Lib.cell_of_heap hX11];rfl
  have HX11:=Z1 hX11
  have hz11:=HB11.out.size
  clear hX11 f1
  go_wp2_with fail
  refine P1.out.mono ?_
  rintro e w12 ⟨rfl,F1,he12,ht12⟩
  have hq1:NoNd w11 p1:=e11.nd rfl
  have e22:=(E2.out.low HB11.out).turn ht12 (fun i q r=>d12 (q.symm.trans r)) (fun i q=>q ▸ hq1)
  have e32:=(E3.out.low HB11.out).turn ht12 (fun i q r=>d13 (q.symm.trans r)) (fun i q=>q ▸ hq1)
  have hX12:=(ht12.keep X (Z4 HX11.out) (by omega)).trans HX11.out
  have hbw11:=HB5.out.trans (HB11.out.mono HB5.out.size)
  have hbw12:=ht12.below hbw11 (fun i q=>(e11.ty q).1)
  have hnF1:∀i,i<w11.heap.size->i≠p1->¬F1 i:=fun i a b c=>by rcases ht12.new i c with q|q<;>omega
  have P2:=Z1 (rpl_ok w2.heap.size p2 k 2000000 w12 fa (Vm.bytesA k.A) ⟨#[]⟩ (HT.out.below hbw12) e22 HG.out (by decide) f2)
  rw[<-HK2.out] at P2
  have y2:w12.cell? ⟨X,2,none⟩=some (.int .i64 (Vm.bytesA k.A)):=by rw[Lib.cell_of_heap hX12];rfl
  have HX12:=Z1 hX12
  have HE1:=Z1 he12
  have HE3:=Z1 e32
  have HE2:=Z1 e22
  have hz12:=ht12.size
  have HBW:=Z1 hbw12
  clear P1 he12 ht12 e11 hX12 e32 hbw11 hbw12 f2 HX11 E1 E2 E3 HB11 HB7 HX7 hq1 e22
  go_wp2_with fail
  refine P2.out.mono ?_
  rintro e w13 ⟨rfl,F2,he13,ht13⟩
  have hq2:NoNd w12 p2:=HE2.out.nd rfl
  have e31:=HE1.out.turn ht13 (fun i q=>q ▸ hnF1 p2 (by omega) (Ne.symm d12)) (fun i q=>q ▸ hq2)
  have e33:=HE3.out.turn ht13 (fun i q r=>d23 (q.symm.trans r)) (fun i q=>q ▸ hq2)
  have hX13:=(ht13.keep X (Z4 HX12.out) (by omega)).trans HX12.out
  have hbw13:=ht13.below HBW.out (fun i q=>(HE2.out.ty q).1)
  have hnF2:∀i,i<w12.heap.size->i≠p2->¬F2 i:=fun i a b c=>by rcases ht13.new i c with q|q<;>omega
  have P3:=Z1 (rpl_ok w2.heap.size p3 k 2000000 w13 0 fb ⟨#[]⟩ (HT.out.below hbw13) e33 HG.out (by decide) f3)
  rw[<-HK3.out] at P3
  have HX13:=Z1 hX13
  have HE2':=Z1 he13
  have HE1':=Z1 e31
  have HE3':=Z1 e33
  have hz13:=ht13.size
  have HBW3:=Z1 hbw13
  clear P2 he13 ht13 e31 e33 hX13 hbw13 f3 HX12 HE1 HE2 HE3 HBW hq2 y2
  go_wp2_with fail
  refine P3.out.mono ?_
  rintro e w14 ⟨rfl,F3,he14,ht14⟩
  have hq3:NoNd w13 p3:=HE3'.out.nd rfl
  have e41:=HE1'.out.turn ht14 (fun i q=>q ▸ hnF1 p3 (by omega) (Ne.symm d13)) (fun i q=>q ▸ hq3)
  have e42:=HE2'.out.turn ht14 (fun i q=>q ▸ hnF2 p3 (by omega) (Ne.symm d23)) (fun i q=>q ▸ hq3)
  have hX14:=(ht14.keep X (Z4 HX13.out) (by omega)).trans HX13.out
  have hbw14:=ht14.below HBW3.out (fun i q=>(HE3'.out.ty q).1)
  have S2:=Z1 (docSave p2 K2.enc K2.mark K2.body w14 (HT.out.below hbw14).tw.tabs (e42.dd (by simp only;omega)))
  have hz14:=ht14.size
  have HBW4:=Z1 hbw14
  have G1:=Z1 e41
  have G3:=Z1 he14
  have HX14:=Z1 hX14
  have hX14z:=Z4 hX14
  clear P3 he14 ht14 e41 e42 hX14 hbw14 HX13 HE1' HE2' HE3' HBW3 hq3 HK2 HK3 hnF1 hnF2
  obtain⟨N2,hN2⟩:∃N,N=bytesOf K2.enc K2.mark K2.body:=⟨_,rfl⟩
  rw[<-hN2] at S2 f5
  go_wp2_with fail
  refine S2.out.mono ?_
  rintro e w15 ⟨rfl,hb15⟩
  have hbw15:=HBW4.out.trans (hb15.mono HBW4.out.size)
  have S3:=Z1 (docSave p3 K3.enc K3.mark K3.body w15 (HT.out.below hbw15).tw.tabs ((G3.out.low hb15).dd (by simp only;omega)))
  have HB15:=Z1 hb15
  have hz15:=hb15.size
  clear S2 hN2 hbw15 hb15
  obtain⟨R,hR⟩:∃R,R=mkB k.enc k.mark++dd:=⟨_,rfl⟩
  rw[f4,<-hR] at S3
  have hRs:R.size<=1000000000:=by
   have h1:=bytes_list K3.enc K3.mark K3.body
   have h2:=congrArg List.length h1
   rw[List.length_append] at h2
   have h3:=mkB_size K3.enc K3.mark
   rw[f4,<-hR] at h2
   have e1:R.data.toList.length=R.size:=rfl
   have e2:(mkB K3.enc K3.mark).data.toList.length=(mkB K3.enc K3.mark).size:=rfl
   have e3:K3.body.data.toList.length=K3.body.size:=rfl
   omega
  have HR:=Z1 hR
  clear f4 hR
  go_wp2_with fail
  refine S3.out.mono ?_
  rintro e w16 ⟨rfl,hb16⟩
  have hb416:=HB15.out.trans (hb16.mono HB15.out.size)
  have hX16:=(hb416.block X hX14z).trans HX14.out
  have y1:w16.cell? ⟨X,1,none⟩=some (.bool k.mark):=by rw[Lib.cell_of_heap hX16];rfl
  have HB16:=Z1 hb416
  clear S3 HB15 hb16 hb416 hX16
  have hz16:=Z3 y1
  have S1:=Z1 (docSave p1 K1.enc K1.mark K1.body w16 (HT.out.below (HBW4.out.trans (HB16.out.mono HBW4.out.size))).tw.tabs ((G1.out.low HB16.out).dd (by simp only;omega)))
  have hNs:(N2++ty++dd).size<=1000000000:=by
   have h2:=congrArg List.length (bytes_list K1.enc K1.mark K1.body)
   rw[List.length_append] at h2
   have h3:=mkB_size K1.enc K1.mark
   rw[f5] at h2
   have e1:(N2++ty++dd).data.toList.length=(N2++ty++dd).size:=rfl
   have e2:(mkB K1.enc K1.mark).data.toList.length=(mkB K1.enc K1.mark).size:=rfl
   have e3:K1.body.data.toList.length=K1.body.size:=rfl
   omega
  have hNt:(N2++ty).size<=1000000000:=by
   have h4:=ByteArray.size_append (a:=N2++ty) (b:=dd)
   omega
  have hds:dd.size<=1000000000:=by
   have h4:=ByteArray.size_append (a:=N2++ty) (b:=dd)
   omega
  have hNd:(N2++ty).size+dd.size<=1000000000:=by
   have h4:=ByteArray.size_append (a:=N2++ty) (b:=dd)
   omega
  have hNn:N2.size+ty.size<=1000000000:=by
   have h4:=ByteArray.size_append (a:=N2) (b:=ty)
   omega
  rw[f5] at S1
  have HM:=Z1 (fun W=>kmark_any k.enc W HKO.out.h0 HKO.out.h3)
  have HFN:=Z1 (fun W (hb:Below w16.heap.size w16 W)=>(HBW4.out.trans (HB16.out.mono HBW4.out.size)).trans (hb.mono (HBW4.out.trans (HB16.out.mono HBW4.out.size)).size))
  clear f5
  cases hm:k.mark with
  |false =>
   have hRd:R=dd:=by
    rw[HR.out,hm]
    exact ba_ext (by simp [mkB])
   subst hRd
   rw[hm] at y1
   go_wp2_with fail
   refine S1.out.mono ?_
   rintro e w17 ⟨rfl,hb17⟩
   have HB17:=Z1 (HFN.out w17 hb17)
   clear S1 HFN hb17
   go_wp2_with fail
   go_ret
   refine⟨?_,HB17.out⟩
   simp
  |true =>
   have hRd:R=markB k.enc++dd:=by
    rw[HR.out,hm];rfl
   have hR1:R.extract 0 (markB k.enc).size=markB k.enc:=by
    rw[hRd];exact ba_ext (by rw[ext_take,ByteArray.data_append,Array.toList_append,List.take_left'];rfl)
   have hR2:R.extract (markB k.enc).size R.size=dd:=by
    rw[hRd];exact ba_ext (by
     rw[ByteArray.data_extract,Array.toList_extract,List.extract_eq_take_drop,ByteArray.data_append,Array.toList_append,List.drop_left' (show (markB k.enc).data.toList.length=(markB k.enc).size from rfl),ByteArray.size_append,Nat.add_sub_cancel_left]
     exact List.take_of_length_le (Nat.le_refl _))
   have hR3:(markB k.enc).size<=R.size:=by rw[hRd,ByteArray.size_append];omega
   rw[hm] at y1
   have hmb:=markB_size k.enc
   clear HR hRd
   generalize markB k.enc=mb at *
   go_wp2_with fail
   refine (HM.out _).mono ?_
   rintro e w17 ⟨rfl,rfl⟩
   clear HM
   go_wp2_with fail
   refine S1.out.mono ?_
   rintro e w18 ⟨rfl,hb18⟩
   have HB18:=Z1 (HFN.out w18 hb18)
   clear S1 HFN hb18
   go_wp2_with fail
   go_ret
   refine⟨?_,HB18.out⟩
   simp
end Go.Proofs.YtoejbngihecafaaGreatDoor
