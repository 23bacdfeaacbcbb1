import Derived.Maps.AppendAt
import Derived.OwnWalk
import Derived.Test.YtoejbngihecafaaGreatDoorB50
set_option maxRecDepth 100000
set_option maxHeartbeats 1000000
namespace Go.Proofs.YtoejbngihecafaaGreatDoor
open Go.RowKit
theorem push_drop (G:List Kp) (k:Kp):pushK (G.drop (G.length - 30)) k=(G++[k]).drop ((G++[k]).length - 30):=by
 unfold pushK
 rw[List.length_append,List.length_singleton,List.length_drop]
 by_cases h:30<=G.length
 ·rw[if_pos (by omega),List.drop_drop,List.drop_append_of_le_length (by omega)]
  congr 2
  omega
 ·rw[if_neg (by omega)]
  have e1:G.length - 30=0:=by omega
  have e2:G.length+1 - 30=0:=by omega
  rw[e1,e2];rfl
theorem take_one {H:List Kp} {j:Nat} {k:Kp} (h:H[j]?=some k):H.take (j+1)=H.take j++[k]:=by rw[List.take_add_one,h];rfl
theorem drop_one {H:List Kp} {j:Nat} {k:Kp} (h:H[j]?=some k):H.drop j=k :: H.drop (j+1):=by
 obtain⟨hl,he⟩:=List.getElem?_eq_some_iff.1 h
 rw[List.drop_eq_getElem_cons hl,he]
theorem und_at {H:List Kp} {f j:Nat} {k k':Kp} (hk:H[j+1]?=some k) (hk':H[j]?=some k') (hf:f<=j):St.und ⟨k,(H.take (j+1)).drop f,(H.drop (j+2)).reverse⟩=(0,⟨k',(H.take j).drop f,(H.drop (j+1)).reverse⟩):=by
 have hl:j<H.length:=(List.getElem?_eq_some_iff.1 hk').1
 have e1:(H.take (j+1)).drop f=(H.take j).drop f++[k']:=by
  rw[take_one hk',List.drop_append_of_le_length (by rw[List.length_take];omega)]
 unfold St.und
 simp only[e1]
 rw[drop_one hk]
 simp
theorem und_end {H:List Kp} {f:Nat} {k:Kp} {U:List Kp}:St.und ⟨k,(H.take f).drop f,U⟩=(8,⟨k,(H.take f).drop f,U⟩):=by
 have e:(H.take f).drop f=[]:=List.drop_eq_nil_of_le (by rw[List.length_take];omega)
 unfold St.und
 simp only[e]
 rfl
theorem red_at {H:List Kp} {f j:Nat} {k k':Kp} (hk:H[j+1]?=some k) (hk':H[j]?=some k') (hf:f<=j):St.red ⟨k',(H.take j).drop f,(H.drop (j+1)).reverse⟩=(0,⟨k,(H.take (j+1)).drop f,(H.drop (j+2)).reverse⟩):=by
 have hl:j<H.length:=(List.getElem?_eq_some_iff.1 hk').1
 have e1:(H.take (j+1)).drop f=(H.take j).drop f++[k']:=by
  rw[take_one hk',List.drop_append_of_le_length (by rw[List.length_take];omega)]
 unfold St.red
 simp only[e1]
 rw[drop_one hk]
 simp
theorem red_end {H:List Kp} {j:Nat} {k:Kp} {O:List Kp} (h:H.length<=j):St.red ⟨k,O,(H.drop j).reverse⟩=(9,⟨k,O,(H.drop j).reverse⟩):=by
 have e:H.drop j=[]:=List.drop_eq_nil_of_le h
 unfold St.red
 simp only[e]
 rfl
def OwnS (w:World) (base:Nat) (v:Value) (ss:List ByteArray):Prop:=w.ownsRow base 9 1 v ss.length (ss.map Value.string)
theorem OwnS.keep {w w':World} {base:Nat} {v:Value} {ss:List ByteArray} (h:OwnS w base v ss) (hb:∀g,v.ownBlock=some g->w'.heap[g]?=w.heap[g]?):OwnS w' base v ss:=by
 refine⟨h.1,?_⟩
 rcases h.2 with x|⟨g,cap,cur,e1,e2,e3,r⟩
 ·exact .inl x
 ·exact .inr ⟨g,cap,cur,e1,e2,(hb g (by rw[e1];rfl)).trans e3,r⟩
theorem OwnS.lt {w:World} {base:Nat} {v:Value} {ss:List ByteArray} (h:OwnS w base v ss) {g:Nat} (hg:v.ownBlock=some g):base<=g/\g<w.heap.size/\tyAt w g=some 9:=by
 rcases h.2 with ⟨x,_⟩|⟨g',cap,cur,e1,e2,e3,r⟩
 ·rw[x] at hg;cases hg
 ·rw[e1] at hg
  have e:g'=g:=Option.some.inj hg
  subst e
  exact⟨e2,Z4 e3,by unfold tyAt;rw[e3]⟩
theorem OwnS.low {w w':World} {base:Nat} {v:Value} {ss:List ByteArray} (h:OwnS w base v ss) (hb:Below w.heap.size w w'):OwnS w' base v ss:=h.keep (fun _ hg=>hb.block _ (h.lt hg).2.1)
theorem OwnS.turn {B:Nat} {w w':World} {base p:Nat} {v:Value} {ss:List ByteArray} {s:St} {F F':Nat->Prop} (h:OwnS w base v ss) (he:EH B w p s F) (ht:Turn F F' w w'):OwnS w' base v ss :=
 h.keep (fun g hg=>ht.keep g (h.lt hg).2.1 (fun hF=>by
  have h1:=(h.lt hg).2.2
  rcases (he.ty hF).2.2 with q|q<;>(rw[q] at h1;exact absurd (Option.some.inj h1) (by decide))))
theorem OwnS.val {w:World} {base:Nat} {v:Value} {ss:List ByteArray} (h:OwnS w base v ss):∃q cap,v=.slice q ss.length cap:=by
 rcases h.2 with ⟨x,y⟩|⟨g,cap,cur,e1,_⟩
 ·exact⟨none,0,by rw[x,y]⟩
 ·exact⟨_,cap,e1⟩
theorem OwnS.at_ {w:World} {base:Nat} {q:Option Addr} {n cap:Nat} {ss:List ByteArray} (h:OwnS w base (.slice q n cap) ss) {j:Nat} {s:ByteArray} (hj:ss[j]?=some s):∃g,q=some ⟨g,0,none⟩/\w.cell? ⟨g,j,none⟩=some (.string s):=by
 have hl:j<ss.length:=(List.getElem?_eq_some_iff.1 hj).1
 rcases h.2 with ⟨x,y⟩|⟨g,c,cur,e1,e2,e3,e4,e5,e6,e7⟩
 ·omega
 ·injection e1 with a1 a2 a3
  refine⟨g,a1,?_⟩
  rw[Lib.cell_of_heap e3]
  have h8:(cur.toList.take (ss.length * 1))[j]?=some (.string s):=by rw[e7,List.getElem?_map,hj];rfl
  rw[List.getElem?_take,if_pos (by omega)] at h8
  rw[<-Array.getElem?_toList];exact h8
theorem OwnS.one (w:World) (base:Nat) (s:ByteArray) (hb:base<=w.heap.size):OwnS (w.alloc (.cells #[.string s] 9)) base (.slice (some ⟨w.heap.size,0,none⟩) 1 1) [s] :=
 ⟨rfl,.inr ⟨w.heap.size,1,_,rfl,hb,Go.Deep.blk_alloc_new _ _,Nat.le_refl _,by unfold maxLen;omega,rfl,rfl⟩⟩
end Go.Proofs.YtoejbngihecafaaGreatDoor
namespace Go.Proofs.YtoejbngihecafaaGreatDoor
open Go.RowKit
theorem Tryz.infoStr:(Tryz.prog.info? 9).map (fun i=>(i.zero,i.size,i.bytes))=some (some (.string ⟨#[]⟩),1,16):=by kernel_rfl
def saveK (k:Kp):ByteArray:=bytesOf k.enc k.mark k.body
def textK (k:Kp):ByteArray:=strOfNums (Vm.textL k.A)
structure Tws (w:World) (base:Nat) (v1 v2:Value) (H:List Kp):Prop where
 a:OwnS w base v1 (H.map saveK)
 b:OwnS w base v2 (H.map textK)
 ne:∀g,v1.ownBlock=some g->v2.ownBlock≠some g
theorem Tws.low {w w':World} {base:Nat} {v1 v2:Value} {H:List Kp} (h:Tws w base v1 v2 H) (hb:Below w.heap.size w w'):Tws w' base v1 v2 H:=⟨h.a.low hb,h.b.low hb,h.ne⟩
theorem Tws.turn {B p:Nat} {w w':World} {base:Nat} {v1 v2:Value} {H:List Kp} {s:St} {F F':Nat->Prop} (h:Tws w base v1 v2 H) (he:EH B w p s F) (ht:Turn F F' w w'):Tws w' base v1 v2 H:=⟨h.a.turn he ht,h.b.turn he ht,h.ne⟩
theorem Tws.val {w:World} {base:Nat} {v1 v2:Value} {H:List Kp} (h:Tws w base v1 v2 H):∃q1 c1 q2 c2,v1=.slice q1 H.length c1/\v2=.slice q2 H.length c2:=by
 obtain⟨q1,c1,e1⟩:=h.a.val
 obtain⟨q2,c2,e2⟩:=h.b.val
 rw[List.length_map] at e1 e2
 exact⟨q1,c1,q2,c2,e1,e2⟩
theorem Tws.at_ {w:World} {base:Nat} {q1 q2:Option Addr} {n1 n2 c1 c2:Nat} {H:List Kp} (h:Tws w base (.slice q1 n1 c1) (.slice q2 n2 c2) H) {j:Nat} {k:Kp} (hj:H[j]?=some k):∃g1 g2,q1=some ⟨g1,0,none⟩/\q2=some ⟨g2,0,none⟩/\w.cell? ⟨g1,j,none⟩=some (.string (saveK k))/\w.cell? ⟨g2,j,none⟩=some (.string (textK k)):=by
 obtain⟨g1,a1,b1⟩:=h.a.at_ (j:=j) (s:=saveK k) (by rw[List.getElem?_map,hj];rfl)
 obtain⟨g2,a2,b2⟩:=h.b.at_ (j:=j) (s:=textK k) (by rw[List.getElem?_map,hj];rfl)
 exact⟨g1,g2,a1,a2,b1,b2⟩
theorem app_row {B base p:Nat} {w0 w w5:World} {s:St} {F:Nat->Prop} {v v' v2:Value} {ss s2:List ByteArray} {x:ByteArray} {o:Obj} (he:EH B w p s F) (h1:OwnS w base v ss) (h2:OwnS w base v2 s2) (hne:∀g,v.ownBlock=some g->v2.ownBlock≠some g) (hb:Below w0.heap.size w0 w) (hbase:base=w0.heap.size)
  (hown:w5.ownsRow base 9 1 v' (ss.length+1) (ss.map Value.string++[.string x])) (hgr:(w.alloc o).grownBy w5 v.ownBlock) (hat:v'.ownBlock=v.ownBlock\/v'.ownBlock=some (w.heap.size+1)) :
  EH B w5 p s F/\OwnS w5 base v' (ss++[x])/\OwnS w5 base v2 s2/\(∀g,v'.ownBlock=some g->v2.ownBlock≠some g)/\Below w0.heap.size w0 w5:=by
 have hsz:w.heap.size+1<=w5.heap.size:=by have:=hgr.size;rwa [World.size_alloc] at this
 have ht:Turn (fun i=>v.ownBlock=some i) (fun i=>v.ownBlock=some i) w w5:=by
  refine⟨hgr.os,hgr.tape,hgr.output,by omega,fun i hi hn=>?_,fun i hi=>.inl hi⟩
  rw[hgr.block i (by rw[World.size_alloc];omega) (fun e=>hn e.symm)]
  exact Below.heap_alloc _ _ _ hi
 have hnd:∀i,v.ownBlock=some i->NoNd w i:=fun i hi=>by
  have:=(h1.lt hi).2.2
  unfold NoNd
  rw[this]
  exact⟨fun e=>absurd (Option.some.inj e) (by decide),fun e=>absurd (Option.some.inj e) (by decide)⟩
 refine⟨he.turn ht (fun i hi hF=>?_) hnd,?_,h2.keep (fun g hg=>ht.keep g (h2.lt hg).2.1 (fun e=>hne g e hg)),fun g hg e=>?_,ht.below hb (fun i hi=>by rw[<-hbase];exact (h1.lt hi).1)⟩
 ·have h3:=(h1.lt hi).2.2
  rcases (he.ty hF).2.2 with q|q<;>(rw[q] at h3;exact absurd (Option.some.inj h3) (by decide))
 ·unfold OwnS
  rw[List.length_append,List.length_singleton,List.map_append]
  exact hown
 ·rcases hat with q|q
  ·exact hne g (by rw[<-q];exact hg) e
  ·rw[q] at hg
   have h3:=Option.some.inj hg
   have h4:=(h2.lt e).2.1
   omega
def stJ (H:List Kp) (f j:Nat) (k:Kp):St:=⟨k,(H.take j).drop f,(H.drop (j+1)).reverse⟩
theorem undone_any (b:ByteArray) (mode:Int) (v:Value) (l:List KOp) (w:World) (ht:TabA w) (hv:KOpsAt w v l) (hs:b.size+72 * kopsZ l<=100000000) (hl:l.length<=1000000000) (h1:-9223372036854775808<=mode) (h2:mode<=9223372036854775807) :
  Calls Tryz.prog 8 #[.string b,.int .i64 mode,v] w fun e w'=>e=.returned (.bool true)/\Below w.heap.size w w':=by
 have L:=Z2 (openedX w.heap.size b mode w ht.tw.tabs (by omega) h1 h2 (Nat.le_refl _))
 have hG:St.Good b.size ⟨ofK b (encOf b (Vm.pick mode 8)),[],[]⟩:=ofK_good (encOf_bd b _).1 (encOf_bd b _).2
 have HG:=Z2 hG
 have HT:=Z2 ht
 have HV:=Z2 hv
 obtain⟨q,cap,rfl,_⟩:=hv
 obtain⟨i0,hi,hz0,hzz1,hzz2⟩:=info_parts Tryz.infoStr
 clear ht hG
 have SV:=Z2 (fun (W:World) (p:Nat) (s:St) (F:Nat->Prop) (M:Nat) (he:EH w.heap.size W p s F) (hg:s.Good M) (hM:M<=100000000) (hb:Below w.heap.size w W)=>docSave p s.k.enc s.k.mark s.k.body W (HT.out.below hb).tw.tabs (he.dd (by have:=good_body hg;omega)))
 have TX:=Z2 (fun (W:World) (p:Nat) (s:St) (F:Nat->Prop) (M:Nat) (he:EH w.heap.size W p s F) (hg:s.Good M) (hM:M<=100000000) (hb:Below w.heap.size w W)=>docText p s.k.enc s.k.mark s.k.body W (HT.out.below hb).tw.tabs (he.dd (by have:=good_body hg;omega)))
 go_enter Tryz.func8,Tryz.ntmps8
 go_wp2_with fail
 refine L.out.mono ?_
 rintro e w1 ⟨p,rfl,hp,hx,hb1⟩
 generalize hk0:ofK b (encOf b (Vm.pick mode 8))=k0 at *
 clear hk0
 have hz1:=hx.lt
 go_wp2_with fail
 refine (SV.out w1 p _ _ _ hx HG.out (by omega) hb1).mono ?_
 rintro e w2 ⟨rfl,hb2⟩
 have hb12:=hb1.trans (hb2.mono hb1.size)
 have hx2:=hx.low hb2
 have ha3:Below w2.heap.size w2 (w2.alloc (.cells #[.string (saveK k0)] 9)):=(Below.refl _ _).alloc (Nat.le_refl _) _
 have hx3:=hx2.low ha3
 have hb13:=hb12.trans (ha3.mono hb12.size)
 have hs3:=OwnS.one w2 w.heap.size (saveK k0) hb12.size
 have TX3:=Z2 (TX.out _ p _ _ _ hx3 HG.out (by omega) hb13)
 have hz3:=hx3.lt
 change Hid (Calls _ _ _ _ fun e w'=>e=.returned (.string (textK k0))/\_) at TX3
 have HX3:=Z2 hx3
 have HB13:=Z2 hb13
 have HS3:=Z2 hs3
 clear hx hx2 hx3 hb1 hb2 hb12 hb13 ha3 hs3 L
 go_wp2_with fail
 refine TX3.out.mono ?_
 rintro e w4 ⟨rfl,hb4⟩
 have ha5:Below w4.heap.size w4 (w4.alloc (.cells #[.string (textK k0)] 9)):=(Below.refl _ _).alloc (Nat.le_refl _) _
 have hb14:=HB13.out.trans (hb4.mono HB13.out.size)
 have hb15:=hb14.trans (ha5.mono hb14.size)
 have HX5:=Z2 ((HX3.out.low hb4).low ha5)
 have hs4:=HS3.out.low hb4
 have HR5:=Z2 (show Tws (w4.alloc (.cells #[.string (textK k0)] 9)) w.heap.size (.slice (some ⟨w2.heap.size,0,none⟩) 1 1) (.slice (some ⟨w4.heap.size,0,none⟩) 1 1) ([]++[k0]) from ⟨hs4.low ha5,OwnS.one w4 w.heap.size (textK k0) hb14.size,fun g hg e=>by
  have h1:=(hs4.lt hg).2.1
  have h2:w4.heap.size=g:=Option.some.inj e
  omega⟩)
 have HB5:=Z2 hb15
 clear TX3 HX3 HB13 HS3 hb4 ha5 hb14 hb15 hs4 hz3 hz1
 unfold textK at HR5 HX5 HB5
 go_wp2_with fail
 go_loopw [9,10,11] (fun v1 v2 i wx=>∃(j:Nat) (G:List Kp) (k:Kp) (F:Nat->Prop),j<=l.length/\G.length<=j/\i=.int .i64 j/\EH w.heap.size wx p ⟨k,G.drop (G.length - 30),[]⟩ F/\St.Good (b.size+64 * kopsZ (l.take j)) ⟨k,G.drop (G.length - 30),[]⟩/\Tws wx w.heap.size v1 v2 (G++[k])/\Below w.heap.size w wx) (fun _ _ i _=>l.length - (intOf i).toNat)
 case atStart=>exact⟨0,[],k0,_,Nat.zero_le _,Nat.le_refl _,rfl,HX5.out,HG.out.mono (by omega),HR5.out,HB5.out⟩
 case round =>
  clear HX5 HB5 HR5 HG
  obtain⟨j,G,k,F,hj,hGj,rfl,hx,hg,hr,hb⟩:=hrel
  have htj:=HT.out.below hb
  have hle:=kopsZ_le l j
  have hz:p<wr.heap.size:=hx.lt
  have HX:=Z2 hx
  have HB:=Z2 hb
  have HGJ:=Z2 hg
  have HTJ:=Z2 htj
  have HRJ:=Z2 hr
  have HVJ:=Z2 (HV.out.low hb)
  obtain⟨q1,c1,q2,c2,e1,e2⟩:=hr.val
  rw[List.length_append,List.length_singleton] at e1 e2
  subst e1 e2
  clear hx hb hg htj hr
  by_cases hlt:j<l.length
  ·have hltI:(j:Int)<(l.length:Int):=by omega
   obtain⟨o,ho⟩:∃o,l[j]?=some o:=⟨l[j],List.getElem?_eq_getElem hlt⟩
   have hst:=kopsZ_step ho
   have hle1:=kopsZ_le l (j+1)
   obtain⟨_,_,hq,hcs⟩:=HVJ.out
   obtain⟨⟨g,f,hqe,o0,o1,o2,o3⟩,hok⟩:=hcs j o ho
   injection hq with hq1 hq2 hq3
   subst hq1
   subst hqe
   clear hcs hq2 hq3 ho HVJ
   have hzo:=Z3 o0
   have P:=Z2 (kchange_any w.heap.size p _ F _ o wr HTJ.out HX.out HGJ.out (by omega) hok)
   obtain⟨tq,tc,hte⟩:=hok.2.2.2.1.val
   rw[hte] at o3 P
   have hM2:b.size+64 * kopsZ (l.take j)+64 * o.zs.length<=100000000:=by omega
   have HST:=Z2 hst
   clear hst hok hte
   go_wp2_with fail
   refine P.out.mono ?_
   rintro e w2 ⟨c,s2,F2,rfl,hx2,t2,hg2,hch⟩
   have hb2:=t2.below HB.out (fun i hi=>(HX.out.ty hi).1)
   have hr2:=HRJ.out.turn HX.out t2
   have S2:=Z2 (SV.out w2 p s2 F2 _ hx2 hg2 hM2 hb2)
   have HX2:=Z2 hx2
   have HG2:=Z2 hg2
   have HB2:=Z2 hb2
   have HR2:=Z2 hr2
   have HCH:=Z2 hch
   have hz2:=hx2.lt
   clear P hx2 hg2 t2 hch hb2 hr2 o0 o1 o2 o3 hzo HX HGJ HTJ HB HRJ
   go_wp2_with fail
   refine S2.out.mono ?_
   rintro e w3 ⟨rfl,hb3⟩
   have hb3r:=HB2.out.trans (hb3.mono HB2.out.size)
   have T3:=Z2 (TX.out w3 p s2 F2 _ (HX2.out.low hb3) HG2.out hM2 hb3r)
   have HX3:=Z2 (HX2.out.low hb3)
   have HB3:=Z2 hb3r
   have HR3:=Z2 (HR2.out.low hb3)
   have hz3:=HX3.out.lt
   clear S2 hb3 hb3r HX2 HB2 HR2 hz2
   go_wp2_with fail
   refine T3.out.mono ?_
   rintro e w4 ⟨rfl,hb4⟩
   have HX4:=Z2 (HX3.out.low hb4)
   have hb4r:=HB3.out.trans (hb4.mono HB3.out.size)
   have HB4:=Z2 hb4r
   have HR4:=Z2 (HR3.out.low hb4)
   have hz4:=HX4.out.lt
   have hsz4:=hb4r.size
   clear T3 hb4 hb4r HX3 HB3 HR3 hz3
   cases c with
   |true =>
    obtain⟨k2,rfl⟩:=HCH.out.yes rfl
    simp only at HX4 HG2 ⊢
    rw[push_drop] at HX4 HG2
    have HLN:=Z2 (show (G++[k]).length=G.length+1 by rw[List.length_append,List.length_singleton])
    generalize hsv:bytesOf k2.enc k2.mark k2.body=sv at *
    generalize htv:strOfNums (Vm.textL (Vm.atoms k2.enc k2.body.data.toList))=tv at *
    have HSV:=Z2 hsv
    have HTV:=Z2 htv
    clear hsv htv HCH
    go_wp2_with (at_builtin;refine wpList_append_own_at _ rfl _ _ 50 rfl w.heap.size 9 i0 _ 1 16 Tryz.underlying50 hi hz0 hzz1 hzz2 rfl (by decide) _ (G.length+1) (((G++[k]).map saveK).map Value.string) rfl ?hown ⟨w4.heap.size,0,none⟩ 1 1 [.string sv] rfl rfl ?hnews ?h1 ?h63 ?hby ?hbase ?hrest)
    case hown =>
     have h:=HR4.out.a
     unfold OwnS at h
     rw[List.length_map,HLN.out] at h
     exact World.ownsRow.alloc h _
    case hnews=>exact one_newI _ _ _
    case h1=>simp [Value.oneCell']
    case h63=>unfold maxLen;omega
    case hby=>omega
    case hbase=>simp;omega
    case hrest =>
     intro v' w5 hown5 hgr5 _ hat5
     have hlm:(((G++[k]).map saveK)).length=G.length+1:=by rw[List.length_map,HLN.out]
     have hown5':w5.ownsRow w.heap.size 9 1 v' (G.length+1+1) (((G++[k]).map saveK).map Value.string++[.string sv]):=by simpa using hown5
     obtain⟨a1,a2,a3,a4,a5⟩:=app_row (w0:=w) (x:=sv) HX4.out HR4.out.a HR4.out.b HR4.out.ne HB4.out rfl (by rw[hlm];exact hown5') hgr5 hat5
     clear hown5'
     obtain⟨q3,c3,rfl⟩:=a2.val
     have hl2:((G++[k]).map saveK++[sv]).length=G.length+1+1:=by rw[List.length_append,hlm];rfl
     rw[hl2] at a2 a4 ⊢
     have HX5:=Z2 a1
     have HA5:=Z2 a2
     have HT5:=Z2 a3
     have HN5:=Z2 (show ∀g,(Value.slice q2 (G.length+1) c2).ownBlock=some g->(Value.slice q3 (G.length+1+1) c3).ownBlock≠some g from fun g h e=>a4 g e h)
     have HB5:=Z2 a5
     have hsz5:=a5.size
     clear a1 a2 a3 a4 a5 hown5 hgr5 hat5 HX4 HR4 HB4 hl2 hlm
     go_wp2_with (at_builtin;refine wpList_append_own_at _ rfl _ _ 50 rfl w.heap.size 9 i0 _ 1 16 Tryz.underlying50 hi hz0 hzz1 hzz2 rfl (by decide) _ (G.length+1) (((G++[k]).map textK).map Value.string) rfl ?hown2 ⟨w5.heap.size,0,none⟩ 1 1 [.string tv] rfl rfl ?hnews2 ?h12 ?h632 ?hby2 ?hbase2 ?hrest2)
     case hown2 =>
      have h:=HT5.out
      unfold OwnS at h
      rw[List.length_map,HLN.out] at h
      exact World.ownsRow.alloc h _
     case hnews2=>exact one_newI _ _ _
     case h12=>simp [Value.oneCell']
     case h632=>unfold maxLen;omega
     case hby2=>omega
     case hbase2=>simp;omega
     case hrest2 =>
      intro v6 w6 hown6 hgr6 _ hat6
      have hlm:(((G++[k]).map textK)).length=G.length+1:=by rw[List.length_map,HLN.out]
      have hown6':w6.ownsRow w.heap.size 9 1 v6 (G.length+1+1) (((G++[k]).map textK).map Value.string++[.string tv]):=by simpa using hown6
      obtain⟨a1,a2,a3,a4,a5⟩:=app_row (w0:=w) (x:=tv) HX5.out HT5.out HA5.out HN5.out HB5.out rfl (by rw[hlm];exact hown6') hgr6 hat6
      clear hown6'
      have HFN:=Z2 (show ∃(G':List Kp) (k':Kp),G'.length<=j+1/\EH w.heap.size w6 p ⟨k',G'.drop (G'.length - 30),[]⟩ F2/\St.Good (b.size+64 * kopsZ (l.take (j+1))) ⟨k',G'.drop (G'.length - 30),[]⟩/\Tws w6 w.heap.size (.slice q3 (G.length+1+1) c3) v6 (G'++[k'])/\Below w.heap.size w w6 from
       ⟨G++[k],k2,by rw[HLN.out];omega,a1,HG2.out.mono (by rw[HST.out];omega),⟨by
        rw[List.map_append (l₁:=G++[k])]
        show OwnS w6 w.heap.size _ ((G++[k]).map saveK++[saveK k2])
        unfold saveK at *
        rw[HSV.out]
        exact a3,by
        rw[List.map_append (l₁:=G++[k])]
        show OwnS w6 w.heap.size _ ((G++[k]).map textK++[textK k2])
        have:textK k2=tv:=HTV.out
        rw[this]
        exact a2,fun g h e=>a4 g e h⟩,a5⟩)
      obtain⟨q6,c6,rfl⟩:=a2.val
      clear a1 a2 a3 a4 a5 hown6 hgr6 hat6 HX5 HA5 HT5 HN5 HB5 HG2 HSV HTV hlm
      go_wp2_with fail
      obtain⟨G',k',f1,f2,f3,f4,f5⟩:=HFN.out
      refine⟨⟨j+1,G',k',F2,by omega,f1,by go_num,f2,f3,f4,f5⟩,by simp [intOf];omega⟩
   |false =>
    have hs2:=HCH.out.no rfl
    subst hs2
    obtain⟨g1,g2,hq1,hq2,w1c,w2c⟩:=HR4.out.at_ (j:=G.length) (k:=k) (by simp)
    subst hq1 hq2
    unfold saveK at w1c
    unfold textK at w2c
    have hzg1:=Z3 w1c
    have hzg2:=Z3 w2c
    have hwr:IntKind.i64.wrap ((G.length:Int)+1 - 1)=(G.length:Int):=by rw[IntKind.wrap_i64];omega
    simp only
    have htc:textK k=strOfNums (Vm.textL (Vm.atoms k.enc k.body.data.toList)):=rfl
    clear htc
    change w4.cell? ⟨g2,G.length,none⟩=some (.string (strOfNums (Vm.textL (Vm.atoms k.enc k.body.data.toList)))) at w2c
    generalize bytesOf k.enc k.mark k.body=sv at *
    generalize strOfNums (Vm.textL (Vm.atoms k.enc k.body.data.toList))=tv at *
    clear HCH
    go_wp2_with fail
    refine⟨⟨j+1,G,k,F2,by omega,by omega,by go_num,HX4.out,HG2.out.mono (by rw[HST.out];omega),HR4.out,HB4.out⟩,by simp [intOf];omega⟩
  ·have hjl:j=l.length:=by omega
   have hMM:b.size+64 * kopsZ (l.take j)<=100000000:=by omega
   obtain⟨f,hf⟩:∃f,f=G.length - 30:=⟨_,rfl⟩
   obtain⟨n,hn⟩:∃n,n=G.length:=⟨_,rfl⟩
   obtain⟨H,hH⟩:∃H,H=G++[k]:=⟨_,rfl⟩
   have hHn:H[n]?=some k:=by rw[hH,hn];simp
   have hHl:H.length=n+1:=by rw[hH,hn,List.length_append,List.length_singleton]
   have hst:(⟨k,G.drop (G.length - 30),[]⟩:St)=stJ H f n k:=by
    unfold stJ
    have e1:H.take n=G:=by rw[hH,hn,List.take_left]
    have e2:H.drop (n+1)=[]:=List.drop_eq_nil_of_le (by omega)
    rw[e1,e2,hf];rfl
   rw[hst] at HX HGJ
   rw[<-hH,<-hn] at HRJ
   rw[<-hn]
   have hfn:f<=n:=by omega
   have hn1:n<=1000000000:=by omega
   have hw1:IntKind.i64.wrap ((n:Int)+1 - 1)=(n:Int):=by rw[IntKind.wrap_i64];omega
   have hw2:IntKind.i64.wrap ((n:Int) - 30)=(n:Int) - 30:=by rw[IntKind.wrap_i64];omega
   have hw3:IntKind.i64.wrap ((n:Int) - 1)=(n:Int) - 1:=by rw[IntKind.wrap_i64];omega
   have hff:(if (n:Int) - 30<0 then (0:Int) else (n:Int) - 30)=(f:Int):=by split<;>omega
   have HHN:=Z2 hHn
   have HHL:=Z2 hHl
   have hnlt:¬(j:Int)<(l.length:Int):=by omega
   have HNG:=Z2 hn
   clear HTJ HVJ hst hH hHn hHl hlt hjl hGj hle hf hn
   have hread:∀m,m<=n->∃km,H[m]?=some km:=fun m hm=>⟨_,List.getElem?_eq_getElem (by rw[HHL.out];omega)⟩
   have HRD:=Z2 hread
   clear hread
   by_cases h30:(n:Int) - 30<0
   ·have hf0:f=0:=by have:=hff;rw[if_pos h30] at this;omega
    subst hf0
    clear hff
    go_wp2_with fail
    go_loopw [17] (fun i wx=>∃(m:Nat) (km:Kp) (F:Nat->Prop),0<=m/\m<=n/\i=.int .i64 ((m:Int) - 1)/\H[m]?=some km/\EH w.heap.size wx p (stJ H 0 m km) F/\(stJ H 0 m km).Good (b.size+64 * kopsZ (l.take j))/\Tws wx w.heap.size (.slice q1 (n+1) c1) (.slice q2 (n+1) c2) H/\Below w.heap.size w wx) (fun i _=>(intOf i+1).toNat)
    case atStart=>exact⟨n,k,F,hfn,Nat.le_refl _,by first|rfl|(congr 1;omega)|simp,HHN.out,HX.out,HGJ.out,HRJ.out,HB.out⟩
    case round =>
     clear HX HGJ HRJ HB hz
     obtain⟨m,km,Fm,hm1,hm2,rfl,hkm,hx,hg,hr,hb⟩:=hrel
     have hz:p<wr.heap.size:=hx.lt
     by_cases hmf:0<m
     ·obtain⟨m',rfl⟩:∃m',m=m'+1:=⟨m - 1,by omega⟩
      obtain⟨k',hk'⟩:=HRD.out m' (by omega)
      have hund:=und_at hkm hk' (show 0<=m' by omega)
      have P:=Z2 (eUnd w.heap.size p (stJ H 0 (m'+1) km) Fm _ wr hx hg)
      have hgu:=hg.und
      have e0:(stJ H 0 (m'+1) km).und=(0,stJ H 0 m' k'):=hund
      rw[e0] at P hgu
      simp only at P hgu
      have HX:=Z2 hx
      have HB:=Z2 hb
      have HR:=Z2 hr
      have HG2:=Z2 hgu
      have HK:=Z2 hk'
      have hmm:((m'+1:Nat):Int) - 1=(m':Int):=by omega
      have hge:(0:Int)<=(m':Int):=by omega
      rw[hmm]
      clear hx hb hr hg hgu hund e0 hkm hk' hmm
      go_wp2_with fail
      refine P.out.mono ?_
      rintro e w2 ⟨rfl,F2,hx2,t2⟩
      have hb2:=t2.below HB.out (fun i hi=>(HX.out.ty hi).1)
      have hr2:=HR.out.turn HX.out t2
      have S2:=Z2 (SV.out w2 p _ F2 _ hx2 HG2.out hMM hb2)
      have HX2:=Z2 hx2
      have HB2:=Z2 hb2
      have HR2:=Z2 hr2
      have hz2:=hx2.lt
      clear P hx2 t2 hb2 hr2 HX HB HR
      go_wp2_with fail
      refine S2.out.mono ?_
      rintro e w3 ⟨rfl,hb3⟩
      have hb3r:=HB2.out.trans (hb3.mono HB2.out.size)
      have T3:=Z2 (TX.out w3 p _ F2 _ (HX2.out.low hb3) HG2.out hMM hb3r)
      have HX3:=Z2 (HX2.out.low hb3)
      have HB3:=Z2 hb3r
      have HR3:=Z2 (HR2.out.low hb3)
      have hz3:=HX3.out.lt
      clear S2 hb3 hb3r HX2 HB2 HR2 hz2
      go_wp2_with fail
      refine T3.out.mono ?_
      rintro e w4 ⟨rfl,hb4⟩
      have HX4:=Z2 (HX3.out.low hb4)
      have HB4:=Z2 (HB3.out.trans (hb4.mono HB3.out.size))
      have hr4:=HR3.out.low hb4
      have HR4:=Z2 hr4
      obtain⟨g1,g2,hq1,hq2,w1c,w2c⟩:=hr4.at_ HK.out
      subst hq1 hq2
      change w4.cell? ⟨g1,m',none⟩=some (.string (bytesOf k'.enc k'.mark k'.body)) at w1c
      change w4.cell? ⟨g2,m',none⟩=some (.string (strOfNums (Vm.textL (Vm.atoms k'.enc k'.body.data.toList)))) at w2c
      have hzg1:=Z3 w1c
      have hzg2:=Z3 w2c
      have hmn:(m':Int)<(n:Int)+1:=by omega
      have hwm:IntKind.i64.wrap ((m':Int) - 1)=(m':Int) - 1:=by rw[IntKind.wrap_i64];omega
      clear T3 hb4 hr4 HX3 HB3 HR3 hz3
      unfold stJ
      simp only
      generalize bytesOf k'.enc k'.mark k'.body=sv at *
      generalize strOfNums (Vm.textL (Vm.atoms k'.enc k'.body.data.toList))=tv at *
      go_wp2_with fail
      refine⟨⟨m',k',F2,by omega,by omega,rfl,HK.out,HX4.out,HG2.out,HR4.out,HB4.out⟩,by simp [intOf]⟩
     ·obtain rfl:m=0:=by omega
      have hund:(stJ H 0 0 km).und=(8,stJ H 0 0 km):=und_end
      have P:=Z2 (eUnd w.heap.size p (stJ H 0 0 km) Fm _ wr hx hg)
      rw[hund] at P
      simp only at P
      have HX:=Z2 hx
      have HB:=Z2 hb
      have HR:=Z2 hr
      have HG2:=Z2 hg
      have HK:=Z2 hkm
      clear hx hb hr hg hund hkm
      go_wp2_with fail
      refine P.out.mono ?_
      rintro e w2 ⟨rfl,F2,hx2,t2⟩
      have HB2:=Z2 (t2.below HB.out (fun i hi=>(HX.out.ty hi).1))
      have HR2:=Z2 (HR.out.turn HX.out t2)
      have HX2:=Z2 hx2
      clear P hx2 t2 HX HB HR hz
      go_wp2_with fail
      go_loopw [21,22] (fun ev i wx=>∃(m:Nat) (km:Kp) (F:Nat->Prop) (ee:Int),0<=m/\m<=n/\ev=.int .i64 ee/\i=.int .i64 ((m:Int)+1)/\H[m]?=some km/\EH w.heap.size wx p (stJ H 0 m km) F/\(stJ H 0 m km).Good (b.size+64 * kopsZ (l.take j))/\Tws wx w.heap.size (.slice q1 (n+1) c1) (.slice q2 (n+1) c2) H/\Below w.heap.size w wx) (fun _ i _=>(n+1 - intOf i).toNat)
      case atStart=>exact⟨0,km,F2,8,Nat.le_refl _,by omega,rfl,by simp,HK.out,HX2.out,HG2.out,HR2.out,HB2.out⟩
      case round =>
       clear HX2 HG2 HR2 HB2 HK
       obtain⟨m,km,Fm,ee,hm1,hm2,rfl,rfl,hkm,hx,hg,hr,hb⟩:=hrel
       have hz:p<wr.heap.size:=hx.lt
       by_cases hmn:m<n
       ·obtain⟨k',hk'⟩:=HRD.out (m+1) (by omega)
        have e0:(stJ H 0 m km).red=(0,stJ H 0 (m+1) k'):=red_at hk' hkm (Nat.zero_le _)
        have P:=Z2 (eRed w.heap.size p (stJ H 0 m km) Fm _ wr hx hg)
        have hgu:=hg.red
        rw[e0] at P hgu
        simp only at P hgu
        have HX:=Z2 hx
        have HB:=Z2 hb
        have HR:=Z2 hr
        have HG2:=Z2 hgu
        have HK:=Z2 hk'
        have hle2:(m:Int)+1<=(n:Int):=by omega
        clear hx hb hr hg hgu e0 hkm hk'
        go_wp2_with fail
        refine P.out.mono ?_
        rintro e w2 ⟨rfl,F2,hx2,t2⟩
        have hb2:=t2.below HB.out (fun i hi=>(HX.out.ty hi).1)
        have hr2:=HR.out.turn HX.out t2
        have S2:=Z2 (SV.out w2 p _ F2 _ hx2 HG2.out hMM hb2)
        have HX2:=Z2 hx2
        have HB2:=Z2 hb2
        have HR2:=Z2 hr2
        have hz2:=hx2.lt
        clear P hx2 t2 hb2 hr2 HX HB HR
        go_wp2_with fail
        refine S2.out.mono ?_
        rintro e w3 ⟨rfl,hb3⟩
        have hb3r:=HB2.out.trans (hb3.mono HB2.out.size)
        have T3:=Z2 (TX.out w3 p _ F2 _ (HX2.out.low hb3) HG2.out hMM hb3r)
        have HX3:=Z2 (HX2.out.low hb3)
        have HB3:=Z2 hb3r
        have HR3:=Z2 (HR2.out.low hb3)
        have hz3:=HX3.out.lt
        clear S2 hb3 hb3r HX2 HB2 HR2 hz2
        go_wp2_with fail
        refine T3.out.mono ?_
        rintro e w4 ⟨rfl,hb4⟩
        have HX4:=Z2 (HX3.out.low hb4)
        have HB4:=Z2 (HB3.out.trans (hb4.mono HB3.out.size))
        have hr4:=HR3.out.low hb4
        have HR4:=Z2 hr4
        obtain⟨g1,g2,hq1,hq2,w1c,w2c⟩:=hr4.at_ HK.out
        subst hq1 hq2
        change w4.cell? ⟨g1,m+1,none⟩=some (.string (bytesOf k'.enc k'.mark k'.body)) at w1c
        change w4.cell? ⟨g2,m+1,none⟩=some (.string (strOfNums (Vm.textL (Vm.atoms k'.enc k'.body.data.toList)))) at w2c
        have hzg1:=Z3 w1c
        have hzg2:=Z3 w2c
        have hmn2:(m:Int)+1<(n:Int)+1:=by omega
        have hmt:((m:Int)+1).toNat=m+1:=by omega
        have hwm:IntKind.i64.wrap ((m:Int)+1+1)=(m:Int)+1+1:=by rw[IntKind.wrap_i64];omega
        clear T3 hb4 hr4 HX3 HB3 HR3 hz3
        unfold stJ
        simp only
        generalize bytesOf k'.enc k'.mark k'.body=sv at *
        generalize strOfNums (Vm.textL (Vm.atoms k'.enc k'.body.data.toList))=tv at *
        go_wp2_with fail
        refine⟨⟨m+1,k',F2,0,by omega,by omega,rfl,by simp,HK.out,HX4.out,HG2.out,HR4.out,HB4.out⟩,by simp [intOf];omega⟩
       ·obtain rfl:m=n:=by omega
        have e0:(stJ H 0 m km).red=(9,stJ H 0 m km):=red_end (by rw[HHL.out];exact Nat.le_refl _)
        have P:=Z2 (eRed w.heap.size p (stJ H 0 m km) Fm _ wr hx hg)
        rw[e0] at P
        simp only at P
        have HX:=Z2 hx
        have HB:=Z2 hb
        have hnle:¬(m:Int)+1<=(m:Int):=by omega
        clear hx hb hr hg e0 hkm
        go_wp2_with fail
        refine P.out.mono ?_
        rintro e w2 ⟨rfl,F2,hx2,t2⟩
        have HF:=Z2 (t2.below HB.out (fun i hi=>(HX.out.ty hi).1))
        clear P hx2 t2 HX HB
        go_wp2_with fail
        go_ret
        exact⟨rfl,HF.out⟩
   ·have hw2':IntKind.i64.wrap ((n:Int) - 30)=(f:Int):=by
     have:=hff
     rw[if_neg h30] at this
     rw[hw2];exact this
    have hf0:¬(f:Int)<0:=by omega
    have hwf:IntKind.i64.wrap ((f:Int)+1)=(f:Int)+1:=by rw[IntKind.wrap_i64];omega
    clear hff hw2 h30
    go_wp2_with fail
    go_loopw [17] (fun i wx=>∃(m:Nat) (km:Kp) (F:Nat->Prop),f<=m/\m<=n/\i=.int .i64 ((m:Int) - 1)/\H[m]?=some km/\EH w.heap.size wx p (stJ H f m km) F/\(stJ H f m km).Good (b.size+64 * kopsZ (l.take j))/\Tws wx w.heap.size (.slice q1 (n+1) c1) (.slice q2 (n+1) c2) H/\Below w.heap.size w wx) (fun i _=>(intOf i+1).toNat)
    case atStart=>exact⟨n,k,F,hfn,Nat.le_refl _,by first|rfl|(congr 1;omega)|simp,HHN.out,HX.out,HGJ.out,HRJ.out,HB.out⟩
    case round =>
     clear HX HGJ HRJ HB hz
     obtain⟨m,km,Fm,hm1,hm2,rfl,hkm,hx,hg,hr,hb⟩:=hrel
     have hz:p<wr.heap.size:=hx.lt
     by_cases hmf:f<m
     ·obtain⟨m',rfl⟩:∃m',m=m'+1:=⟨m - 1,by omega⟩
      obtain⟨k',hk'⟩:=HRD.out m' (by omega)
      have hund:=und_at hkm hk' (show f<=m' by omega)
      have P:=Z2 (eUnd w.heap.size p (stJ H f (m'+1) km) Fm _ wr hx hg)
      have hgu:=hg.und
      have e0:(stJ H f (m'+1) km).und=(0,stJ H f m' k'):=hund
      rw[e0] at P hgu
      simp only at P hgu
      have HX:=Z2 hx
      have HB:=Z2 hb
      have HR:=Z2 hr
      have HG2:=Z2 hgu
      have HK:=Z2 hk'
      have hmm:((m'+1:Nat):Int) - 1=(m':Int):=by omega
      have hge:(f:Int)<=(m':Int):=by omega
      rw[hmm]
      clear hx hb hr hg hgu hund e0 hkm hk' hmm
      go_wp2_with fail
      refine P.out.mono ?_
      rintro e w2 ⟨rfl,F2,hx2,t2⟩
      have hb2:=t2.below HB.out (fun i hi=>(HX.out.ty hi).1)
      have hr2:=HR.out.turn HX.out t2
      have S2:=Z2 (SV.out w2 p _ F2 _ hx2 HG2.out hMM hb2)
      have HX2:=Z2 hx2
      have HB2:=Z2 hb2
      have HR2:=Z2 hr2
      have hz2:=hx2.lt
      clear P hx2 t2 hb2 hr2 HX HB HR
      go_wp2_with fail
      refine S2.out.mono ?_
      rintro e w3 ⟨rfl,hb3⟩
      have hb3r:=HB2.out.trans (hb3.mono HB2.out.size)
      have T3:=Z2 (TX.out w3 p _ F2 _ (HX2.out.low hb3) HG2.out hMM hb3r)
      have HX3:=Z2 (HX2.out.low hb3)
      have HB3:=Z2 hb3r
      have HR3:=Z2 (HR2.out.low hb3)
      have hz3:=HX3.out.lt
      clear S2 hb3 hb3r HX2 HB2 HR2 hz2
      go_wp2_with fail
      refine T3.out.mono ?_
      rintro e w4 ⟨rfl,hb4⟩
      have HX4:=Z2 (HX3.out.low hb4)
      have HB4:=Z2 (HB3.out.trans (hb4.mono HB3.out.size))
      have hr4:=HR3.out.low hb4
      have HR4:=Z2 hr4
      obtain⟨g1,g2,hq1,hq2,w1c,w2c⟩:=hr4.at_ HK.out
      subst hq1 hq2
      change w4.cell? ⟨g1,m',none⟩=some (.string (bytesOf k'.enc k'.mark k'.body)) at w1c
      change w4.cell? ⟨g2,m',none⟩=some (.string (strOfNums (Vm.textL (Vm.atoms k'.enc k'.body.data.toList)))) at w2c
      have hzg1:=Z3 w1c
      have hzg2:=Z3 w2c
      have hmn:(m':Int)<(n:Int)+1:=by omega
      have hwm:IntKind.i64.wrap ((m':Int) - 1)=(m':Int) - 1:=by rw[IntKind.wrap_i64];omega
      clear T3 hb4 hr4 HX3 HB3 HR3 hz3
      unfold stJ
      simp only
      generalize bytesOf k'.enc k'.mark k'.body=sv at *
      generalize strOfNums (Vm.textL (Vm.atoms k'.enc k'.body.data.toList))=tv at *
      go_wp2_with fail
      refine⟨⟨m',k',F2,by omega,by omega,rfl,HK.out,HX4.out,HG2.out,HR4.out,HB4.out⟩,by simp [intOf]⟩
     ·obtain rfl:f=m:=by omega
      have hund:(stJ H f f km).und=(8,stJ H f f km):=und_end
      have P:=Z2 (eUnd w.heap.size p (stJ H f f km) Fm _ wr hx hg)
      rw[hund] at P
      simp only at P
      have HX:=Z2 hx
      have HB:=Z2 hb
      have HR:=Z2 hr
      have HG2:=Z2 hg
      have HK:=Z2 hkm
      clear hx hb hr hg hund hkm
      go_wp2_with fail
      refine P.out.mono ?_
      rintro e w2 ⟨rfl,F2,hx2,t2⟩
      have HB2:=Z2 (t2.below HB.out (fun i hi=>(HX.out.ty hi).1))
      have HR2:=Z2 (HR.out.turn HX.out t2)
      have HX2:=Z2 hx2
      clear P hx2 t2 HX HB HR hz
      go_wp2_with fail
      go_loopw [21,22] (fun ev i wx=>∃(m:Nat) (km:Kp) (F:Nat->Prop) (ee:Int),f<=m/\m<=n/\ev=.int .i64 ee/\i=.int .i64 ((m:Int)+1)/\H[m]?=some km/\EH w.heap.size wx p (stJ H f m km) F/\(stJ H f m km).Good (b.size+64 * kopsZ (l.take j))/\Tws wx w.heap.size (.slice q1 (n+1) c1) (.slice q2 (n+1) c2) H/\Below w.heap.size w wx) (fun _ i _=>(n+1 - intOf i).toNat)
      case atStart=>exact⟨f,km,F2,8,Nat.le_refl _,by omega,rfl,by first|rfl|simp,HK.out,HX2.out,HG2.out,HR2.out,HB2.out⟩
      case round =>
       clear HX2 HG2 HR2 HB2 HK
       obtain⟨m,km,Fm,ee,hm1,hm2,rfl,rfl,hkm,hx,hg,hr,hb⟩:=hrel
       have hz:p<wr.heap.size:=hx.lt
       by_cases hmn:m<n
       ·obtain⟨k',hk'⟩:=HRD.out (m+1) (by omega)
        have e0:(stJ H f m km).red=(0,stJ H f (m+1) k'):=red_at hk' hkm hm1
        have P:=Z2 (eRed w.heap.size p (stJ H f m km) Fm _ wr hx hg)
        have hgu:=hg.red
        rw[e0] at P hgu
        simp only at P hgu
        have HX:=Z2 hx
        have HB:=Z2 hb
        have HR:=Z2 hr
        have HG2:=Z2 hgu
        have HK:=Z2 hk'
        have hle2:(m:Int)+1<=(n:Int):=by omega
        clear hx hb hr hg hgu e0 hkm hk'
        go_wp2_with fail
        refine P.out.mono ?_
        rintro e w2 ⟨rfl,F2,hx2,t2⟩
        have hb2:=t2.below HB.out (fun i hi=>(HX.out.ty hi).1)
        have hr2:=HR.out.turn HX.out t2
        have S2:=Z2 (SV.out w2 p _ F2 _ hx2 HG2.out hMM hb2)
        have HX2:=Z2 hx2
        have HB2:=Z2 hb2
        have HR2:=Z2 hr2
        have hz2:=hx2.lt
        clear P hx2 t2 hb2 hr2 HX HB HR
        go_wp2_with fail
        refine S2.out.mono ?_
        rintro e w3 ⟨rfl,hb3⟩
        have hb3r:=HB2.out.trans (hb3.mono HB2.out.size)
        have T3:=Z2 (TX.out w3 p _ F2 _ (HX2.out.low hb3) HG2.out hMM hb3r)
        have HX3:=Z2 (HX2.out.low hb3)
        have HB3:=Z2 hb3r
        have HR3:=Z2 (HR2.out.low hb3)
        have hz3:=HX3.out.lt
        clear S2 hb3 hb3r HX2 HB2 HR2 hz2
        go_wp2_with fail
        refine T3.out.mono ?_
        rintro e w4 ⟨rfl,hb4⟩
        have HX4:=Z2 (HX3.out.low hb4)
        have HB4:=Z2 (HB3.out.trans (hb4.mono HB3.out.size))
        have hr4:=HR3.out.low hb4
        have HR4:=Z2 hr4
        obtain⟨g1,g2,hq1,hq2,w1c,w2c⟩:=hr4.at_ HK.out
        subst hq1 hq2
        change w4.cell? ⟨g1,m+1,none⟩=some (.string (bytesOf k'.enc k'.mark k'.body)) at w1c
        change w4.cell? ⟨g2,m+1,none⟩=some (.string (strOfNums (Vm.textL (Vm.atoms k'.enc k'.body.data.toList)))) at w2c
        have hzg1:=Z3 w1c
        have hzg2:=Z3 w2c
        have hmn2:(m:Int)+1<(n:Int)+1:=by omega
        have hmt:((m:Int)+1).toNat=m+1:=by omega
        have hwm:IntKind.i64.wrap ((m:Int)+1+1)=(m:Int)+1+1:=by rw[IntKind.wrap_i64];omega
        clear T3 hb4 hr4 HX3 HB3 HR3 hz3
        unfold stJ
        simp only
        generalize bytesOf k'.enc k'.mark k'.body=sv at *
        generalize strOfNums (Vm.textL (Vm.atoms k'.enc k'.body.data.toList))=tv at *
        go_wp2_with fail
        refine⟨⟨m+1,k',F2,0,by omega,by omega,rfl,by simp,HK.out,HX4.out,HG2.out,HR4.out,HB4.out⟩,by simp [intOf];omega⟩
       ·obtain rfl:m=n:=by omega
        have e0:(stJ H f m km).red=(9,stJ H f m km):=red_end (by rw[HHL.out];exact Nat.le_refl _)
        have P:=Z2 (eRed w.heap.size p (stJ H f m km) Fm _ wr hx hg)
        rw[e0] at P
        simp only at P
        have HX:=Z2 hx
        have HB:=Z2 hb
        have hnle:¬(m:Int)+1<=(m:Int):=by omega
        clear hx hb hr hg e0 hkm
        go_wp2_with fail
        refine P.out.mono ?_
        rintro e w2 ⟨rfl,F2,hx2,t2⟩
        have HF:=Z2 (t2.below HB.out (fun i hi=>(HX.out.ty hi).1))
        clear P hx2 t2 HX HB
        go_wp2_with fail
        go_ret
        exact⟨rfl,HF.out⟩
end Go.Proofs.YtoejbngihecafaaGreatDoor
