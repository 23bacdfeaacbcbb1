import Derived.Shelf.Unicode.ValidAny
import Derived.Test.YtoejbngihecafaaGreatDoorProg
import Derived.Test.YtoejbngihecafaaGreatDoorC36
import Derived.Test.YtoejbngihecafaaGreatDoorC24
import Derived.Test.YtoejbngihecafaaGreatDoorC0
set_option maxRecDepth 100000
set_option maxHeartbeats 1000000
open Go.Proofs.Tryz
namespace Go.Proofs.YtoejbngihecafaaGreatDoor
open Go.Shelf Go.RowKit Go.Proofs
variable {w w':World} {enc:Int}
def ren3:Go.Shelf.Ren:=⟨fun|196=>63|259=>94|n=>n,fun|0=>0|3=>3|4=>4|5=>5|9=>9|12=>12|46=>156|53=>196|119=>158|138=>160|139=>161|n=>n,fun|3=>0|4=>1|n=>n⟩
theorem lays196 :Go.Proofs.Lays.n196 prog ren3:={
 mixed:=by kernel_rfl
 f196:=func63.trans (congrArg some (by kernel_rfl))
 f259:=func94.trans (congrArg some (by kernel_rfl))
 t0:=underlying0
 a0:=Tryz.isAgg0
 z0:=Tryz.sizeOf0
 v0:=Tryz.zeroValue0
 t3:=underlying3
 a3:=Tryz.isAgg3
 z3:=Tryz.sizeOf3
 v3:=Tryz.zeroValue3
 t4:=underlying4
 a4:=Tryz.isAgg4
 z4:=Tryz.sizeOf4
 v4:=Tryz.zeroValue4
 t5:=underlying5
 a5:=Tryz.isAgg5
 z5:=Tryz.sizeOf5
 v5:=Tryz.zeroValue5
 t9:=underlying9
 a9:=Tryz.isAgg9
 z9:=Tryz.sizeOf9
 v9:=Tryz.zeroValue9
 t12:=underlying12
 a12:=Tryz.isAgg12
 z12:=Tryz.sizeOf12
 v12:=Tryz.zeroValue12
 t46:=underlying156
 a46:=Tryz.isAgg156
 z46:=Tryz.sizeOf156
 v46:=Tryz.zeroValue156
 t53:=underlying196
 a53:=Tryz.isAgg196
 z53:=Tryz.sizeOf196
 v53:=Tryz.zeroValue196
 t119:=underlying158
 a119:=Tryz.isAgg158
 z119:=Tryz.sizeOf158
 t138:=underlying160
 a138:=Tryz.isAgg160
 z138:=Tryz.sizeOf160
 v138:=Tryz.zeroValue160
 t139:=underlying161
 a139:=Tryz.isAgg161
 z139:=Tryz.sizeOf161
 v139:=Tryz.zeroValue161
 g3:=by kernel_rfl
 g4:=by kernel_rfl }
def TabU8 (w:World):Prop:=Lib.Utf8Tabs 0 1 w
theorem Qmg (s:ByteArray) (w:World) (hs:s.size<=1099511627776) (ht:TabU8 w) :
  Calls prog 63 #[.string s] w fun e w'=>e=.returned (.bool (!((Vm.atoms 0 s.data.toList).any (fun x=>x.1==4))))/\Below w.heap.size w w':=by
 rw[<-Vm.QfL]
 exact Any.utf8_ValidString lays196 s w (by omega) ht
open Go.RowKit
structure TabA (w:World):Prop where
 tw:TabW w
 u8:TabU8 w
theorem TabU8.below (h:TabU8 w) (hb:Below w.heap.size w w'):TabU8 w':=by
 have z1:=Z3 (h.1 0 (by decide));have z2:=Z3 (h.2 0 (by decide)).1;exact⟨fun c hc=>(hb.cell (p:=⟨_,c,none⟩) z1).trans (h.1 c hc),fun i hi=>⟨(hb.cell (p:=⟨_,2 * i,none⟩) z2).trans (h.2 i hi).1,(hb.cell (p:=⟨_,2 * i+1,none⟩) z2).trans (h.2 i hi).2⟩⟩
theorem TabA.below (h:TabA w) (hb:Below w.heap.size w w'):TabA w':=⟨h.tw.below hb,h.u8.below hb⟩
theorem DocH.at_ {B:Nat} {p:Nat} {x:He} {O U:List He} {dn un:Value} (h:DocH B w p x O U dn un) :
  w.cell? ⟨p,0,none⟩=some (.int .i64 x.k.enc)/\w.cell? ⟨p,1,none⟩=some (.bool x.k.mark)/\w.cell? ⟨p,2,none⟩=some (trv x.n)/\w.cell? ⟨p,3,none⟩=some (.string x.tail) :=
 ⟨by rw[Lib.cell_of_heap h.blk];rfl,by rw[Lib.cell_of_heap h.blk];rfl,by rw[Lib.cell_of_heap h.blk];rfl,by rw[Lib.cell_of_heap h.blk];rfl⟩
def rplE (k:Kp) (f t:Int) (text:ByteArray):Int :=
 if (strV k.A f t).2.2≠0 then (strV k.A f t).2.2 else if (Vm.atoms 0 text.data.toList).any (fun x=>x.1==4) then 4 else if k.enc=3/\(Vm.atoms 0 text.data.toList).any (fun x=>decide (255<x.2.1))=true then 5 else 0
def rplK (k:Kp) (f t:Int) (text:ByteArray):Kp:=replK k (Vm.plK k.A f) (Vm.plK k.A t) (Vm.nb (Vm.typL k.enc (Vm.endingOf (Vm.cntK k.A 0) (Vm.cntK k.A 1) (Vm.cntK k.A 2)) (Vm.atoms 0 text.data.toList)))
theorem Ql5 {l:Vm.Bytes} (hv:(Vm.atoms 0 l).any (fun x=>x.1==4)=false):(Vm.signs 0 l).all (fun x=>decide (x.1<=Vm.great enc))=!(decide (enc=3)&&(Vm.atoms 0 l).any (fun x=>decide (255<x.2.1))):=by
 by_cases h:enc=3
 ·have e:Vm.great enc=255:=by unfold Vm.great;rw[if_pos h]
  rw[e,decide_eq_true h,Bool.true_and,Vm.QbC (by decide) (by decide) l];have hok:=Vm.Qao 0 l;have hsh:=Vm.QcN (by decide) (by decide) l (enc:=0);generalize Vm.atoms 0 l=A at *
  induction A with
  |nil=>rfl
  |cons x A ih =>
   rw[List.any_cons,Bool.or_eq_false_iff] at hv;have ih':=ih hv.2 (fun a ha=>hok a (by simp [ha])) (fun a ha=>hsh a (by simp [ha]));rw[List.flatMap_cons,List.all_append,ih',List.any_cons,Bool.not_or];congr 1;rcases hsh x (by simp) with rfl|rfl|rfl|⟨q1,q2,q3,q4⟩|⟨q1,q2⟩
   ·rfl
   ·rfl
   ·rfl
   ·rw[Vm.Qjx q1];simp only[List.all_cons,List.all_nil,Bool.and_true];by_cases g:x.2.1<=255
    ·rw[decide_eq_true g,decide_eq_false (by omega)];rfl
    rw[decide_eq_false g,decide_eq_true (by omega)];rfl
   have:=hv.1;rw[q1] at this;cases this
 have e:Vm.great enc=1114111:=by unfold Vm.great;rw[if_neg h]
 rw[e,decide_eq_false h,Bool.false_and];show _=true;rw[List.all_eq_true];intro x hx;have:=Vm.QfX 0 l.length l x hx;simpa using this.2
theorem QiT {A:List Vm.At} {f t:Int} (h:(strV A f t).2.2=0):strV A f t=((Vm.sizeA (A.take (Vm.plK A f)):Int),(Vm.sizeA (A.take (Vm.plK A t)):Int),0)/\True/\Vm.plK A f<=Vm.plK A t:=by
 unfold strV at h ⊢;by_cases g:f<0\/t<f\/(Vm.bytesA A:Int)<t
 ·rw[if_pos g] at h;cases h
 rw[if_neg g] at h ⊢
 have pv:∀o,(plV A o).2=0->plV A o=(cnOf (A.take (Vm.plK A o)),0):=by
  intro o ho;unfold plV at ho ⊢;split at ho
  ·cases ho
  rename_i q1;split at ho
  ·cases ho
  rename_i q2;rw[if_neg q1,if_neg q2]
 by_cases g2:(plV A f).2≠0
 ·rw[if_pos g2] at h;exact absurd h g2
 rw[if_neg g2] at h ⊢;have e1:=pv f (by simpa using g2);have e2:=pv t h;refine⟨by rw[e1,e2];rfl,trivial,?_⟩;obtain⟨a1,a2,a3⟩:=Vm.Qc7 A f (by omega);obtain⟨b1,b2,b3⟩:=Vm.Qc7 A t (by omega);rcases Nat.lt_or_ge (Vm.plK A t) (Vm.plK A f) with q|q
 ·have h1:=b3 (by omega);have h2:=Vm.QbB A (Vm.plK A t+1) (Vm.plK A f) q;omega
 exact q
theorem docReplace (B p:Nat) (x:He) (O U:List He) (dn un:Value) (f t:Int) (text:ByteArray) (w:World) (ht:TabA w) (h:DocH B w p x O U dn un) (hO:O.length<=30) (hs:x.k.body.size+8 * text.size<=274877906944) :
  Calls prog 29 #[.pointer (some ⟨p,0,none⟩),.int .i64 f,.int .i64 t,.string text] w fun e w'=>∃x' O' U' dn' un',e=.returned (.int .i64 (rplE x.k f t text))/\DocH B w' p x' O' U' dn' un'/\Dr p dn un dn' un' w w' /\
   (rplE x.k f t text=0->x'.k=rplK x.k f t text/\O'=pushO O x/\U'=[])/\(rplE x.k f t text≠0->x'=x/\O'=O/\U'=U):=by
 have hx:x.Ok w:=h.ok x (by simp)
 have h0:=hx.h0
 have h3:=hx.h3
 have hlens:=hx.lens
 obtain⟨c0,c1,c2,c3⟩:=h.at_
 have hz:=Z3 c0
 have HS:=Z1 (Qjo x.k.enc x.k.mark x.n x.R x.tail f t w ht.tw.tabs hx.tr h0 h3 (by omega))
 rw[<-hx.atoms] at HS
 have HT:=Z1 ht
 have HH:=Z1 h
 obtain⟨V,hV⟩:∃V,V=strV x.k.A f t:=⟨_,rfl⟩
 rw[<-hV] at HS
 obtain⟨E,hE⟩:∃E,E=rplE x.k f t text:=⟨_,rfl⟩
 rw[<-hE]
 have hE':=hE
 unfold rplE at hE'
 rw[<-hV] at hE'
 have HV:=Z1 hV
 have HE:=Z1 hE'
 clear ht h hx hV hE hE'
 obtain⟨v1,v2,v3⟩:=V
 simp only at HS HE
 go_enter func29,ntmps29
 go_wp2_with fail
 refine HS.o.mono ?_
 rintro e w1 ⟨rfl,hb1⟩
 have H1:=Z1 (HH.o.low hb1)
 have HD1:=Z1 (Dr.of_below (p:=p) (dn:=dn) (un:=un) hb1)
 have HT1:=Z1 (HT.o.below hb1)
 by_cases hv3:v3=0
 ·subst hv3;rw[if_neg (by simp)] at HE;obtain⟨s1,s2,s3⟩:=QiT (A:=x.k.A) (f:=f) (t:=t) (by rw[<-HV.o]);rw[<-HV.o] at s1;injection s1 with s1 s4
  injection s4 with s4 _
  subst s1 s4;have HVA:=Z1 (fun X (h:TabA X)=>Qmg text X (by omega) h.u8);clear c0 c1 c2 c3 hz hb1 HS;obtain⟨c0,c1,c2,c3⟩:=H1.o.at_;have hz:=Z3 c0;cases hesc:(Vm.atoms 0 text.data.toList).any (fun x=>x.1==4) with
  |true =>
   rw[hesc] at HVA HE;have HE2:=Z1 (show E=4 by have:=HE.o;rwa [if_pos rfl] at this);clear HE;go_wp2_with fail;refine (HVA.o _ HT1.o).mono ?_;rintro e w2 ⟨rfl,hb2⟩;have H2:=Z1 (H1.o.low hb2);have HD2:=Z1 (HD1.o.trans (Dr.of_below hb2));clear hb2 HVA;go_wp2_with fail;go_ret;exact⟨x,O,U,dn,un,by rw[HE2.o];rfl,H2.o,HD2.o,fun q=>absurd (HE2.o.symm.trans q) (by decide),fun _=>⟨rfl,rfl,rfl⟩⟩
  |false =>
   have hsv:(Vm.signs 0 text.data.toList).all (fun x=>x.1 != -1)=true:=by
    have:=Vm.QfL text.data.toList;rw[Vm.QgE,hesc] at this;exact this
   have HAL:=Z1 (fun X (h:TabA X)=>Qkt x.k.enc text X h.tw.tabs.enc h0 h3 hsv);rw[Ql5 hesc] at HAL;rw[hesc] at HVA HE;rw[if_neg (by decide)] at HE;go_wp2_with fail;refine (HVA.o _ HT1.o).mono ?_;rintro e w2 ⟨rfl,hb2⟩;have H2:=Z1 (H1.o.low hb2);have HD2:=Z1 (HD1.o.trans (Dr.of_below hb2));have HT2:=Z1 (HT1.o.below hb2);clear c0 c1 c2 c3 hz hb2 HVA H1 HD1;obtain⟨c0,c1,c2,c3⟩:=H2.o.at_;have hz:=Z3 c0;cases hlat:(decide (x.k.enc=3)&&(Vm.atoms 0 text.data.toList).any (fun x=>decide (255<x.2.1))) with
   |true =>
    rw[hlat] at HAL
    have HE2:=Z1 (show E=5 by
     have:=HE.o;rw[Bool.and_eq_true,decide_eq_true_eq] at hlat
     rwa [if_pos hlat] at this)
    clear HE;go_wp2_with fail;refine (HAL.o _ HT2.o).mono ?_;rintro e w3 ⟨rfl,hb3⟩;have H3:=Z1 (H2.o.low hb3);have HD3:=Z1 (HD2.o.trans (Dr.of_below hb3));clear hb3 HAL;go_wp2_with fail;go_ret;exact⟨x,O,U,dn,un,by rw[HE2.o];rfl,H3.o,HD3.o,fun q=>absurd (HE2.o.symm.trans q) (by decide),fun _=>⟨rfl,rfl,rfl⟩⟩
   |false =>
    rw[hlat] at HAL
    have HE2:=Z1 (show E=0 by
     have:=HE.o;rw[Bool.and_eq_false_iff] at hlat
     rwa [if_neg (by
      rintro ⟨q1,q2⟩;rcases hlat with q|q
      ·rw[decide_eq_true q1] at q;cases q
      rw[q2] at q;cases q)] at this)
    clear HE;go_wp2_with fail;refine (HAL.o _ HT2.o).mono ?_;rintro e w3 ⟨rfl,hb3⟩;have H3:=Z1 (H2.o.low hb3);have HD3:=Z1 (HD2.o.trans (Dr.of_below hb3));have HT3:=Z1 (HT2.o.below hb3);clear c0 c1 c2 c3 hz hb3 HAL H2 HD2 HT2 HT1 HT HH;obtain⟨c0,c1,c2,c3⟩:=H3.o.at_;have hz:=Z3 c0;have HRP:=Z1 (QhA x.k x.n x.R x.tail (Vm.plK x.k.A f) (Vm.plK x.k.A t) text w3.drew (HT3.o.tw.below (Below.refl _ _).drew) ((H3.o.low (Below.refl _ _).drew).ok x (by simp)) s3 hsv hs);have hkk:replK x.k (Vm.plK x.k.A f) (Vm.plK x.k.A t) (Vm.nb (Vm.typL x.k.enc (Vm.endingOf (Vm.cntK x.k.A 0) (Vm.cntK x.k.A 1) (Vm.cntK x.k.A 2)) (Vm.atoms 0 text.data.toList)))=rplK x.k f t text:=rfl;rw[hkk] at HRP;generalize hkr:rplK x.k f t text=kr at *;generalize Vm.sizeA (x.k.A.take (Vm.plK x.k.A f))=va at *;generalize Vm.sizeA (x.k.A.take (Vm.plK x.k.A t))=vb at *;have HKR:=Z1 hkr;clear hkk hkr s2 s3 hlens hsv hesc hlat HV;unfold ctv at HRP;go_wp2_with fail
    go_region_with
     (first
      |(have _hq:=hc4;go_at_call 65;refine (Qch B p x ⟨kr,n4,R4,x.tail⟩ O U dn un _ (H3.o.low (((Below.refl _ _).drew).trans hb4)) hc4 hO).mono ?_;rintro e w5 ⟨dn5,rfl,hd5,hr5⟩)
      |(go_at_call 66;refine HRP.o.mono ?_;rintro e w4 ⟨n4,R4,rfl,hc4,hb4⟩)
      |fail)
    all_goals
     have HX5:=Z1 hd5;have HR5:=Z1 (HD3.o.trans ((Dr.of_below (((Below.refl _ _).drew).trans hb4)).trans hr5));clear hd5 hr5 hc4 hb4 HRP H3 HD3 HT3 c0 c1 c2 c3 hz;go_wp2_with fail;go_ret;exact⟨⟨kr,n4,R4,x.tail⟩,pushO O x,[],dn5,.slice none 0 0,by rw[HE2.o];rfl,HX5.o,HR5.o,fun _=>⟨HKR.o.symm,rfl,rfl⟩,fun q=>absurd HE2.o q⟩
 have hvb:(v3==0)=false:=by simpa using hv3
 have HE2:=Z1 (show E=v3 by have:=HE.o;rwa [if_pos (by simpa using hv3)] at this)
 clear HE
 go_wp2_with fail
 go_ret
 exact⟨x,O,U,dn,un,by rw[HE2.o];rfl,H1.o,HD1.o,fun q=>absurd (HE2.o.symm.trans q) hv3,fun _=>⟨rfl,rfl,rfl⟩⟩
def mkE (k:Kp) (on:Bool):Int:=if on=true/\k.enc=3 then 6 else 0
theorem Qj8 (h0:0<=enc) (h3:enc<=3):(markB enc).toList.isEmpty=decide (enc=3):=by
 rw[ByteArray.toList_eq];have hc:enc=0\/enc=1\/enc=2\/enc=3:=by omega
 rcases hc with rfl|rfl|rfl|rfl<;>decide
theorem docSetMark (B p:Nat) (x:He) (O U:List He) (dn un:Value) (on:Bool) (w:World) (ht:TabA w) (h:DocH B w p x O U dn un) (hO:O.length<=30) (hs:x.k.body.size<=274877906944) :
  Calls prog 68 #[.pointer (some ⟨p,0,none⟩),.bool on] w fun e w'=>∃x' O' U' dn' un',e=.returned (.int .i64 (mkE x.k on))/\DocH B w' p x' O' U' dn' un'/\Dr p dn un dn' un' w w' /\
   (mkE x.k on=0->x'.k=markK x.k on/\O'=pushO O x/\U'=[])/\(mkE x.k on≠0->x'=x/\O'=O/\U'=U):=by
 have hx:x.Ok w:=h.ok x (by simp)
 have h0:=hx.h0
 have h3:=hx.h3
 have hme:=Qj8 h0 h3
 obtain⟨E,hE⟩:∃E,E=mkE x.k on:=⟨_,rfl⟩
 rw[<-hE]
 unfold mkE at hE
 have HE:=Z1 hE
 have HT:=Z1 ht
 have HH:=Z1 h
 have HM:=Z1 (QbL x.k.enc w ht.tw.tabs.enc h0 h3)
 obtain⟨c0,c1,c2,c3⟩:=h.at_
 have hz:=Z3 c0
 clear ht h hx hE
 cases on with
 |false =>
  have HE2:=Z1 (show E=0 by have:=HE.o;rwa [if_neg (by simp)] at this);have HRP:=Z1 (Qgx x.k x.n x.R x.tail false w.drew (HT.o.tw.tabs.below (Below.refl _ _).drew) ((HH.o.low (Below.refl _ _).drew).ok x (by simp)) hs);generalize hkr:markK x.k false=kr at *;have HKR:=Z1 hkr;clear hkr HM HE hme;unfold ctv at HRP;go_enter func68,ntmps68;have H3:=Z1 HH.o;have HD3:=Z1 (Dr.refl p dn un w);clear HH HT;go_wp2_with fail
  go_region_with
   (first
    |(have _hq:=hc4;go_at_call 65;refine (Qch B p x ⟨kr,n4,R4,x.tail⟩ O U dn un _ (H3.o.low (((Below.refl _ _).drew).trans hb4)) hc4 hO).mono ?_;rintro e w5 ⟨dn5,rfl,hd5,hr5⟩)
    |(go_at_call 104;refine HRP.o.mono ?_;rintro e w4 ⟨n4,R4,rfl,hc4,hb4⟩)
    |fail)
  all_goals
   have HX5:=Z1 hd5;have HR5:=Z1 (HD3.o.trans ((Dr.of_below (((Below.refl _ _).drew).trans hb4)).trans hr5));clear hd5 hr5 hc4 hb4 HRP H3 HD3 c0 c1 c2 c3 hz;go_wp2_with fail;go_ret;exact⟨⟨kr,n4,R4,x.tail⟩,pushO O x,[],dn5,.slice none 0 0,by rw[HE2.o];rfl,HX5.o,HR5.o,fun _=>⟨rfl,rfl,rfl⟩,fun q=>absurd HE2.o q⟩
 |true =>
  by_cases he3:x.k.enc=3
  ·have HE2:=Z1 (show E=6 by have:=HE.o;rwa [if_pos ⟨rfl,he3⟩] at this);rw[decide_eq_true he3] at hme;clear HE he3;go_enter func68,ntmps68;go_wp2_with fail;refine HM.o.mono ?_;rintro e w1 ⟨rfl,hb1⟩;have H1:=Z1 (HH.o.low hb1);have HD1:=Z1 (Dr.of_below (p:=p) (dn:=dn) (un:=un) hb1);clear hb1 HM HH;go_wp2_with fail;go_ret;exact⟨x,O,U,dn,un,by rw[HE2.o];rfl,H1.o,HD1.o,fun q=>absurd (HE2.o.symm.trans q) (by decide),fun _=>⟨rfl,rfl,rfl⟩⟩
  have HE2:=Z1 (show E=0 by have:=HE.o;rwa [if_neg (fun q=>he3 q.2)] at this);rw[decide_eq_false he3] at hme;clear HE;go_enter func68,ntmps68;go_wp2_with fail;refine HM.o.mono ?_;rintro e w1 ⟨rfl,hb1⟩;have H3:=Z1 (HH.o.low hb1);have HD3:=Z1 (Dr.of_below (p:=p) (dn:=dn) (un:=un) hb1);have HRP:=Z1 (Qgx x.k x.n x.R x.tail true w1.drew (HT.o.tw.tabs.below (hb1.drew)) ((H3.o.low (Below.refl _ _).drew).ok x (by simp)) hs);clear hb1 HM HH HT c0 c1 c2 c3 hz;obtain⟨c0,c1,c2,c3⟩:=H3.o.at_;have hz:=Z3 c0;generalize hkr:markK x.k true=kr at *;have HKR:=Z1 hkr;clear hkr;unfold ctv at HRP;go_wp2_with fail
  go_region_with
   (first
    |(have _hq:=hc4;go_at_call 65;refine (Qch B p x ⟨kr,n4,R4,x.tail⟩ O U dn un _ (H3.o.low (((Below.refl _ _).drew).trans hb4)) hc4 hO).mono ?_;rintro e w5 ⟨dn5,rfl,hd5,hr5⟩)
    |(go_at_call 104;refine HRP.o.mono ?_;rintro e w4 ⟨n4,R4,rfl,hc4,hb4⟩)
    |fail)
  all_goals
   have HX5:=Z1 hd5;have HR5:=Z1 (HD3.o.trans ((Dr.of_below (((Below.refl _ _).drew).trans hb4)).trans hr5));clear hd5 hr5 hc4 hb4 HRP H3 HD3 c0 c1 c2 c3 hz;go_wp2_with fail;go_ret;exact⟨⟨kr,n4,R4,x.tail⟩,pushO O x,[],dn5,.slice none 0 0,by rw[HE2.o];rfl,HX5.o,HR5.o,fun _=>⟨HKR.o.symm,rfl,rfl⟩,fun q=>absurd HE2.o q⟩
end Go.Proofs.YtoejbngihecafaaGreatDoor
