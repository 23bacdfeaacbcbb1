import Derived.Deep.CutRange
import Derived.Test.YtoejbngihecafaaGreatDoorC30
import Derived.Test.YtoejbngihecafaaGreatDoorC24
import Derived.Test.YtoejbngihecafaaGreatDoorC23
import Derived.Test.YtoejbngihecafaaGreatDoorC29
import Derived.Test.YtoejbngihecafaaGreatDoorC19
import Derived.Test.YtoejbngihecafaaGreatDoorC0
set_option maxRecDepth 100000
set_option maxHeartbeats 2000000
open Go.Proofs.Tryz
namespace Go.Proofs.YtoejbngihecafaaGreatDoor
open Go.RowKit
variable {X W w:World} {b d Bl Br:Nat} {v:Value} {enc:Int} {R:List (Cn × ByteArray)}
def Brs (W w:World):Prop:=Below W.heap.size W w
section
variable {W w w':World} {r:Nat} {v:Value}
theorem QlC (H:w.cell? ⟨r,0,none⟩=some v/\Brs W w):w.drew.cell? ⟨r,0,none⟩=some v/\Brs W w.drew:=⟨H.1,Below.drew H.2⟩
theorem QmT (H:w.cell? ⟨r,0,none⟩=some v/\Brs W w) (o:Obj):(w.alloc o).cell? ⟨r,0,none⟩=some v/\Brs W (w.alloc o) :=
 ⟨((Z7 w o).cell (p:=⟨r,0,none⟩) (Z3 H.1)).trans H.1,Below.alloc H.2 (Below.size H.2) o⟩
theorem Qk9 (H:w.cell? ⟨r,0,none⟩=some v/\Brs W w) (hb:Below w.heap.size w w'):w'.cell? ⟨r,0,none⟩=some v/\Brs W w' :=
 ⟨(hb.cell (p:=⟨r,0,none⟩) (Z3 H.1)).trans H.1,Below.trans H.2 (hb.mono (Below.size H.2))⟩
end
structure NB (X:World) (b:Nat) (v:Value):Prop where
 c:X.cell? ⟨b,0,none⟩=some v
 f:X.frozen? ⟨b,0,none⟩=false
 t:tyAt X b=some 89
theorem NB.new (X:World) (v:Value):NB (X.alloc (.cells #[v] 89)) X.heap.size v:=by
 have h:(X.alloc (.cells #[v] 89)).heap[X.heap.size]?=some (.cells #[v] 89):=Go.Deep.blk_alloc_new _ _;exact⟨by rw[Lib.cell_of_heap h];rfl,Lib.frozen_of_heap h 0,by unfold tyAt;rw[h]⟩
theorem NB.low {X':World} (h:NB X b v) (hb:Below X.heap.size X X'):NB X' b v :=
 have hz:=Z3 h.c
 ⟨(hb.cell (p:=⟨b,0,none⟩) hz).trans h.c,(hb.frozen (p:=⟨b,0,none⟩) hz).trans h.f,by rw[QdD hz hb];exact h.t⟩
theorem NB.al (h:NB X b v) (o:Obj):NB (X.alloc o) b v:=h.low (Z7 _ _)
theorem NB.dr (h:NB X b v):NB X.drew b v:=h.low (Below.refl _ _).drew
theorem NB.set (h:NB X b v) (u:Value):NB (X.setCell ⟨b,0,none⟩ u) b u :=
 ⟨World.cell?_setCell_same' _ _ _ (by rw[h.c];rfl),by rw[World.frozen?_setCell];exact h.f,by rw[Qb9];exact h.t⟩
theorem NB.oth (h:NB X b v) (u:Value) (hne:b≠d):NB (X.setCell ⟨d,0,none⟩ u) b v :=
 ⟨by rw[World.cell?_setCell_other _ _ _ _ (by intro e;injection e with e1 e2;exact hne e1.symm)];exact h.c,by rw[World.frozen?_setCell];exact h.f,by rw[Qb9];exact h.t⟩
theorem NB.nn (h:NB X b v):NoNd X b:=by unfold NoNd;rw[h.t];exact⟨by decide,by decide⟩
theorem NB.new1 (X:World) (o:Obj) (v:Value):NB ((X.alloc o).alloc (.cells #[v] 89)) (X.heap.size+1) v:=by
 have:=NB.new (X.alloc o) v;rwa [World.size_alloc] at this
theorem NB.newS (X:World) (p:Addr) (u v:Value):NB ((X.setCell p u).alloc (.cells #[v] 89)) X.heap.size v:=by
 have:=NB.new (X.setCell p u) v;have e:(X.setCell p u).heap.size=X.heap.size:=by simp [World.setCell]
 rwa [e] at this
theorem TrAt.al {t:Option Nd} (h:TrAt X enc t R) (o:Obj):TrAt (X.alloc o) enc t R:=h.low (Z7 _ _)
theorem TrAt.set {t:Option Nd} (h:TrAt X enc t R) (hn:NB X b v) (u:Value):TrAt (X.setCell ⟨b,0,none⟩ u) enc t R:=h.tn2 hn.nn ((Tn.refl _ _).setCell _)
theorem Qo5 {r:Nat} (H:w.cell? ⟨r,0,none⟩=some v/\Brs W w) (hb:W.heap.size<=b) (hr:r<W.heap.size) (u:Value):(w.setCell ⟨b,0,none⟩ u).cell? ⟨r,0,none⟩=some v/\Brs W (w.setCell ⟨b,0,none⟩ u) :=
 ⟨by rw[World.cell?_setCell_other _ _ _ _ (by intro e;injection e with e1 e2;omega)];exact H.1,Below.setCell (p:=⟨b,0,none⟩) H.2 hb u⟩
structure SpI (enc:Int) (n:Nd) (f g:Nat) (W:World) (Bl Br:Nat) (t1:Option Nd) (R1 Ra Rb1:List (Cn × ByteArray)) (t2:Option Nd) (R2 Ra2 Rb:List (Cn × ByteArray)) (wx:World):Prop where
 cl:wx.cell? ⟨Bl,0,none⟩=some (trv t1)
 cr:wx.cell? ⟨Br,0,none⟩=some (trv t2)
 bl:W.heap.size<=Bl
 br:W.heap.size<=Br
 tl:TrAt wx enc t1 R1
 tr:TrAt wx enc t2 R2
 row1:n.row=Ra++Rb1
 rb1:rowB R1=rowB Ra
 ra1:rowA enc R1=rowA enc Ra
 len1:R1.length<=Ra.length
 le1:(rowB Ra).length=0\/((rowB Ra).length:Int)<=(f:Int) - 500
 gd1:Gd n.row->Gd R1
 row2:n.row=Ra2++Rb
 rb2:rowB R2=rowB Rb
 ra2:rowA enc R2=rowA enc Rb
 len2:R2.length<=Rb.length
 le2:(rowB Rb).length=0\/(g:Int)+500<=((rowB Ra2).length:Int)
 gd2:Gd n.row->Gd R2
theorem QoS {v1 v2:Value} (H:w.cell? ⟨Bl,0,none⟩=some v1/\w.cell? ⟨Br,0,none⟩=some v2) (h1:Bl≠d) (h2:Br≠d) (u:Value):(w.setCell ⟨d,0,none⟩ u).cell? ⟨Bl,0,none⟩=some v1/\(w.setCell ⟨d,0,none⟩ u).cell? ⟨Br,0,none⟩=some v2 :=
 ⟨by rw[World.cell?_setCell_other _ _ _ _ (by intro e;injection e with e1 e2;exact h1 e1.symm)];exact H.1,by rw[World.cell?_setCell_other _ _ _ _ (by intro e;injection e with e1 e2;exact h2 e1.symm)];exact H.2⟩
theorem bgstring (B b:Nat) (l:List UInt8) (w:World) (h:Bg B b (Lib.byteCells l) w) (hBw:B<=w.heap.size) :
  Calls prog 90 #[.pointer (some ⟨b,0,none⟩)] w fun e w'=>e=.returned (.string ⟨l.toArray⟩)/\Below B w w' :=
 Any.Builder_String_any lays169 extraB B b l w h hBw
theorem QiL (h0:0<=enc) (h3:enc<=3) {n:Nd} {R1 Ra Rb1 R2 Ra2 Rb:List (Cn × ByteArray)} {f g:Nat} {t1 t2:Option Nd} {wx:World} {put:List UInt8} (hok:∀x∈R,LeafOk enc x) (hsp:SpI enc n f g W Bl Br t1 R1 Ra Rb1 t2 R2 Ra2 Rb wx) (hR:n.row=R) (hat:Vm.atoms enc (rowB R)=rowA enc R)
  (bf:∃A0,A0 <+: Vm.atoms enc (rowB R)/\Vm.sizeA A0=f) (bg:∃A0,A0 <+: Vm.atoms enc (rowB R)/\Vm.sizeA A0=g) (hfg:f<=g) (wp:Vm.Wh enc put) :
  ∃M:List UInt8,M=Vm.partL (rowB R) ((rowB R1).length:Int) (f:Int)++(put++Vm.partL (rowB R) (g:Int) (((rowB R).length:Int) - ((rowB R2).length:Int)))/\Vm.Wh enc M/\(rowB R).take f++(put++(rowB R).drop g)=rowB R1++(M++rowB R2)/\Vm.atoms enc ((rowB R).take f++(put++(rowB R).drop g))=rowA enc R1++(Vm.atoms enc M++rowA enc R2):=by
 have r1:=hsp.row1
 have r2:=hsp.row2
 rw[hR] at r1 r2
 have okA:∀x∈Ra,LeafOk enc x:=fun x hx=>hok x (by rw[r1];simp [hx])
 have okA2:∀x∈Ra2,LeafOk enc x:=fun x hx=>hok x (by rw[r2];simp [hx])
 have okB:∀x∈Rb,LeafOk enc x:=fun x hx=>hok x (by rw[r2];simp [hx])
 have e1:Vm.atoms enc (rowB R)=rowA enc Ra++rowA enc Rb1:=by rw[hat,r1,Qaw]
 have e2:Vm.atoms enc (rowB R)=rowA enc Ra2++rowA enc Rb:=by rw[hat,r2,Qaw]
 have sA:=Qae okA
 have sA2:=Qae okA2
 have sB:=Qae okB
 have q1:=hsp.le1
 have q2:=hsp.le2
 have key:=Vm.QkQ h0 h3 (put:=put) e1 e2 (by rw[hat];exact Qae hok) bf bg hfg wp (by omega) (by omega)
 obtain⟨k1,k2,k3,k4,k5,k6⟩:=key
 have lR:(rowB R).length=(rowB Ra2).length+(rowB Rb).length:=by rw[r2,Qaf,List.length_append]
 have hM:Vm.partL (rowB R) ((rowB R1).length:Int) (f:Int)++(put++Vm.partL (rowB R) (g:Int) (((rowB R).length:Int) - ((rowB R2).length:Int)))=((rowB R).take f).drop (Vm.sizeA (rowA enc Ra))++(put++((rowB R).take (Vm.sizeA (rowA enc Ra2))).drop g):=by
  unfold Vm.partL;rw[Int.toNat_natCast,Int.toNat_natCast,Int.toNat_natCast,hsp.rb1,hsp.rb2,sA,sA2];have:(((rowB R).length:Int) - ((rowB Rb).length:Int)).toNat=(rowB Ra2).length:=by omega
  rw[this]
 refine⟨_,rfl,by rw[hM];exact k4,?_,?_⟩
 ·rw[hM,k5]
  have t1':(rowB R).take (Vm.sizeA (rowA enc Ra))=rowB R1:=by
   rw[sA,hsp.rb1,r1,Qaf];exact List.take_left
  have t2':(rowB R).drop (Vm.sizeA (rowA enc Ra2))=rowB R2:=by
   rw[sA2,hsp.rb2];conv=>lhs;rw[r2,Qaf]
   exact List.drop_left
  rw[t1',t2']
 rw[hM,k6,hsp.ra1,hsp.ra2]
theorem TrAt.keptB {w':World} {t:Option Nd} (h:TrAt w enc t R) (hb:Below w.heap.size w w'):TrAt w' enc t R:=h.low hb
section
variable {wc w1 w2:World} {r Bl Br:Nat} {v1 v2 v3:Value}
theorem Qc0 (H:w1.cell? ⟨r,0,none⟩=some v1/\w1.cell? ⟨Bl,0,none⟩=some v2/\w1.cell? ⟨Br,0,none⟩=some v3/\Below wc.heap.size wc w1) (hb:Below w1.heap.size w1 w2):w2.cell? ⟨r,0,none⟩=some v1/\w2.cell? ⟨Bl,0,none⟩=some v2/\w2.cell? ⟨Br,0,none⟩=some v3/\Below wc.heap.size wc w2 :=
 ⟨(hb.cell (p:=⟨r,0,none⟩) (Z3 H.1)).trans H.1,(hb.cell (p:=⟨Bl,0,none⟩) (Z3 H.2.1)).trans H.2.1,(hb.cell (p:=⟨Br,0,none⟩) (Z3 H.2.2.1)).trans H.2.2.1,H.2.2.2.trans (hb.mono H.2.2.2.size)⟩
theorem Qi0 (H:w1.cell? ⟨r,0,none⟩=some v1/\w1.cell? ⟨Bl,0,none⟩=some v2/\w1.cell? ⟨Br,0,none⟩=some v3/\Below wc.heap.size wc w1):w1.drew.cell? ⟨r,0,none⟩=some v1/\w1.drew.cell? ⟨Bl,0,none⟩=some v2/\w1.drew.cell? ⟨Br,0,none⟩=some v3/\Below wc.heap.size wc w1.drew:=Qc0 H (Below.refl _ _).drew
theorem Qdj (H:w1.cell? ⟨r,0,none⟩=some v1/\w1.cell? ⟨Bl,0,none⟩=some v2/\w1.cell? ⟨Br,0,none⟩=some v3/\Below wc.heap.size wc w1):Below wc.heap.size wc w1:=H.2.2.2
theorem QgZ (H:w1.cell? ⟨r,0,none⟩=some v1/\w1.cell? ⟨Bl,0,none⟩=some v2/\w1.cell? ⟨Br,0,none⟩=some v3/\Below wc.heap.size wc w1) (hb:Below wc.heap.size w1 w2) (c:wc.cell? ⟨r,0,none⟩=some v1/\wc.cell? ⟨Bl,0,none⟩=some v2/\wc.cell? ⟨Br,0,none⟩=some v3):w2.cell? ⟨r,0,none⟩=some v1/\w2.cell? ⟨Bl,0,none⟩=some v2/\w2.cell? ⟨Br,0,none⟩=some v3/\Below wc.heap.size wc w2 :=
 have h:=H.2.2.2.trans hb
 ⟨(h.cell (p:=⟨r,0,none⟩) (Z3 c.1)).trans c.1,(h.cell (p:=⟨Bl,0,none⟩) (Z3 c.2.1)).trans c.2.1,(h.cell (p:=⟨Br,0,none⟩) (Z3 c.2.2)).trans c.2.2,h⟩
end
theorem Qiz (enc:Int) (n:Nd) (R:List (Cn × ByteArray)) (f g:Nat) (put:ByteArray) (w:World) (ht:Tabs w) (hr:TrAt w enc (some n) R) (h0:0<=enc) (h3:enc<=3) (hl:(rowB R).length+put.size<=549755813888) (hgd:Gd R) (hfg:f<=g) (hat:Vm.atoms enc (rowB R)=rowA enc R) (bf:∃A0,A0 <+: Vm.atoms enc (rowB R)/\Vm.sizeA A0=f) (bg:∃A0,A0 <+: Vm.atoms enc (rowB R)/\Vm.sizeA A0=g) (wp:Vm.Wh enc put.data.toList) :
  Calls prog 98 #[.agg #[.iface n.ty (.pointer (some ⟨n.blk,0,none⟩))],.int .i64 enc,.int .i64 f,.int .i64 g,.string put,.int .i64 1000] w fun e w'=>∃t' R',e=.returned (.agg #[trv t'])/\TrAt w' enc t' R'/\rowB R'=(rowB R).take f++(put.data.toList++(rowB R).drop g)/\rowA enc R'=Vm.atoms enc ((rowB R).take f++(put.data.toList++(rowB R).drop g))/\Gd R'/\Below w.heap.size w w':=by
 have hg:g<=(rowB R).length:=by obtain⟨A0,h1,h2⟩:=bg;have:=Vm.QaE h1;omega
 obtain⟨i1,i2,i3⟩:=hr.inn n rfl
 have hm1:=Qf2 n 362
 have hm2:=Qdq n 362
 have he1:=QfJ n
 have he2:=Qfi n
 have hrl:=Gd.len hgd
 have HU:=Z1 (fun W (hi:n.In W) o (a:-4611686018427387904<=o) (b:o<=4611686018427387904)=>Qg4 enc n i2 (by rw[i3];exact hr.ok) (by rw[i3];omega) (by rw[i3];omega) o W hi a b)
 have HH:=Z1 (fun W (hi:n.In W) o (a:-4611686018427387904<=o) (b:o<=4611686018427387904)=>Qep enc n i2 (by rw[i3];exact hr.ok) (by rw[i3];omega) (by rw[i3];omega) o W hi a b)
 have hmx:max (500:Int) 4=500:=by decide
 have hw1:IntKind.i64.wrap ((f:Int) - 500)=(f:Int) - 500:=by rw[IntKind.wrap_i64];omega
 have hw2:IntKind.i64.wrap ((g:Int)+500)=(g:Int)+500:=by rw[IntKind.wrap_i64];omega
 have HI1:=Z1 i1
 have HOK:=Z1 hr.ok
 have HT:=Z1 ht
 have HAT:=Z1 hat
 have HBF:=Z1 bf
 have HBG:=Z1 bg
 have HWP:=Z1 wp
 clear ht hat bf bg wp
 clear hr
 go_enter func98,ntmps98
 go_wp2_with fail
 have hw0:Below w.heap.size w ((w.alloc (.cells #[.iface n.ty (.pointer (some ⟨n.blk,0,none⟩))] 89)).alloc (.cells #[.nilIface] 89)):=(Z7 _ _).alloc (by simp) _
 have r0:((w.alloc (.cells #[.iface n.ty (.pointer (some ⟨n.blk,0,none⟩))] 89)).alloc (.cells #[.nilIface] 89)).cell? ⟨w.heap.size,0,none⟩=some (.iface n.ty (.pointer (some ⟨n.blk,0,none⟩))):=by simp [go_sem]
 generalize hW:((w.alloc (.cells #[.iface n.ty (.pointer (some ⟨n.blk,0,none⟩))] 89)).alloc (.cells #[.nilIface] 89))=W at *
 have HW0:=Z1 hw0
 have HWE:=Z1 hW
 have HS:=Z1 (show W.cell? ⟨w.heap.size,0,none⟩=some (.iface n.ty (.pointer (some ⟨n.blk,0,none⟩)))/\Brs W W from ⟨r0,Below.refl _ _⟩)
 have HIN:=Z1 (fun X (hX:Brs W X)=>Nd.low hX (Nd.low hw0 i1))
 have hSd:=QlC HS.o
 have hrz:=Z3 r0
 clear hw0 hW i1
 go_cut [14,15] from 27 to 38 (fun s14 s15 wx=>∃Bl Br,s14=.pointer (some ⟨Bl,0,none⟩)/\s15=.pointer (some ⟨Br,0,none⟩)/\Brs W wx/\∃t1 R1 Ra Rb1 t2 R2 Ra2 Rb,SpI enc n f g W Bl Br t1 R1 Ra Rb1 t2 R2 Ra2 Rb wx)
 case first =>
  go_region_held3 (fun w'=>w'.cell? ⟨w.heap.size,0,none⟩=some (.iface n.ty (.pointer (some ⟨n.blk,0,none⟩)))/\Brs W w')
   (first|with_reducible assumption|with_reducible exact HS.o|with_reducible exact hSd|(repeat' (first|with_reducible assumption|with_reducible exact HS.o|with_reducible refine QlC ?_|with_reducible refine QmT ?_ _|(with_reducible refine Qo5 ?_ ?_ hrz _;rotate_left;omega)))|fail)
   (first
    |(
     refine (HU.o _ (HIN.o _ (And.right (by assumption))) _ (by omega) (by omega)).mono ?_;rintro e w2 ⟨t1,R1,Ra,Rb1,rfl,htr1,hrow1,hrb1,hra1,hlen1,hle1,hgd1,hb1⟩;have hS2:=Qk9 (by assumption) hb1;have hst1:=fun (X:World) (a:Addr) (hc:X.cell? a=some .nilIface) (hf:X.frozen? a=false)=>Qaq t1 hc hf;have hz2:=Below.size hS2.2
     (try have y1:=NB.low (NB.dr (NB.new W .nilIface)) hb1);(try have y1:=NB.low (NB.dr (NB.al (NB.new W .nilIface) _)) hb1);(try (have y2:=NB.low (NB.dr (NB.new (W.alloc (.cells #[.nilIface] 89)) .nilIface)) hb1;rw[World.size_alloc] at y2));(try obtain⟨y1a,y1b,y1c⟩:=id y1);(try obtain⟨y2a,y2b,y2c⟩:=id y2);(try have p1:=Z3 y1a)
     (try have p2:=Z3 y2a))
    |(
     refine (HH.o _ (HIN.o _ (And.right (by assumption))) _ (by omega) (by omega)).mono ?_;rintro e w3 ⟨t2,R2,Ra2,Rb,rfl,htr2,hrow2,hrb2,hra2,hlen2,hle2,hgd2,hb2⟩;have hS3:=Qk9 (by assumption) hb2;have hst2:=fun (X:World) (a:Addr) (hc:X.cell? a=some .nilIface) (hf:X.frozen? a=false)=>Qaq t2 hc hf;have hz3:=Below.size hS3.2
     (try have z1:=NB.low y1 hb2);(try have z1:=NB.low (NB.al y1 _) hb2);(try have z1:=NB.low (NB.set y1 _) hb2);(try have z2:=NB.low y2 hb2);(try have z2:=NB.low (NB.al y2 _) hb2);(try have z2:=NB.low (NB.oth y2 _ (by omega)) hb2);(try have z3:=NB.low (NB.new w2 .nilIface) hb2);(try have z3:=NB.low (NB.new w2 (trv t1)) hb2);(try have z3:=NB.low (NB.al (NB.new w2 .nilIface) _) hb2);(try have z3:=NB.low (NB.al (NB.new w2 (trv t1)) _) hb2);(try (have z4:=NB.low (NB.new (w2.alloc (.cells #[.nilIface] 89)) .nilIface) hb2;rw[World.size_alloc] at z4));(try (have z4:=NB.low (NB.new (w2.alloc (.cells #[trv t1] 89)) .nilIface) hb2;rw[World.size_alloc] at z4));(try have T1:=TrAt.low htr1 hb2);(try have T1:=TrAt.low (TrAt.al htr1 _) hb2);(try have T1:=TrAt.low (TrAt.al (TrAt.al htr1 _) _) hb2);(try obtain⟨z1a,z1b,z1c⟩:=id z1);(try obtain⟨z2a,z2b,z2c⟩:=id z2);(try obtain⟨z3a,z3b,z3c⟩:=id z3);(try obtain⟨z4a,z4b,z4c⟩:=id z4);(try have q1:=Z3 z1a);(try have q2:=Z3 z2a);(try have q3:=Z3 z3a);(try have q4:=Z3 z4a);(try have e1:W.heap.size≠w2.heap.size:=by omega);(try have e2:W.heap.size≠w2.heap.size+1:=by omega);(try have e3:W.heap.size+1≠w2.heap.size:=by omega);(try have e4:W.heap.size+1≠w2.heap.size+1:=by omega);(try have e5:w2.heap.size≠W.heap.size:=by omega);(try have e6:w2.heap.size≠W.heap.size+1:=by omega);(try have e7:w2.heap.size+1≠W.heap.size:=by omega)
     (try have e8:w2.heap.size+1≠W.heap.size+1:=by omega))
    |fail)
  all_goals
   go_wp2_with fail;go_meet;refine⟨_,_,rfl,rfl,And.right (by assumption),t1,R1,Ra,Rb1,t2,R2,Ra2,Rb,NB.c (v:=trv t1) ?n1,NB.c (v:=trv t2) ?n2,?b1,?b2,?t1,?t2,hrow1,hrb1,hra1,hlen1,hle1,hgd1,hrow2,hrb2,hra2,hlen2,hle2,hgd2⟩
   case n1=>(first|exact NB.al (NB.new _ _) _|exact NB.new1 _ _ _|exact NB.newS _ _ _ _|exact NB.al (NB.set z1 _) _|exact NB.al (NB.set z2 _) _|exact NB.al (NB.set z3 _) _|exact NB.al (NB.set z4 _) _|exact NB.oth (NB.set z1 _) _ (by omega)|exact NB.oth (NB.set z2 _) _ (by omega)|exact NB.oth (NB.set z3 _) _ (by omega)|exact NB.oth (NB.set z4 _) _ (by omega)|exact NB.set (NB.oth z1 _ (by omega)) _|exact NB.set (NB.oth z2 _ (by omega)) _|exact NB.set (NB.oth z3 _ (by omega)) _|exact NB.set (NB.oth z4 _ (by omega)) _|fail)
   case n2=>(first|exact NB.al (NB.new _ _) _|exact NB.new1 _ _ _|exact NB.newS _ _ _ _|exact NB.al (NB.set z1 _) _|exact NB.al (NB.set z2 _) _|exact NB.al (NB.set z3 _) _|exact NB.al (NB.set z4 _) _|exact NB.oth (NB.set z1 _) _ (by omega)|exact NB.oth (NB.set z2 _) _ (by omega)|exact NB.oth (NB.set z3 _) _ (by omega)|exact NB.oth (NB.set z4 _) _ (by omega)|exact NB.set (NB.oth z1 _ (by omega)) _|exact NB.set (NB.oth z2 _ (by omega)) _|exact NB.set (NB.oth z3 _ (by omega)) _|exact NB.set (NB.oth z4 _ (by omega)) _|fail)
   case b1=>omega
   case b2=>omega
   case t1=>(first|exact TrAt.al (TrAt.al T1 _) _|exact TrAt.al (TrAt.set T1 z1 _) _|exact TrAt.al (TrAt.set T1 z2 _) _|exact TrAt.al (TrAt.set T1 z3 _) _|exact TrAt.al (TrAt.set T1 z4 _) _|exact TrAt.set (TrAt.set T1 z1 _) (NB.oth z2 _ (by omega)) _|exact TrAt.set (TrAt.set T1 z1 _) (NB.oth z3 _ (by omega)) _|exact TrAt.set (TrAt.set T1 z1 _) (NB.oth z4 _ (by omega)) _|exact TrAt.set (TrAt.set T1 z2 _) (NB.oth z1 _ (by omega)) _|exact TrAt.set (TrAt.set T1 z2 _) (NB.oth z3 _ (by omega)) _|exact TrAt.set (TrAt.set T1 z2 _) (NB.oth z4 _ (by omega)) _|exact TrAt.set (TrAt.set T1 z3 _) (NB.oth z1 _ (by omega)) _|exact TrAt.set (TrAt.set T1 z3 _) (NB.oth z2 _ (by omega)) _|exact TrAt.set (TrAt.set T1 z3 _) (NB.oth z4 _ (by omega)) _|exact TrAt.set (TrAt.set T1 z4 _) (NB.oth z1 _ (by omega)) _|exact TrAt.set (TrAt.set T1 z4 _) (NB.oth z2 _ (by omega)) _|exact TrAt.set (TrAt.set T1 z4 _) (NB.oth z3 _ (by omega)) _|fail)
   case t2=>(first|exact TrAt.al (TrAt.al htr2 _) _|exact TrAt.al (TrAt.set htr2 z1 _) _|exact TrAt.al (TrAt.set htr2 z2 _) _|exact TrAt.al (TrAt.set htr2 z3 _) _|exact TrAt.al (TrAt.set htr2 z4 _) _|exact TrAt.set (TrAt.set htr2 z1 _) (NB.oth z2 _ (by omega)) _|exact TrAt.set (TrAt.set htr2 z1 _) (NB.oth z3 _ (by omega)) _|exact TrAt.set (TrAt.set htr2 z1 _) (NB.oth z4 _ (by omega)) _|exact TrAt.set (TrAt.set htr2 z2 _) (NB.oth z1 _ (by omega)) _|exact TrAt.set (TrAt.set htr2 z2 _) (NB.oth z3 _ (by omega)) _|exact TrAt.set (TrAt.set htr2 z2 _) (NB.oth z4 _ (by omega)) _|exact TrAt.set (TrAt.set htr2 z3 _) (NB.oth z1 _ (by omega)) _|exact TrAt.set (TrAt.set htr2 z3 _) (NB.oth z2 _ (by omega)) _|exact TrAt.set (TrAt.set htr2 z3 _) (NB.oth z4 _ (by omega)) _|exact TrAt.set (TrAt.set htr2 z4 _) (NB.oth z1 _ (by omega)) _|exact TrAt.set (TrAt.set htr2 z4 _) (NB.oth z2 _ (by omega)) _|exact TrAt.set (TrAt.set htr2 z4 _) (NB.oth z3 _ (by omega)) _|fail)
 case rest =>
  obtain⟨Bl,Br,rfl,rfl,hbr,t1,R1,Ra,Rb1,t2,R2,Ra2,Rb,hsp⟩:=hcut;have c0:=(Below.cell (p:=⟨w.heap.size,0,none⟩) hbr hrz).trans r0;have c1:=hsp.cl;have c2:=hsp.cr;have z0:=Z3 c0;have z1:=Z3 c1;have z2:=Z3 c2;have HSP:=Z1 hsp;have hWz:W.heap.size=w.heap.size+2:=by rw[<-HWE.o];simp
  have hbl_ne:Bl≠w.heap.size+1:=by have:=hsp.bl;omega
  have hbr_ne:Br≠w.heap.size+1:=by have:=hsp.br;omega
  have HBR2:=Z1 (show Below W.heap.size W wc from hbr);have HIC:=Z1 (HIN.o wc hbr);have HBR:=Z1 (Below.trans HW0.o (Below.mono hbr (Below.size HW0.o)))
  have HTN:=Z1 (show TrAt wc enc (some n) R from by
   refine⟨fun m hm=>?_,fun h=>(by cases h),HOK.o⟩
   cases hm;exact⟨HIC.o,i2,i3⟩)
  have hl1:Vm.sizeA (rowA enc R1)=(rowB R1).length:=Qae hsp.tl.ok;have hl2:Vm.sizeA (rowA enc R2)=(rowB R2).length:=Qae hsp.tr.ok
  have hll:(rowB R1).length<=f:=by
   have h1:=hsp.le1;rw[hsp.rb1];omega
  have hl0:Vm.sizeA (rowA enc R)=(rowB R).length:=Qae HOK.o
  have hlr:(rowB R2).length+g<=(rowB R).length:=by
   have h1:=hsp.le2;have h2:=congrArg (fun z=>(rowB z).length) hsp.row2;simp only[Qaf,List.length_append] at h2;rw[i3] at h2;rw[hsp.rb2];omega
  have HPURE:=Z1 (show ∃M:List UInt8,M=Vm.partL (rowB R) ((rowB R1).length:Int) (f:Int)++(put.data.toList++Vm.partL (rowB R) (g:Int) (((rowB R).length:Int) - ((rowB R2).length:Int)))/\Vm.Wh enc M/\(rowB R).take f++(put.data.toList++(rowB R).drop g)=rowB R1++(M++rowB R2)/\Vm.atoms enc ((rowB R).take f++(put.data.toList++(rowB R).drop g))=rowA enc R1++(Vm.atoms enc M++rowA enc R2) from QiL h0 h3 HOK.o hsp i3 HAT.o HBF.o HBG.o hfg HWP.o);have hw3:IntKind.i64.wrap (((rowB R).length:Int) - ((rowB R2).length:Int))=((rowB R).length:Int) - ((rowB R2).length:Int):=by rw[IntKind.wrap_i64];omega
  clear hsp hbr HU HH HIN HS hSd hm1 hm2 he1 he2;have HC1:=Z1 (fun X (h:Below wc.heap.size wc X)=>(TrAt.keptB HSP.o.tl h).counts);have HC2:=Z1 (fun X (h:Below wc.heap.size wc X)=>(TrAt.keptB HSP.o.tr h).counts);have HC0:=Z1 (fun X (h:Below wc.heap.size wc X)=>(TrAt.keptB HTN.o h).counts);simp only[cnOf,Cn.val,QbF] at HC1 HC2 HC0;have HWR:=Z1 (fun X bs (F T:Int) (h:Below wc.heap.size wc X) (hg:Bg wc.heap.size wc.heap.size bs X) a b c d=>QiS wc.heap.size enc (some n) R wc.heap.size bs F T X (TrAt.keptB HTN.o h) (fun m hm=>(by cases hm;exact Nd.und HIC.o)) hg h.size a b c d);simp only[QbF] at HWR;have fb:=QaA;rw[hl1] at HC1;rw[hl2] at HC2;rw[hl0] at HC0;clear hl0 hl1 hl2;have BG0:=Z1 (Bg.fresh (Z6 _) (Go.Deep.blk_alloc_new wc (.cells #[.pointer none,.slice none 0 0] 144)));have HL0:=Z1 (Z7 wc (.cells #[.pointer none,.slice none 0 0] 144));have hS0:=Qc0 ⟨c0,c1,c2,Below.refl _ _⟩ HL0.o;go_wp2_with fail;generalize hW1:wc.alloc (.cells #[.pointer none,.slice none 0 0] 144)=W1 at *;have hSd:=Qi0 hS0;have hlow:=hS0.2.2.2;clear hW1
  go_region_held3 (fun w'=>w'.cell? ⟨w.heap.size,0,none⟩=some (.iface n.ty (.pointer (some ⟨n.blk,0,none⟩)))/\w'.cell? ⟨Bl,0,none⟩=some (trv t1)/\w'.cell? ⟨Br,0,none⟩=some (trv t2)/\Below wc.heap.size wc w')
   (first|with_reducible assumption|fail)
   (first
    |(go_at_call 55;refine (HC1.o _ (Qdj (by assumption))).mono ?_;rintro e w5 ⟨rfl,hb5⟩;have hS5:=Qc0 (by assumption) hb5;have hg5:=Bg.low (QiR BG0.o) hb5)
    |(go_at_call 89;refine (HWR.o _ _ _ _ (Qdj (by assumption)) hg5 (by simp;omega) (by omega) (by omega) (by omega)).mono ?_;rintro e w6 ⟨rfl,hg6,hb6⟩;have hS6:=QgZ (by assumption) hb6 ⟨c0,c1,c2⟩)
    |fail)
  have hl6:=hS6.2.2.2;have HS6:=Z1 hS6;have HG6:=Z1 hg6;have hpl:=Vm.Qcn (rowB R) ((rowB R1).length:Int) (f:Int);have hbl:=Lib.byteCells_length (Vm.partL (rowB R) ((rowB R1).length:Int) (f:Int));have HST:=Z1 (QjS wc.heap.size wc.heap.size _ put w6 hg6 (by rw[List.nil_append,hbl];omega) hl6.size);clear hg6 hS6 hS5 hg5 hSd hS0 hlow hb5 hb6 BG0 HL0 HC1;go_wp2_with fail;refine HST.o.mono ?_;rintro e w7 ⟨rfl,hd7,hb7⟩;have hS7:=QgZ HS6.o hb7 ⟨c0,c1,c2⟩
  have hlen7:([]++Lib.byteCells (Vm.partL (rowB R) ((rowB R1).length:Int) (f:Int))++Lib.strCells put).length<=(rowB R).length+put.size:=by
   rw[List.nil_append,List.length_append,hbl,Lib.strCells_length];omega
  generalize hbs7:[]++Lib.byteCells (Vm.partL (rowB R) ((rowB R1).length:Int) (f:Int))++Lib.strCells put=bs7 at hd7 hlen7;have HBS7:=Z1 hbs7;have HD7:=Z1 hd7;clear hbs7;clear hd7 hb7 HST HG6 HS6 hl6;have hSd7:=Qi0 hS7;obtain⟨d0,d1,d2,hl7⟩:=id hS7;have y0:=Z3 d0;have y1:=Z3 d1;have y2:=Z3 d2;go_wp2_with fail
  go_region_held3 (fun w'=>w'.cell? ⟨w.heap.size,0,none⟩=some (.iface n.ty (.pointer (some ⟨n.blk,0,none⟩)))/\w'.cell? ⟨Bl,0,none⟩=some (trv t1)/\w'.cell? ⟨Br,0,none⟩=some (trv t2)/\Below wc.heap.size wc w')
   (first|with_reducible assumption|fail)
   (first
    |(go_at_call 89;refine (HWR.o _ _ _ _ (Qdj (by assumption)) (Bg.of hg9) (by omega) (by omega) (by omega) (by omega)).mono ?_;rintro e w10 ⟨rfl,hg10,hb10⟩;have hS10:=QgZ (by assumption) hb10 ⟨c0,c1,c2⟩)
    |(have _hg:=hg8;go_at_call 55;refine (HC2.o _ (Qdj (by assumption))).mono ?_;rintro e w9 ⟨rfl,hb9⟩;have hS9:=Qc0 (by assumption) hb9;have hg9:=Bd.low hg8 hb9)
    |(go_at_call 55;refine (HC0.o _ (Qdj (by assumption))).mono ?_;rintro e w8 ⟨rfl,hb8⟩;have hS8:=Qc0 (by assumption) hb8;have hg8:=Bd.low (Ql2 HD7.o) hb8)
    |fail)
  have HS10:=Z1 hS10;have HG10:=Z1 hg10;clear hg10 hS10 hS9 hS8 hg9 hg8 hSd7 hS7 hb8 hb9 hb10 HD7 HC0 HC2 HWR hl7 d0 d1 d2 y0 y1 y2;obtain⟨d0,d1,d2,hl10⟩:=id HS10.o;have y0:=Z3 d0;have y1:=Z3 d1;have y2:=Z3 d2;obtain⟨M,hM,mw,mb,ma⟩:=HPURE.o
  have hbsM:bs7++Lib.byteCells (Vm.partL (rowB R) (g:Int) (((rowB R).length:Int) - ((rowB R2).length:Int)))=Lib.byteCells M:=by
   rw[<-HBS7.o,hM,Lib.byteCells_append,Lib.byteCells_append,List.nil_append,List.append_assoc];rfl
  have hMl:M.length<=549755813888:=by
   have h:=congrArg List.length mb;have hp:put.data.toList.length=put.size:=rfl;rw[List.length_append,List.length_append,List.length_append,List.length_append,List.length_take,List.length_drop] at h;omega
  have hRl1:(rowB R1).length<=549755813888:=by omega
  have hRl2:(rowB R2).length<=549755813888:=by omega
  have hg1:=Gd.len (HSP.o.gd1 (by rw[i3];exact hgd));have hg2:=Gd.len (HSP.o.gd2 (by rw[i3];exact hgd));have HG1:=Z1 (HSP.o.gd1 (by rw[i3];exact hgd));have HG2:=Z1 (HSP.o.gd2 (by rw[i3];exact hgd));have HGM:=Z1 (show Bg wc.heap.size wc.heap.size (Lib.byteCells M) w10 from hbsM ▸ HG10.o);have HMW:=Z1 mw;have HMB:=Z1 mb;have HMA:=Z1 ma;have hMs:(⟨M.toArray⟩:ByteArray).size=M.length:=by simp [ByteArray.size]
  have HSTR:=Z1 (bgstring wc.heap.size wc.heap.size M w10.drew (QiR HGM.o) hl10.size);have HNB:=Z1 (fun X (h:Below wc.heap.size wc X)=>NB.low (NB.low (HWE.o ▸ NB.new1 w _ .nilIface) HBR2.o) h);clear hM mw mb ma hbsM HG10 HPURE HBS7 HGM;have hS2:w10.cell? ⟨Bl,0,none⟩=some (trv t1)/\w10.cell? ⟨Br,0,none⟩=some (trv t2):=⟨d1,d2⟩;have hS2d:w10.drew.cell? ⟨Bl,0,none⟩=some (trv t1)/\w10.drew.cell? ⟨Br,0,none⟩=some (trv t2):=⟨d1,d2⟩;have HSd:=Z1 (Qi0 HS10.o);go_wp2_with fail
  go_region_held3 (fun w'=>w'.cell? ⟨Bl,0,none⟩=some (trv t1)/\w'.cell? ⟨Br,0,none⟩=some (trv t2))
   (first|with_reducible assumption|with_reducible exact hSfin|fail)
   (first
    |(have _hq:=hk13;go_at_call 82;refine (QbG enc tj t2 Rj R2 _ hk13.at_ (TrAt.keptB HSP.o.tr (Qdj hS13)) (by rw[hk13.bytes,hmb,List.length_append];omega) (by have:=hk13.len;omega)).mono ?_;rintro e w14 ⟨tk,Rk,hk14⟩;obtain rfl:=hk14.val;have hS14:=Qc0 hS13 hk14.below;have hS14':=And.intro hS14.2.1 hS14.2.2.1;have nb14:=HNB.o _ (Qdj hS14);have hst14:=Qaq tk nb14.c nb14.f;have hSfin:=QoS hS14' hbl_ne hbr_ne (trv tk))
    |(have _hq:=htm;go_at_call 82;refine (QbG enc t1 tm R1 Rm _ (TrAt.keptB HSP.o.tl (Qdj hS12)) htm (by rw[hmb];omega) (by omega)).mono ?_;rintro e w13 ⟨tj,Rj,hk13⟩;obtain rfl:=hk13.val;have hS13:=Qc0 hS12 hk13.below;have hS13':=And.intro hS13.2.1 hS13.2.2.1)
    |(have _hq:=hS11;go_at_call 133;refine (Qip enc ⟨M.toArray⟩ _ (HT.o.below (HBR.o.trans ((Qdj hS11).mono HBR.o.size))) (by omega) h0 h3 HMW.o).mono ?_;rintro e w12 ⟨tm,Rm,rfl,htm,hmb,hma,hml,hmg,hb12⟩;have hS12:=Qc0 hS11 hb12;have hS12':=And.intro hS12.2.1 hS12.2.2.1)
    |(go_at_call 90;refine HSTR.o.mono ?_;rintro e w11 ⟨rfl,hb11⟩;have hS11:=QgZ HSd.o hb11 ⟨c0,c1,c2⟩;have hS11':=And.intro hS11.2.1 hS11.2.2.1)
    |fail)
  have HK:=Z1 hk14;have HK13:=Z1 hk13;have n15:=NB.set nb14 (trv tk);have c15:=n15.c;have HT15:=Z1 (TrAt.set hk14.at_ nb14 (trv tk));have HB15:=Z1 (Below.setCell (p:=⟨w.heap.size+1,0,none⟩) (HBR.o.trans ((Qdj hS14).mono HBR.o.size)) (Nat.le_succ _) (trv tk));have HMG:=Z1 hmg;have HMb:=Z1 hmb;have HMa:=Z1 hma;clear hk13 hk14 hS11 hS12 hS13 hS14 hS11' hS12' hS13' hS14' hSfin hst14 nb14 n15 hmg hmb hma htm hb11 hb12 HNB HSTR hS2 hS2d HSd HS10 hl10 d0 d1 d2 y0 y1 y2 c0 c1 c2;go_wp2_with fail;refine bodyPost_ret (v:=.agg #[trv tk]) (by simp [results,Tryz.results98,go_sem,c15]) rfl ⟨tk,Rk,rfl,HT15.o,?_,?_,HK.o.gd (HK13.o.gd HG1.o HMG.o) HG2.o,HB15.o⟩
  ·rw[HK.o.bytes,HK13.o.bytes,HMb.o,HMB.o,List.append_assoc]
  rw[HK.o.atoms,HK13.o.atoms,HMa.o,HMA.o,List.append_assoc]
theorem Qi6 (enc:Int) (put:ByteArray) (w:World) (ht:Tabs w) (h0:0<=enc) (h3:enc<=3) (f g:Nat) (hp:put.size<=549755813888) (wp:Vm.Wh enc put.data.toList) :
  Calls prog 98 #[.agg #[.nilIface],.int .i64 enc,.int .i64 f,.int .i64 g,.string put,.int .i64 1000] w fun e w'=>∃t' R',e=.returned (.agg #[trv t'])/\TrAt w' enc t' R'/\rowB R'=put.data.toList/\rowA enc R'=Vm.atoms enc put.data.toList/\Gd R'/\Below w.heap.size w w':=by
 have HR:=Z1 (fun X (h:Tabs X)=>Qip enc put X h (by omega) h0 h3 wp)
 have HT:=Z1 ht
 have hw0:Below w.heap.size w ((w.alloc (.cells #[.nilIface] 89)).alloc (.cells #[.nilIface] 89)):=(Z7 _ _).alloc (by simp) _
 have nb0:=NB.new1 w (.cells #[.nilIface] 89) .nilIface
 have HW:=Z1 hw0
 have HNB:=Z1 nb0
 clear ht hw0 nb0
 go_enter func98,ntmps98
 go_wp2_with fail
 refine (HR.o _ (HT.o.below HW.o)).mono ?_
 rintro e w1 ⟨t,R,rfl,htr,hrb,hra,hrl,hrg,hb1⟩
 have nb1:=NB.low HNB.o hb1
 obtain⟨b1,b2,b3⟩:=id nb1
 have hz:=Z3 b1
 have hst:=Qaq t b1 b2
 have c15:=(NB.set nb1 (trv t)).c
 have HT15:=Z1 (TrAt.set htr nb1 (trv t))
 have HB15:=Z1 (Below.setCell (p:=⟨w.heap.size+1,0,none⟩) (HW.o.trans (hb1.mono HW.o.size)) (Nat.le_succ _) (trv t))
 clear htr nb1 hb1 HNB
 go_wp2_with fail
 exact bodyPost_ret (v:=.agg #[trv t]) (by simp [results,Tryz.results98,go_sem,c15]) rfl ⟨t,R,rfl,HT15.o,hrb,hra,hrg,HB15.o⟩
theorem Qgz (enc:Int) (t:Option Nd) (R:List (Cn × ByteArray)) (f g:Nat) (put:ByteArray) (w:World) (ht:Tabs w) (hr:TrAt w enc t R) (h0:0<=enc) (h3:enc<=3) (hl:(rowB R).length+put.size<=549755813888) (hgd:Gd R) (hfg:f<=g) (hat:Vm.atoms enc (rowB R)=rowA enc R) (bf:∃A0,A0 <+: Vm.atoms enc (rowB R)/\Vm.sizeA A0=f) (bg:∃A0,A0 <+: Vm.atoms enc (rowB R)/\Vm.sizeA A0=g) (wp:Vm.Wh enc put.data.toList) :
  Calls prog 98 #[.agg #[trv t],.int .i64 enc,.int .i64 f,.int .i64 g,.string put,.int .i64 1000] w fun e w'=>∃t' R',e=.returned (.agg #[trv t'])/\TrAt w' enc t' R'/\rowB R'=(rowB R).take f++(put.data.toList++(rowB R).drop g)/\rowA enc R'=Vm.atoms enc ((rowB R).take f++(put.data.toList++(rowB R).drop g))/\Gd R'/\Below w.heap.size w w':=by
 cases t with
 |none =>
  have hR:=hr.non rfl;subst hR;have e:(rowB []).take f++(put.data.toList++(rowB []).drop g)=put.data.toList:=by simp [rowB]
  rw[e];exact Qi6 enc put w ht h0 h3 f g (by omega) wp
 |some n=>exact Qiz enc n R f g put w ht hr h0 h3 hl hgd hfg hat bf bg wp
def strV (A:List Vm.At) (f t:Int):Int × Int × Int :=
 if f<0\/t<f\/(Vm.bytesA A:Int)<t then (0,0,2) else if (plV A f).2≠0 then (0,0,(plV A f).2) else ((plV A f).1.body,(plV A t).1.body,(plV A t).2)
theorem Qjo (enc:Int) (mark:Bool) (n:Option Nd) (R:List (Cn × ByteArray)) (tail:ByteArray) (f t:Int) (w:World) (ht:Tabs w) (hr:TrAt w enc n R) (h0:0<=enc) (h3:enc<=3) (hl:(rowB R).length<=1099511627776) :
  Calls prog 62 #[.agg #[.int .i64 enc,.bool mark,trv n,.string tail],.int .i64 f,.int .i64 t] w fun e w'=>e=.returned (.tuple #[.int .i64 (strV (rowA enc R) f t).1,.int .i64 (strV (rowA enc R) f t).2.1,.int .i64 (strV (rowA enc R) f t).2.2])/\Below w.heap.size w w':=by
 obtain⟨V,hV⟩:∃V,V=strV (rowA enc R) f t:=⟨_,rfl⟩
 rw[<-hV]
 have HV:=Z1 hV
 clear hV
 have hw0:Below w.heap.size w (w.alloc (.cells #[.int .i64 enc,.bool mark,trv n,.string tail] 91)):=Z7 _ _
 have HW0:=Z1 hw0
 have HT:=Z1 ht
 have HR:=Z1 hr
 clear ht hr hw0
 by_cases hf:f<0
 ·have HF:=Z1 (show strV (rowA enc R) f t=(0,0,2) by unfold strV;rw[if_pos (.inl hf)]);have hfd:decide (f<0)=true:=decide_eq_true hf;go_enter func62,ntmps62;go_wp2_with fail;refine bodyPost_ret (v:=.tuple #[.int .i64 0,.int .i64 0,.int .i64 2]) (by simp [results,Tryz.results62,go_sem]) rfl ⟨by rw[HV.o,HF.o],HW0.o⟩
 have hfd:decide (f<0)=false:=decide_eq_false hf
 by_cases htf:t<f
 ·have HF:=Z1 (show strV (rowA enc R) f t=(0,0,2) by unfold strV;rw[if_pos (.inr (.inl htf))]);go_enter func62,ntmps62;go_wp2_with fail;refine bodyPost_ret (v:=.tuple #[.int .i64 0,.int .i64 0,.int .i64 2]) (by simp [results,Tryz.results62,go_sem]) rfl ⟨by rw[HV.o,HF.o],HW0.o⟩
 have HC:=Z1 ((HR.o.low HW0.o).counts)
 simp only[cnOf,Cn.val] at HC
 have fb:=Qdn
 generalize hA1:Vm.bytesA (rowA enc R)=a1 at *
 go_enter func62,ntmps62
 go_wp2_with fail
 refine HC.o.mono ?_
 rintro e w1 ⟨rfl,hb1⟩
 have hb1':=HW0.o.trans (hb1.mono HW0.o.size)
 have k0:w1.heap[w.heap.size]?=some (.cells #[.int .i64 enc,.bool mark,trv n,.string tail] 91):=by
  rw[hb1.block _ (by simp)];exact Go.Deep.blk_alloc_new _ _
 have d0:=C0 k0
 have d1:=C1 k0
 have d2:=C2 k0
 have d3:=C3 k0
 have hz:=Z3 d0
 have HB1:=Z1 hb1'
 have HK0:=Z1 k0
 clear hb1 hb1' HC k0
 generalize Vm.sizeA (rowA enc R)=x0
 generalize (rowA enc R).length=x1
 generalize Vm.unitsA (rowA enc R)=x2
 generalize Vm.cntK (rowA enc R) 4=x3
 generalize Vm.cntK (rowA enc R) 0=x4
 generalize Vm.cntK (rowA enc R) 1=x5
 generalize Vm.cntK (rowA enc R) 2=x6
 by_cases hgt:(a1:Int)<t
 ·have HF:=Z1 (show strV (rowA enc R) f t=(0,0,2) by unfold strV;rw[hA1,if_pos (.inr (.inr hgt))]);clear hA1;go_wp2_with fail;refine bodyPost_ret (v:=.tuple #[.int .i64 0,.int .i64 0,.int .i64 2]) (by simp [results,Tryz.results62,go_sem]) rfl ⟨by rw[HV.o,HF.o],HB1.o⟩
 have HF:=Z1 (show strV (rowA enc R) f t=if (plV (rowA enc R) f).2≠0 then (0,0,(plV (rowA enc R) f).2) else (((plV (rowA enc R) f).1.body:Int),((plV (rowA enc R) t).1.body:Int),(plV (rowA enc R) t).2) by unfold strV;rw[hA1,if_neg (by omega)])
 have HP1:=Z1 (Qfl enc mark n R tail f w1 (HT.o.below HB1.o) (HR.o.low HB1.o) h0 h3 hl)
 clear hA1
 go_wp2_with fail
 refine HP1.o.mono ?_
 rintro e w2 ⟨rfl,hb2⟩
 have HP2:=Z1 (fun X (h:Below w2.heap.size w2 X)=>Qfl enc mark n R tail t X (HT.o.below ((HB1.o.trans (hb2.mono HB1.o.size)).trans (h.mono (Nat.le_trans HB1.o.size hb2.size)))) (HR.o.low ((HB1.o.trans (hb2.mono HB1.o.size)).trans (h.mono (Nat.le_trans HB1.o.size hb2.size)))) h0 h3 hl)
 have HB2:=Z1 (HB1.o.trans (hb2.mono HB1.o.size))
 have d0':=(hb2.cell (p:=⟨w.heap.size,0,none⟩) hz).trans d0
 have d1':=(hb2.cell (p:=⟨w.heap.size,1,none⟩) hz).trans d1
 have d2':=(hb2.cell (p:=⟨w.heap.size,2,none⟩) hz).trans d2
 have d3':=(hb2.cell (p:=⟨w.heap.size,3,none⟩) hz).trans d3
 have hz':=Z3 d0'
 clear d0 d1 d2 d3 hz hb2 HP1
 generalize plV (rowA enc R) f=V1 at *
 generalize plV (rowA enc R) t=V2 at *
 obtain⟨⟨b0,b1,b2,b3,b4,b5,b6,b7⟩,e1⟩:=V1
 obtain⟨⟨g0,g1,g2,g3,g4,g5,g6,g7⟩,e2⟩:=V2
 simp only[Cn.val] at HF HP2 ⊢
 have hba:=Z7 w2 (.cells #[.int .i64 b0,.int .i64 b1,.int .i64 b2,.int .i64 b3,.int .i64 b4,.int .i64 b5,.int .i64 b6,.int .i64 b7] 119)
 have HBA:=Z1 hba
 clear hba
 by_cases he:e1=0
 ·subst he;rw[if_neg (by simp)] at HF;go_wp2_with fail;refine (HP2.o _ HBA.o).mono ?_;rintro e w3 ⟨rfl,hb3⟩;have HB3:=Z1 (HB2.o.trans ((HBA.o.trans (hb3.mono HBA.o.size)).mono HB2.o.size));have f0:w3.cell? ⟨w2.heap.size,0,none⟩=some (.int .i64 b0):=(hb3.cell (p:=⟨w2.heap.size,0,none⟩) (by simp)).trans (by simp [go_sem]);have zf:=Z3 f0;clear hb3 HP2 d0' d1' d2' d3' hz';go_wp2_with fail;go_quiet (fail);go_wp2_with fail;refine bodyPost_ret (v:=.tuple #[.int .i64 b0,.int .i64 g0,.int .i64 e2]) (by simp [results,Tryz.results62,go_sem]) rfl ⟨by rw[HV.o,HF.o],below_drewN (HB3.o.alloc HB3.o.size _) _⟩
 rw[if_pos (by simpa using he)] at HF
 have heb:(e1==0)=false:=by simpa using he
 go_wp2_with fail
 refine bodyPost_ret (v:=.tuple #[.int .i64 0,.int .i64 0,.int .i64 e1]) (by simp [results,Tryz.results62,go_sem]) rfl ⟨by rw[HV.o,HF.o],HB2.o.trans (HBA.o.mono HB2.o.size)⟩
end Go.Proofs.YtoejbngihecafaaGreatDoor
