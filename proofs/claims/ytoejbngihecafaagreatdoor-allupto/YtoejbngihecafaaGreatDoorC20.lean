import Derived.Test.YtoejbngihecafaaGreatDoorC4
import Derived.Test.YtoejbngihecafaaGreatDoorC19
import Derived.Test.YtoejbngihecafaaGreatDoorC0
set_option maxRecDepth 100000
set_option maxHeartbeats 2000000
open Go.Proofs.Tryz
namespace Go.Proofs.YtoejbngihecafaaGreatDoor
open Go.RowKit
variable {w w' w0:World} {p C:Nat} {enc:Int} {mark:Bool} {body tail:ByteArray} {n:Option Nd} {R:List (Cn × ByteArray)}
theorem QnH (m l:List UInt8) (k:Nat) (h:m.length<=k):m.isPrefixOf (l.take k)=m.isPrefixOf l:=by
 induction m generalizing l k with
 |nil=>simp
 |cons x m ih =>
  cases l with
  |nil=>simp
  |cons y l =>
   cases k with
   |zero=>simp at h
   |succ k =>
    simp only[List.take_succ_cons,List.isPrefixOf];rw[ih l k (by simpa using h)]
theorem QfH (b h:ByteArray) (enc:Int) (hh:h.data.toList=b.data.toList.take 3):ofMark h enc=ofMark b enc:=by
 unfold ofMark;rw[hh,QnH _ _ _ (by have:=QaN enc;exact this)]
theorem Qeq (b h:ByteArray) (e0:Int) (hh:h.data.toList=b.data.toList.take 3):∀k,sniffTo h e0 k=sniffTo b e0 k
 |0=>rfl
 |k+1=>by
  unfold sniffTo
  rw[QfH b h k hh,Qeq b h e0 hh k]
theorem Qkg (enc:Int) (mark:Bool) (body:ByteArray):(bytesOf enc mark body).data.toList=(mkB enc mark).data.toList++body.data.toList:=by
 unfold bytesOf mkB;cases mark
 ·simp
 simp [ByteArray.data_append]
theorem QcO {a b:ByteArray} (h:a.data.toList=b.data.toList):a=b:=by
 cases a with|mk x=>cases b with|mk y=>congr;exact Array.toList_inj.1 h
theorem ba_of (l:List UInt8) (b:ByteArray) (h:b.data.toList=l):(⟨l.toArray⟩:ByteArray)=b:=QcO (by simp [h])
structure DocAt (w:World) (p:Nat) (enc:Int) (mark:Bool) (body:ByteArray) (n:Option Nd) (R:List (Cn × ByteArray)) (tail:ByteArray):Prop where
 blk:∃dn un:Value,w.heap[p]?=some (.cells #[.int .i64 enc,.bool mark,trv n,.string tail,dn,un] 110)
 tr:TrAt w enc n R
 h0:0<=enc
 h3:enc<=3
 bytes:body.data.toList=rowB R++tail.data.toList
 atoms:Vm.atoms enc body.data.toList=rowA enc R
 size:body.size<=1099511627776
 gd:Gd R
def DD (w:World) (p:Nat) (enc:Int) (mark:Bool) (body:ByteArray):Prop:=∃n R tail,DocAt w p enc mark body n R tail
theorem DocAt.lt (h:DocAt w p enc mark body n R tail):p<w.heap.size:=by
 obtain⟨_,_,h⟩:=h.blk;exact Z4 h
theorem DocAt.keep (h:DocAt w p enc mark body n R tail) (hk:w'.heap[p]?=w.heap[p]?):∃dn un:Value,w'.heap[p]?=some (.cells #[.int .i64 enc,.bool mark,trv n,.string tail,dn,un] 110):=by
 obtain⟨dn,un,h⟩:=h.blk;exact⟨dn,un,hk.trans h⟩
theorem DocAt.low (h:DocAt w p enc mark body n R tail) (hb:Below w.heap.size w w'):DocAt w' p enc mark body n R tail :=
 ⟨h.keep (hb.block p h.lt),h.tr.low hb,h.h0,h.h3,h.bytes,h.atoms,h.size,h.gd⟩
theorem DocAt.at_ (h:DocAt w p enc mark body n R tail) :
  w.cell? ⟨p,0,none⟩=some (.int .i64 enc)/\w.cell? ⟨p,1,none⟩=some (.bool mark)/\w.cell? ⟨p,2,none⟩=some (trv n)/\w.cell? ⟨p,3,none⟩=some (.string tail) :=
 by obtain⟨_,_,h⟩:=h.blk;exact⟨by rw[Lib.cell_of_heap h];rfl,by rw[Lib.cell_of_heap h];rfl,by rw[Lib.cell_of_heap h];rfl,by rw[Lib.cell_of_heap h];rfl⟩
theorem DocAt.lens (h:DocAt w p enc mark body n R tail):body.size=(rowB R).length+tail.size:=by
 have:=congrArg List.length h.bytes;rw[List.length_append] at this;exact this
theorem DocAt.ct (h:DocAt w p enc mark body n R tail):(bytesOf enc mark body).data.toList=ctB enc mark R tail:=by
 rw[Qkg,h.bytes];rfl
theorem docText (p:Nat) (enc:Int) (mark:Bool) (body:ByteArray) (w:World) (ht:Tabs w) (hd:DD w p enc mark body) :
  Calls prog 32 #[.pointer (some ⟨p,0,none⟩)] w fun e w'=>e=.returned (.string (strOfNums (Vm.textL (Vm.atoms enc body.data.toList))))/\Below w.heap.size w w':=by
 obtain⟨n,R,tail,h⟩:=hd
 obtain⟨p0,p1,p2,p3⟩:=h.at_
 have hl:=h.lens
 have hs:=h.size
 have HX:=Z1 (QlK enc mark n R tail w ht h.tr h.h0 h.h3 (by omega))
 rw[h.atoms]
 have hz:=Z3 p0
 clear h ht
 go_enter func32,ntmps32
 go_wp2_with fail
 refine HX.o.mono ?_
 rintro e w1 ⟨rfl,hb1⟩
 have HB:=Z1 hb1
 clear hb1 HX
 go_wp2_with fail
 go_ret
 exact⟨rfl,HB.o⟩
section
variable {Z p:Nat} {w0:World} {enc:Int} {mark:Bool} {body:ByteArray} {n:Option Nd} {R:List (Cn × ByteArray)} {tail:ByteArray} {w1 w2:World}
structure DcR (w0:World) (p:Nat) (enc:Int) (mark:Bool) (body:ByteArray) (n:Option Nd) (R:List (Cn × ByteArray)) (tail:ByteArray) (w:World):Prop where
 tabs:Tabs w
 doc:DocAt w p enc mark body n R tail
 low:Below w0.heap.size w0 w
theorem QaF (H:DcR w0 p enc mark body n R tail w1):w1.cell? ⟨p,0,none⟩=some (.int .i64 enc)/\w1.cell? ⟨p,1,none⟩=some (.bool mark)/\w1.cell? ⟨p,2,none⟩=some (trv n)/\w1.cell? ⟨p,3,none⟩=some (.string tail)/\DcR w0 p enc mark body n R tail w1 :=
 ⟨H.doc.at_.1,H.doc.at_.2.1,H.doc.at_.2.2.1,H.doc.at_.2.2.2,H⟩
theorem DcR.step (H:DcR w0 p enc mark body n R tail w1) (hb:Below w1.heap.size w1 w2):DcR w0 p enc mark body n R tail w2 :=
 ⟨H.tabs.below hb,H.doc.low hb,H.low.trans (hb.mono H.low.size)⟩
theorem Qi5 (H:w1.cell? ⟨p,0,none⟩=some (.int .i64 enc)/\w1.cell? ⟨p,1,none⟩=some (.bool mark)/\w1.cell? ⟨p,2,none⟩=some (trv n)/\w1.cell? ⟨p,3,none⟩=some (.string tail)/\DcR w0 p enc mark body n R tail w1) (hb:Below w1.heap.size w1 w2) :
 w2.cell? ⟨p,0,none⟩=some (.int .i64 enc)/\w2.cell? ⟨p,1,none⟩=some (.bool mark)/\w2.cell? ⟨p,2,none⟩=some (trv n)/\w2.cell? ⟨p,3,none⟩=some (.string tail)/\DcR w0 p enc mark body n R tail w2:=QaF (H.2.2.2.2.step hb)
theorem Qln (H:w1.cell? ⟨p,0,none⟩=some (.int .i64 enc)/\w1.cell? ⟨p,1,none⟩=some (.bool mark)/\w1.cell? ⟨p,2,none⟩=some (trv n)/\w1.cell? ⟨p,3,none⟩=some (.string tail)/\DcR w0 p enc mark body n R tail w1) :
 w1.drew.cell? ⟨p,0,none⟩=some (.int .i64 enc)/\w1.drew.cell? ⟨p,1,none⟩=some (.bool mark)/\w1.drew.cell? ⟨p,2,none⟩=some (trv n)/\w1.drew.cell? ⟨p,3,none⟩=some (.string tail)/\DcR w0 p enc mark body n R tail w1.drew:=Qi5 H ((Below.refl _ _).drew)
theorem Dc_r (H:w1.cell? ⟨p,0,none⟩=some (.int .i64 enc)/\w1.cell? ⟨p,1,none⟩=some (.bool mark)/\w1.cell? ⟨p,2,none⟩=some (trv n)/\w1.cell? ⟨p,3,none⟩=some (.string tail)/\DcR w0 p enc mark body n R tail w1):DcR w0 p enc mark body n R tail w1:=H.2.2.2.2
end
theorem docSave (p:Nat) (enc:Int) (mark:Bool) (body:ByteArray) (w:World) (ht:Tabs w) (hd:DD w p enc mark body) :
  Calls prog 30 #[.pointer (some ⟨p,0,none⟩)] w fun e w'=>e=.returned (.string (bytesOf enc mark body))/\Below w.heap.size w w':=by
 obtain⟨n,R,tail,h⟩:=hd
 have hl:=h.lens
 have hs:=h.size
 have hct:=h.ct
 have hms:=QcI enc mark
 have hcl:((mkB enc mark).size+(rowB R).length+tail.size:Nat)=(ctB enc mark R tail).length:=by
  unfold ctB;rw[List.length_append,List.length_append];have e1:(mkB enc mark).data.toList.length=(mkB enc mark).size:=rfl;have e2:tail.data.toList.length=tail.size:=rfl;omega
 have HZ:=Z1 (fun w1 (hq:DcR w p enc mark body n R tail w1)=>Qe0 enc mark n R tail w1 hq.tabs hq.doc.tr h.h0 h.h3 (by omega) (by omega))
 have HP:=Z1 (fun w1 (hq:DcR w p enc mark body n R tail w1)=>QdA enc mark n R tail 0 ((mkB enc mark).size+(rowB R).length+tail.size) w1 hq.tabs hq.doc.tr h.h0 h.h3 (by omega) (by omega) (by omega) (by omega))
 have hfin:(⟨(Vm.partL (ctB enc mark R tail) ((0:Nat):Int) (((mkB enc mark).size+(rowB R).length+tail.size:Nat):Int)).toArray⟩:ByteArray)=bytesOf enc mark body:=by
  rw[hcl];refine ba_of _ _ ?_;rw[hct];exact (Vm.QlJ _ _ (by omega)).symm
 rw[hfin] at HP
 have HS0:=Z1 (QaF (⟨ht,h,Below.refl _ _⟩:DcR w p enc mark body n R tail w))
 obtain⟨p0,p1,p2,p3,_⟩:=HS0.o
 have hz:=Z3 p0
 clear h ht hct hcl hfin
 generalize ((mkB enc mark).size+(rowB R).length+tail.size:Nat)=sz at *
 have hSd:=Qln HS0.o
 simp only[Int.cast_ofNat_Int] at HP
 go_enter func30,ntmps30
 go_wp2_with fail
 go_region_held3 (fun w'=>w'.cell? ⟨p,0,none⟩=some (.int .i64 enc)/\w'.cell? ⟨p,1,none⟩=some (.bool mark)/\w'.cell? ⟨p,2,none⟩=some (trv n)/\w'.cell? ⟨p,3,none⟩=some (.string tail)/\DcR w p enc mark body n R tail w')
  (first|assumption|exact HS0.o|exact Qln HS0.o)
  (first
   |(go_at_call 52;refine (HZ.o _ (Dc_r (by assumption))).mono ?_;rintro e w3 ⟨rfl,hb3⟩;have hS3:=Qi5 (by assumption) hb3)
   |(go_at_call 53;refine (HP.o _ (Dc_r (by assumption))).mono ?_;rintro e w4 ⟨rfl,hb4⟩;have hS4:=Qi5 (by assumption) hb4))
 have hlow:=(Dc_r hS4).low
 clear hS3 hS4 hSd p0 p1 p2 p3
 go_wp2
 go_ret
 exact⟨rfl,hlow⟩
theorem QhJ (enc:Int) (mark:Bool) (body h:ByteArray) (h0:0<=enc) (h3:enc<=3) (hh:h.data.toList=(bytesOf enc mark body).data.toList.take 3):(sniffTo h enc 3==enc)=stableB enc mark body:=by
 unfold stableB encOf;rw[if_pos (by omega),show (4+enc)%4=enc by omega,Qeq _ _ _ hh]
theorem Qkx (enc:Int) (mark:Bool) (body:ByteArray) (n:Option Nd) (R:List (Cn × ByteArray)) (tail:ByteArray) (p:Nat) (w:World) (ht:Tabs w) (h:DocAt w p enc mark body n R tail) :
  Calls prog 73 #[.agg #[.int .i64 enc,.bool mark,trv n,.string tail]] w fun e w'=>e=.returned (.bool (stableB enc mark body))/\Below w.heap.size w w':=by
 have hl:=h.lens
 have hs:=h.size
 have hct:=h.ct
 have hms:=QcI enc mark
 have hcl:((mkB enc mark).size+(rowB R).length+tail.size:Nat)=(ctB enc mark R tail).length:=by
  unfold ctB;rw[List.length_append,List.length_append];have e1:(mkB enc mark).data.toList.length=(mkB enc mark).size:=rfl;have e2:tail.data.toList.length=tail.size:=rfl;omega
 have hhd:∀t:Nat,t=min 3 ((mkB enc mark).size+(rowB R).length+tail.size)->(⟨(Vm.partL (ctB enc mark R tail) ((0:Nat):Int) (t:Int)).toArray⟩:ByteArray).data.toList=(bytesOf enc mark body).data.toList.take 3:=by
  intro t e;rw[hct];show (Vm.partL (ctB enc mark R tail) ((0:Nat):Int) (t:Int)).toArray.toList=_;simp only[Vm.partL,Int.toNat_natCast,List.drop_zero];rw[e,hcl];by_cases g:(ctB enc mark R tail).length<=3
  ·rw[Nat.min_eq_right g,List.take_of_length_le g,List.take_of_length_le (Z6 _)]
  rw[Nat.min_eq_left (by omega)]
 have HD:=Z1 h
 have HT:=Z1 ht
 have HZ:=Z1 (fun w1 (h1:Tabs w1) (h2:TrAt w1 enc n R)=>Qe0 enc mark n R tail w1 h1 h2 h.h0 h.h3 (by omega) (by omega))
 have HP:=Z1 (fun w1 (h1:Tabs w1) (h2:TrAt w1 enc n R)=>QdA enc mark n R tail 0 (min 3 ((mkB enc mark).size+(rowB R).length+tail.size)) w1 h1 h2 h.h0 h.h3 (by omega) (by omega) (by omega) (by omega))
 have HN:=Z1 (fun (hd:ByteArray) w1 (h1:Tabs w1)=>QfQ hd enc w1 h1.enc)
 have HF:=Z1 (fun hd=>QhJ enc mark body hd h.h0 h.h3)
 have HH:=Z1 hhd
 have hb0:=Z7 w (.cells #[.int .i64 enc,.bool mark,trv n,.string tail] 91)
 have hc0:CtR w enc n R (w.alloc (.cells #[.int .i64 enc,.bool mark,trv n,.string tail] 91)):=⟨ht.below hb0,h.tr.low hb0,hb0⟩
 have HC:=Z1 hc0
 clear h ht hct hcl hhd hc0 hb0
 generalize ((mkB enc mark).size+(rowB R).length+tail.size:Nat)=sz at *
 have hHH:=HF.o _ (HH.o (min 3 sz) rfl)
 have hmin:((min 3 sz:Nat):Int)=min (3:Int) (sz:Int):=by omega
 simp only[Int.cast_ofNat_Int,hmin] at HP hHH
 clear HH
 generalize (⟨(Vm.partL (ctB enc mark R tail) 0 (min (3:Int) (sz:Int))).toArray⟩:ByteArray)=hdb at *
 have HEQ:=Z1 hHH
 clear hHH HF hmin
 go_enter func73,ntmps73
 go_wp2_with fail
 have hS:(w.alloc (.cells #[.int .i64 enc,.bool mark,trv n,.string tail] 91)).cell? ⟨w.heap.size,0,none⟩=some (.int .i64 enc)/\(w.alloc (.cells #[.int .i64 enc,.bool mark,trv n,.string tail] 91)).cell? ⟨w.heap.size,1,none⟩=some (.bool mark)/\(w.alloc (.cells #[.int .i64 enc,.bool mark,trv n,.string tail] 91)).cell? ⟨w.heap.size,2,none⟩=some (trv n)/\(w.alloc (.cells #[.int .i64 enc,.bool mark,trv n,.string tail] 91)).cell? ⟨w.heap.size,3,none⟩=some (.string tail)/\CtR w enc n R (w.alloc (.cells #[.int .i64 enc,.bool mark,trv n,.string tail] 91)):=⟨by simp,by simp,by simp,by simp,HC.o⟩
 generalize w.heap.size=Z at *
 have HSS:=Z1 hS
 clear HC
 obtain⟨p0,p1,p2,p3,_⟩:=hS
 generalize (w.alloc (.cells #[.int .i64 enc,.bool mark,trv n,.string tail] 91))=W at *
 have hSd:=Qeg HSS.o
 go_region_held3 (fun w'=>w'.cell? ⟨Z,0,none⟩=some (.int .i64 enc)/\w'.cell? ⟨Z,1,none⟩=some (.bool mark)/\w'.cell? ⟨Z,2,none⟩=some (trv n)/\w'.cell? ⟨Z,3,none⟩=some (.string tail)/\CtR w enc n R w')
  (first|assumption|exact HSS.o|exact Qeg HSS.o)
  (first
   |(go_at_call 52;refine (HZ.o _ (QgX (by assumption)) (Ct_tr (by assumption))).mono ?_;rintro e w3 ⟨rfl,hb3⟩;have hS3:=Qet (by assumption) hb3)
   |(go_at_call 53;refine (HP.o _ (QgX (by assumption)) (Ct_tr (by assumption))).mono ?_;rintro e w4 ⟨rfl,hb4⟩;have hS4:=Qet (by assumption) hb4))
 clear p0 p1 p2 p3 hSd hS3
 have HS4:=Z1 hS4
 obtain⟨p0,p1,p2,p3,_⟩:=hS4
 have hSd:=Qeg HS4.o
 go_wp2_with fail
 go_region_held3 (fun w'=>w'.cell? ⟨Z,0,none⟩=some (.int .i64 enc)/\w'.cell? ⟨Z,1,none⟩=some (.bool mark)/\w'.cell? ⟨Z,2,none⟩=some (trv n)/\w'.cell? ⟨Z,3,none⟩=some (.string tail)/\CtR w enc n R w')
  (first|assumption|exact HS4.o|exact Qeg HS4.o)
  (first
   |(go_at_call 111;refine (HN.o hdb _ (QgX (by assumption))).mono ?_;rintro e w5 ⟨rfl,hb5⟩;have hS5:=Qet (by assumption) hb5))
 have hlow:=QnZ hS5
 clear hS5 hSd p0 p1 p2 p3
 go_wp2
 go_ret
 refine⟨?_,hlow⟩
 rw[<-HEQ.o]
 simp
theorem docStable (p:Nat) (enc:Int) (mark:Bool) (body:ByteArray) (w:World) (ht:Tabs w) (hd:DD w p enc mark body) :
  Calls prog 38 #[.pointer (some ⟨p,0,none⟩)] w fun e w'=>e=.returned (.bool (stableB enc mark body))/\Below w.heap.size w w':=by
 obtain⟨n,R,tail,h⟩:=hd
 obtain⟨p0,p1,p2,p3⟩:=h.at_
 have HX:=Z1 (Qkx enc mark body n R tail p w ht h)
 have hz:=Z3 p0
 clear h ht
 go_enter func38,ntmps38
 go_wp2_with fail
 refine HX.o.mono ?_
 rintro e w1 ⟨rfl,hb1⟩
 have HB:=Z1 hb1
 clear hb1 HX
 go_wp2_with fail
 go_ret
 exact⟨rfl,HB.o⟩
theorem QkX (A:List Vm.At) (h:∀a∈A,Vm.AtOk a):Vm.linesA A=Vm.cntK A 0+Vm.cntK A 1+Vm.cntK A 2:=by
 induction A with
 |nil=>rfl
 |cons a A ih =>
  have hi:=ih (fun x hx=>h x (by simp [hx]));have ha:=h a (by simp);obtain⟨g1,g2,_⟩:=ha;unfold Vm.linesA Vm.cntK at *;simp only[List.filter_cons];have hc:a.1=0\/a.1=1\/a.1=2\/a.1=3\/a.1=4:=by omega
  rcases hc with e|e|e|e|e<;>simp [e]<;>omega
structure ShR (w0:World) (p:Nat) (enc:Int) (mark:Bool) (body:ByteArray) (n:Option Nd) (R:List (Cn × ByteArray)) (tail:ByteArray) (C:Nat) (w:World):Prop where
 low:Below w0.heap.size w0 w
 res:∀j,j<9->∃v,w.cell? ⟨C,j,none⟩=some v
 fr:∀j,w.frozen? ⟨C,j,none⟩=false
 le:w0.heap.size<=C
theorem ShR.step (h:ShR w0 p enc mark body n R tail C w) (hb:Below w.heap.size w w'):ShR w0 p enc mark body n R tail C w':=by
 obtain⟨v,hv⟩:=h.res 0 (by omega);have hC:=Z3 hv;exact⟨h.low.trans (hb.mono h.low.size),fun j hj=>by obtain⟨u,hu⟩:=h.res j hj;exact⟨u,(hb.cell (p:=⟨C,j,none⟩) hC).trans hu⟩,fun j=>(hb.frozen (p:=⟨C,j,none⟩) hC).trans (h.fr j),h.le⟩
theorem ShR.set (h:ShR w0 p enc mark body n R tail C w) (i:Nat) (v:Value):ShR w0 p enc mark body n R tail C (w.setCell ⟨C,i,none⟩ v):=by
 refine⟨h.low.setCell (p:=⟨C,i,none⟩) h.le v,fun j hj=>?_,fun j=>by rw[World.frozen?_setCell];exact h.fr j,h.le⟩;obtain⟨u,hu⟩:=h.res j hj;by_cases e:i=j
 ·subst e;exact⟨v,Qbb _ _ _ _ _ hu⟩
 exact⟨u,by rw[Qab _ _ i j _ e];exact hu⟩
section
variable {p Q C:Nat} {w0:World} {enc:Int} {mark:Bool} {body:ByteArray} {n:Option Nd} {R:List (Cn × ByteArray)} {tail:ByteArray} {a0 a1 a2 a3 a4 a5 a6 a7:Nat} {w1 w2:World}
theorem Qi2 (H:w1.cell? ⟨p,0,none⟩=some (.int .i64 enc)/\w1.cell? ⟨p,1,none⟩=some (.bool mark)/\w1.cell? ⟨p,2,none⟩=some (trv n)/\w1.cell? ⟨p,3,none⟩=some (.string tail)/\w1.cell? ⟨Q,0,none⟩=some (.int .i64 a0)/\w1.cell? ⟨Q,1,none⟩=some (.int .i64 a1)/\w1.cell? ⟨Q,2,none⟩=some (.int .i64 a2)/\w1.cell? ⟨Q,3,none⟩=some (.int .i64 a3)/\w1.cell? ⟨Q,4,none⟩=some (.int .i64 a4)/\w1.cell? ⟨Q,5,none⟩=some (.int .i64 a5)/\w1.cell? ⟨Q,6,none⟩=some (.int .i64 a6)/\w1.cell? ⟨Q,7,none⟩=some (.int .i64 a7)/\ShR w0 p enc mark body n R tail C w1) (hb:Below w1.heap.size w1 w2):w2.cell? ⟨p,0,none⟩=some (.int .i64 enc)/\w2.cell? ⟨p,1,none⟩=some (.bool mark)/\w2.cell? ⟨p,2,none⟩=some (trv n)/\w2.cell? ⟨p,3,none⟩=some (.string tail)/\w2.cell? ⟨Q,0,none⟩=some (.int .i64 a0)/\w2.cell? ⟨Q,1,none⟩=some (.int .i64 a1)/\w2.cell? ⟨Q,2,none⟩=some (.int .i64 a2)/\w2.cell? ⟨Q,3,none⟩=some (.int .i64 a3)/\w2.cell? ⟨Q,4,none⟩=some (.int .i64 a4)/\w2.cell? ⟨Q,5,none⟩=some (.int .i64 a5)/\w2.cell? ⟨Q,6,none⟩=some (.int .i64 a6)/\w2.cell? ⟨Q,7,none⟩=some (.int .i64 a7)/\ShR w0 p enc mark body n R tail C w2:=by
 obtain⟨h1,h2,h3,h4,g0,g1,g2,g3,g4,g5,g6,g7,h5⟩:=H;have d:∀j v,w1.cell? ⟨p,j,none⟩=some v->w2.cell? ⟨p,j,none⟩=some v:=fun j v h=>(hb.cell (p:=⟨p,j,none⟩) (Z3 h1)).trans h;have e:∀j v,w1.cell? ⟨Q,j,none⟩=some v->w2.cell? ⟨Q,j,none⟩=some v:=fun j v h=>(hb.cell (p:=⟨Q,j,none⟩) (Z3 g0)).trans h;exact⟨d _ _ h1,d _ _ h2,d _ _ h3,d _ _ h4,e _ _ g0,e _ _ g1,e _ _ g2,e _ _ g3,e _ _ g4,e _ _ g5,e _ _ g6,e _ _ g7,h5.step hb⟩
theorem Qk8 (H:w1.cell? ⟨p,0,none⟩=some (.int .i64 enc)/\w1.cell? ⟨p,1,none⟩=some (.bool mark)/\w1.cell? ⟨p,2,none⟩=some (trv n)/\w1.cell? ⟨p,3,none⟩=some (.string tail)/\w1.cell? ⟨Q,0,none⟩=some (.int .i64 a0)/\w1.cell? ⟨Q,1,none⟩=some (.int .i64 a1)/\w1.cell? ⟨Q,2,none⟩=some (.int .i64 a2)/\w1.cell? ⟨Q,3,none⟩=some (.int .i64 a3)/\w1.cell? ⟨Q,4,none⟩=some (.int .i64 a4)/\w1.cell? ⟨Q,5,none⟩=some (.int .i64 a5)/\w1.cell? ⟨Q,6,none⟩=some (.int .i64 a6)/\w1.cell? ⟨Q,7,none⟩=some (.int .i64 a7)/\ShR w0 p enc mark body n R tail C w1):w1.drew.cell? ⟨p,0,none⟩=some (.int .i64 enc)/\w1.drew.cell? ⟨p,1,none⟩=some (.bool mark)/\w1.drew.cell? ⟨p,2,none⟩=some (trv n)/\w1.drew.cell? ⟨p,3,none⟩=some (.string tail)/\w1.drew.cell? ⟨Q,0,none⟩=some (.int .i64 a0)/\w1.drew.cell? ⟨Q,1,none⟩=some (.int .i64 a1)/\w1.drew.cell? ⟨Q,2,none⟩=some (.int .i64 a2)/\w1.drew.cell? ⟨Q,3,none⟩=some (.int .i64 a3)/\w1.drew.cell? ⟨Q,4,none⟩=some (.int .i64 a4)/\w1.drew.cell? ⟨Q,5,none⟩=some (.int .i64 a5)/\w1.drew.cell? ⟨Q,6,none⟩=some (.int .i64 a6)/\w1.drew.cell? ⟨Q,7,none⟩=some (.int .i64 a7)/\ShR w0 p enc mark body n R tail C w1.drew:=Qi2 H ((Below.refl _ _).drew)
theorem Qbw (H:w1.cell? ⟨p,0,none⟩=some (.int .i64 enc)/\w1.cell? ⟨p,1,none⟩=some (.bool mark)/\w1.cell? ⟨p,2,none⟩=some (trv n)/\w1.cell? ⟨p,3,none⟩=some (.string tail)/\w1.cell? ⟨Q,0,none⟩=some (.int .i64 a0)/\w1.cell? ⟨Q,1,none⟩=some (.int .i64 a1)/\w1.cell? ⟨Q,2,none⟩=some (.int .i64 a2)/\w1.cell? ⟨Q,3,none⟩=some (.int .i64 a3)/\w1.cell? ⟨Q,4,none⟩=some (.int .i64 a4)/\w1.cell? ⟨Q,5,none⟩=some (.int .i64 a5)/\w1.cell? ⟨Q,6,none⟩=some (.int .i64 a6)/\w1.cell? ⟨Q,7,none⟩=some (.int .i64 a7)/\ShR w0 p enc mark body n R tail C w1) (hp:p≠C) (hq:Q≠C) (i:Nat) (v:Value):(w1.setCell ⟨C,i,none⟩ v).cell? ⟨p,0,none⟩=some (.int .i64 enc)/\(w1.setCell ⟨C,i,none⟩ v).cell? ⟨p,1,none⟩=some (.bool mark)/\(w1.setCell ⟨C,i,none⟩ v).cell? ⟨p,2,none⟩=some (trv n)/\(w1.setCell ⟨C,i,none⟩ v).cell? ⟨p,3,none⟩=some (.string tail)/\(w1.setCell ⟨C,i,none⟩ v).cell? ⟨Q,0,none⟩=some (.int .i64 a0)/\(w1.setCell ⟨C,i,none⟩ v).cell? ⟨Q,1,none⟩=some (.int .i64 a1)/\(w1.setCell ⟨C,i,none⟩ v).cell? ⟨Q,2,none⟩=some (.int .i64 a2)/\(w1.setCell ⟨C,i,none⟩ v).cell? ⟨Q,3,none⟩=some (.int .i64 a3)/\(w1.setCell ⟨C,i,none⟩ v).cell? ⟨Q,4,none⟩=some (.int .i64 a4)/\(w1.setCell ⟨C,i,none⟩ v).cell? ⟨Q,5,none⟩=some (.int .i64 a5)/\(w1.setCell ⟨C,i,none⟩ v).cell? ⟨Q,6,none⟩=some (.int .i64 a6)/\(w1.setCell ⟨C,i,none⟩ v).cell? ⟨Q,7,none⟩=some (.int .i64 a7)/\ShR w0 p enc mark body n R tail C (w1.setCell ⟨C,i,none⟩ v):=by
 obtain⟨h1,h2,h3,h4,g0,g1,g2,g3,g4,g5,g6,g7,h5⟩:=H
 have d:∀B j v',B≠C->w1.cell? ⟨B,j,none⟩=some v'->(w1.setCell ⟨C,i,none⟩ v).cell? ⟨B,j,none⟩=some v':=fun B j v' hne h=>by
  rw[World.cell?_setCell_other _ _ _ _ (by intro e;injection e with e1 e2;exact hne e1.symm)];exact h
 exact⟨d _ _ _ hp h1,d _ _ _ hp h2,d _ _ _ hp h3,d _ _ _ hp h4,d _ _ _ hq g0,d _ _ _ hq g1,d _ _ _ hq g2,d _ _ _ hq g3,d _ _ _ hq g4,d _ _ _ hq g5,d _ _ _ hq g6,d _ _ _ hq g7,h5.set i v⟩
theorem Sh_r (H:w1.cell? ⟨p,0,none⟩=some (.int .i64 enc)/\w1.cell? ⟨p,1,none⟩=some (.bool mark)/\w1.cell? ⟨p,2,none⟩=some (trv n)/\w1.cell? ⟨p,3,none⟩=some (.string tail)/\w1.cell? ⟨Q,0,none⟩=some (.int .i64 a0)/\w1.cell? ⟨Q,1,none⟩=some (.int .i64 a1)/\w1.cell? ⟨Q,2,none⟩=some (.int .i64 a2)/\w1.cell? ⟨Q,3,none⟩=some (.int .i64 a3)/\w1.cell? ⟨Q,4,none⟩=some (.int .i64 a4)/\w1.cell? ⟨Q,5,none⟩=some (.int .i64 a5)/\w1.cell? ⟨Q,6,none⟩=some (.int .i64 a6)/\w1.cell? ⟨Q,7,none⟩=some (.int .i64 a7)/\ShR w0 p enc mark body n R tail C w1):ShR w0 p enc mark body n R tail C w1:=H.2.2.2.2.2.2.2.2.2.2.2.2
end
theorem docShow (p:Nat) (enc:Int) (mark:Bool) (body:ByteArray) (w:World) (ht:Tabs w) (hd:DD w p enc mark body) :
  Calls prog 25 #[.pointer (some ⟨p,0,none⟩)] w fun e w'=>e=.returned (shown enc mark body)/\Below w.heap.size w w':=by
 obtain⟨n,R,tail,h⟩:=hd
 have hl:=h.lens
 have hs:=h.size
 have hsz:=Qae h.tr.ok
 have hsm:=QgF h.tr.ok (by omega)
 have hln:=QkX (rowA enc R) (Qa4 enc R)
 have hlen:=Vm.Qau (Qa4 enc R)
 have HC:=Z1 (fun w1 (hq:DcR w p enc mark body n R tail w1)=>hq.doc.tr.counts)
 have HL:=Z1 (fun w1=>Qa3 (cnOf (rowA enc R)) w1 hsm)
 have HE:=Z1 (fun w1=>Qgu (cnOf (rowA enc R)) w1 hsm)
 have htl:decide (Vm.sizeA (rowA enc R)<body.size)=!(tail.toList.isEmpty):=by
  rw[hsz,hl];have:tail.toList=tail.data.toList:=ByteArray.toList_eq tail;rw[this];cases ht:tail.data.toList with
  |nil =>
   have:tail.size=0:=by have:tail.data.toList.length=tail.size:=rfl;rw[ht] at this;simpa using this.symm
   simp [this]
  |cons x r =>
   have:tail.size=r.length+1:=by have:tail.data.toList.length=tail.size:=rfl;rw[ht] at this;simpa using this.symm
   simp [this]
 have hsh:shown enc mark body=.agg #[.int .i64 enc,.bool mark,.int .i64 (Vm.bytesA (rowA enc R)),.int .i64 (rowA enc R).length,.int .i64 (Vm.unitsA (rowA enc R)),.int .i64 (((Vm.cntK (rowA enc R) 0+Vm.cntK (rowA enc R) 1+Vm.cntK (rowA enc R) 2:Nat):Int)+1),.int .i64 (Vm.cntK (rowA enc R) 4),.bool (!(tail.toList.isEmpty)),.int .i64 (cnOf (rowA enc R)).ending]:=by
  unfold shown;rw[h.atoms,htl,hln];rfl
 rw[hsh]
 have HS0:=Z1 (QaF (⟨ht,h,Below.refl _ _⟩:DcR w p enc mark body n R tail w))
 generalize (cnOf (rowA enc R)).ending=en at *
 have b1:=hsm.h1
 have b2:=hsm.h2
 have b3:=hsm.h3
 have b4:=hsm.h4
 have b5:=hsm.h5
 have b6:=hsm.h6
 have b7:=hsm.h7
 simp only[cnOf,Cn.val] at HC HL HE b1 b2 b3 b4 b5 b6 b7 ⊢
 clear h ht hsh htl hln hsm hl
 generalize Vm.sizeA (rowA enc R)=a0 at *
 generalize Vm.bytesA (rowA enc R)=a1 at *
 generalize (rowA enc R).length=a2 at *
 generalize Vm.unitsA (rowA enc R)=a3 at *
 generalize Vm.cntK (rowA enc R) 4=a4 at *
 generalize Vm.cntK (rowA enc R) 0=a5 at *
 generalize Vm.cntK (rowA enc R) 1=a6 at *
 generalize Vm.cntK (rowA enc R) 2=a7 at *
 clear hsz hlen
 obtain⟨p0,p1,p2,p3,_⟩:=HS0.o
 have hz:=Z3 p0
 go_enter func25,ntmps25
 go_wp2_with fail
 have hba:=Z7 w (.cells #[.int .i64 0,.bool false,.int .i64 0,.int .i64 0,.int .i64 0,.int .i64 0,.int .i64 0,.bool false,.int .i64 0] 66)
 have H0:=Z1 ((Dc_r HS0.o).step hba)
 have BX0:=Z1 (Bx9.new w 66 (.int .i64 0) (.bool false) (.int .i64 0) (.int .i64 0) (.int .i64 0) (.int .i64 0) (.int .i64 0) (.bool false) (.int .i64 0))
 refine (HC.o _ H0.o).mono ?_
 rintro e w1 ⟨rfl,hb1⟩
 have H1:=Z1 (H0.o.step hb1)
 have BX1:=Z1 (BX0.o.below hb1)
 clear hb1 hba BX0 p0 p1 p2 p3 HC H0 HS0
 obtain⟨p0,p1,p2,p3,_⟩:=QaF H1.o
 have hz1:=Z3 p0
 go_wp2_with fail
 have hsz1:=H1.o.low.size
 have hS:(w1.alloc (.cells #[.int .i64 a0,.int .i64 a1,.int .i64 a2,.int .i64 a3,.int .i64 a4,.int .i64 a5,.int .i64 a6,.int .i64 a7] 119)).cell? ⟨p,0,none⟩=some (.int .i64 enc)/\(w1.alloc (.cells #[.int .i64 a0,.int .i64 a1,.int .i64 a2,.int .i64 a3,.int .i64 a4,.int .i64 a5,.int .i64 a6,.int .i64 a7] 119)).cell? ⟨p,1,none⟩=some (.bool mark)/\(w1.alloc (.cells #[.int .i64 a0,.int .i64 a1,.int .i64 a2,.int .i64 a3,.int .i64 a4,.int .i64 a5,.int .i64 a6,.int .i64 a7] 119)).cell? ⟨p,2,none⟩=some (trv n)/\(w1.alloc (.cells #[.int .i64 a0,.int .i64 a1,.int .i64 a2,.int .i64 a3,.int .i64 a4,.int .i64 a5,.int .i64 a6,.int .i64 a7] 119)).cell? ⟨p,3,none⟩=some (.string tail)/\(w1.alloc (.cells #[.int .i64 a0,.int .i64 a1,.int .i64 a2,.int .i64 a3,.int .i64 a4,.int .i64 a5,.int .i64 a6,.int .i64 a7] 119)).cell? ⟨w1.heap.size,0,none⟩=some (.int .i64 a0)/\(w1.alloc (.cells #[.int .i64 a0,.int .i64 a1,.int .i64 a2,.int .i64 a3,.int .i64 a4,.int .i64 a5,.int .i64 a6,.int .i64 a7] 119)).cell? ⟨w1.heap.size,1,none⟩=some (.int .i64 a1)/\(w1.alloc (.cells #[.int .i64 a0,.int .i64 a1,.int .i64 a2,.int .i64 a3,.int .i64 a4,.int .i64 a5,.int .i64 a6,.int .i64 a7] 119)).cell? ⟨w1.heap.size,2,none⟩=some (.int .i64 a2)/\(w1.alloc (.cells #[.int .i64 a0,.int .i64 a1,.int .i64 a2,.int .i64 a3,.int .i64 a4,.int .i64 a5,.int .i64 a6,.int .i64 a7] 119)).cell? ⟨w1.heap.size,3,none⟩=some (.int .i64 a3)/\(w1.alloc (.cells #[.int .i64 a0,.int .i64 a1,.int .i64 a2,.int .i64 a3,.int .i64 a4,.int .i64 a5,.int .i64 a6,.int .i64 a7] 119)).cell? ⟨w1.heap.size,4,none⟩=some (.int .i64 a4)/\(w1.alloc (.cells #[.int .i64 a0,.int .i64 a1,.int .i64 a2,.int .i64 a3,.int .i64 a4,.int .i64 a5,.int .i64 a6,.int .i64 a7] 119)).cell? ⟨w1.heap.size,5,none⟩=some (.int .i64 a5)/\(w1.alloc (.cells #[.int .i64 a0,.int .i64 a1,.int .i64 a2,.int .i64 a3,.int .i64 a4,.int .i64 a5,.int .i64 a6,.int .i64 a7] 119)).cell? ⟨w1.heap.size,6,none⟩=some (.int .i64 a6)/\(w1.alloc (.cells #[.int .i64 a0,.int .i64 a1,.int .i64 a2,.int .i64 a3,.int .i64 a4,.int .i64 a5,.int .i64 a6,.int .i64 a7] 119)).cell? ⟨w1.heap.size,7,none⟩=some (.int .i64 a7)/\ShR w p enc mark body n R tail w.heap.size (w1.alloc (.cells #[.int .i64 a0,.int .i64 a1,.int .i64 a2,.int .i64 a3,.int .i64 a4,.int .i64 a5,.int .i64 a6,.int .i64 a7] 119)):=by
  have hbq:=Z7 w1 (.cells #[.int .i64 a0,.int .i64 a1,.int .i64 a2,.int .i64 a3,.int .i64 a4,.int .i64 a5,.int .i64 a6,.int .i64 a7] 119);obtain⟨z0,z1,z2,z3,_⟩:=QaF (H1.o.step hbq);obtain⟨y0,y1,y2,y3,y4,y5,y6,y7,y8,yf⟩:=BX1.o.below hbq;refine⟨z0,z1,z2,z3,by simp,by simp,by simp,by simp,by simp,by simp,by simp,by simp,⟨(H1.o.step hbq).low,fun j hj=>?_,yf,Z6 _⟩⟩;have hj':j=0\/j=1\/j=2\/j=3\/j=4\/j=5\/j=6\/j=7\/j=8:=by omega
  rcases hj' with rfl|rfl|rfl|rfl|rfl|rfl|rfl|rfl|rfl
  ·exact⟨_,y0⟩
  ·exact⟨_,y1⟩
  ·exact⟨_,y2⟩
  ·exact⟨_,y3⟩
  ·exact⟨_,y4⟩
  ·exact⟨_,y5⟩
  ·exact⟨_,y6⟩
  ·exact⟨_,y7⟩
  exact⟨_,y8⟩
 have hCz:=Z3 BX1.o.c0
 have hQC:w1.heap.size≠w.heap.size:=by omega
 have hpC:p≠w.heap.size:=by omega
 clear H1 BX1 p0 p1 p2 p3 hCz
 generalize w1.heap.size=Q at *
 generalize w.heap.size=C at *
 generalize (w1.alloc (.cells #[.int .i64 a0,.int .i64 a1,.int .i64 a2,.int .i64 a3,.int .i64 a4,.int .i64 a5,.int .i64 a6,.int .i64 a7] 119))=W at *
 have HSS:=Z1 hS
 obtain⟨p0,p1,p2,p3,q0,q1,q2,q3,q4,q5,q6,q7,_⟩:=hS
 have hSd:=Qk8 HSS.o
 go_region_held3 (fun w'=>w'.cell? ⟨p,0,none⟩=some (.int .i64 enc)/\w'.cell? ⟨p,1,none⟩=some (.bool mark)/\w'.cell? ⟨p,2,none⟩=some (trv n)/\w'.cell? ⟨p,3,none⟩=some (.string tail)/\w'.cell? ⟨Q,0,none⟩=some (.int .i64 a0)/\w'.cell? ⟨Q,1,none⟩=some (.int .i64 a1)/\w'.cell? ⟨Q,2,none⟩=some (.int .i64 a2)/\w'.cell? ⟨Q,3,none⟩=some (.int .i64 a3)/\w'.cell? ⟨Q,4,none⟩=some (.int .i64 a4)/\w'.cell? ⟨Q,5,none⟩=some (.int .i64 a5)/\w'.cell? ⟨Q,6,none⟩=some (.int .i64 a6)/\w'.cell? ⟨Q,7,none⟩=some (.int .i64 a7)/\ShR w p enc mark body n R tail C w')
  (first|with_reducible assumption|with_reducible exact HSS.o|with_reducible exact Qk8 HSS.o|with_reducible exact Qbw (Qbw (Qbw (Qbw (Qbw (Qbw (Qbw (Qbw (Qbw hS5 hpC hQC 0 _) hpC hQC 1 _) hpC hQC 2 _) hpC hQC 3 _) hpC hQC 4 _) hpC hQC 5 _) hpC hQC 6 _) hpC hQC 7 _) hpC hQC 8 _)
  (first
   |(go_at_call 56;refine (HL.o _).mono ?_;rintro e w4 ⟨rfl,hb4⟩;have hS4:=Qi2 (by assumption) hb4)
   |(go_at_call 57;refine (HE.o _).mono ?_;rintro e w5 ⟨rfl,hb5⟩;have hS5:=Qi2 (by assumption) hb5;obtain⟨u0,s0⟩:=(Sh_r hS5).res 0 (by decide);have f0:=(Sh_r hS5).fr 0;obtain⟨u1,s1⟩:=(Sh_r hS5).res 1 (by decide);have f1:=(Sh_r hS5).fr 1;obtain⟨u2,s2⟩:=(Sh_r hS5).res 2 (by decide);have f2:=(Sh_r hS5).fr 2;obtain⟨u3,s3⟩:=(Sh_r hS5).res 3 (by decide);have f3:=(Sh_r hS5).fr 3;obtain⟨u4,s4⟩:=(Sh_r hS5).res 4 (by decide);have f4:=(Sh_r hS5).fr 4;obtain⟨u5,s5⟩:=(Sh_r hS5).res 5 (by decide);have f5:=(Sh_r hS5).fr 5;obtain⟨u6,s6⟩:=(Sh_r hS5).res 6 (by decide);have f6:=(Sh_r hS5).fr 6;obtain⟨u7,s7⟩:=(Sh_r hS5).res 7 (by decide);have f7:=(Sh_r hS5).fr 7;obtain⟨u8,s8⟩:=(Sh_r hS5).res 8 (by decide);have f8:=(Sh_r hS5).fr 8))
 have hw:IntKind.i64.wrap ((a5:Int)+(a6:Int)+(a7:Int)+1)=((a5+a6+a7:Nat):Int)+1:=by rw[IntKind.wrap_i64];omega
 rw[hw]
 have HS5:=Z1 hS5
 clear hS4 hS5 hSd p0 p1 p2 p3 q0 q1 q2 q3 q4 q5 q6 q7 f0 f1 f2 f3 f4 f5 f6 f7 f8 HSS hw
 go_wp2_with fail
 refine bodyPost_ret (v:=.agg #[.int .i64 enc,.bool mark,.int .i64 a1,.int .i64 a2,.int .i64 a3,.int .i64 (((a5+a6+a7:Nat):Int)+1),.int .i64 a4,.bool (!(tail.toList.isEmpty)),.int .i64 en]) (by simp [results,Tryz.results25,go_sem,s0,s1,s2,s3,s4,s5,s6,s7,s8]) rfl ⟨rfl,?_⟩
 have hS5:=HS5.o
 exact (Sh_r (Qbw (Qbw (Qbw (Qbw (Qbw (Qbw (Qbw (Qbw (Qbw hS5 hpC hQC 0 _) hpC hQC 1 _) hpC hQC 2 _) hpC hQC 3 _) hpC hQC 4 _) hpC hQC 5 _) hpC hQC 6 _) hpC hQC 7 _) hpC hQC 8 _)).low
end Go.Proofs.YtoejbngihecafaaGreatDoor
