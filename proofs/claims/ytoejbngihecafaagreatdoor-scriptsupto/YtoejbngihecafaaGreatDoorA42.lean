import Derived.Test.YtoejbngihecafaaGreatDoorA6
import Derived.Test.YtoejbngihecafaaGreatDoorA23
set_option maxRecDepth 100000
set_option maxHeartbeats 4000000
namespace Go.Proofs.YtoejbngihecafaaGreatDoor
open Go.RowKit
def rplV (A:List Vm.At) (o:Int):Int × Int :=
 if o<0\/(Vm.bytesA A:Int)<o then (0,2) else if (Vm.bytesA (A.take (Vm.plK A o)):Int)<o then (0,3) else (Vm.plK A o,0)
theorem rplV_out {A:List Vm.At} {o:Int} (h:o<0\/(Vm.bytesA A:Int)<o):rplV A o=(0,2):=by unfold rplV;rw[if_pos h]
theorem rplV_at {A:List Vm.At} {k:Nat} {o:Int} (hk:k<=A.length) (ho:(Vm.bytesA (A.take k):Int)=o):rplV A o=((k:Int),0):=by
 subst ho
 have h1:Vm.plK A (Vm.bytesA (A.take k))=k:=Vm.plK_eq hk (Int.le_refl _) (fun hl=>by have:=Vm.bytesA_lt A k (k+1) (by omega) hl;omega)
 have h2:Vm.bytesA (A.take k)<=Vm.bytesA A:=by have:=Vm.bytesA_mono A k A.length hk;rwa [List.take_length] at this
 unfold rplV
 rw[h1,if_neg (by omega),if_neg (by omega)]
theorem rplV_in {A:List Vm.At} {k:Nat} {o:Int} (hk:k<A.length) (h1:(Vm.bytesA (A.take k):Int)<o) (h2:o<Vm.bytesA (A.take (k+1))):rplV A o=(0,3):=by
 have h3:Vm.plK A o=k:=Vm.plK_eq (by omega) (by omega) (fun _=>h2)
 have h4:Vm.bytesA (A.take (k+1))<=Vm.bytesA A:=by have:=Vm.bytesA_mono A (k+1) A.length hk;rwa [List.take_length] at this
 unfold rplV
 rw[h3,if_neg (by omega),if_pos h1]
theorem rplace_any (v:Value) (L:List Vm.RA) (A:List Vm.At) (base:Nat) (o:Int) (w:World) (ho:Holds w base v L) (hr:Vm.Reads L A 0) (hok:∀x∈A,Vm.AtOk x) (hl:L.length<=1099511627776) :
  Calls Tryz.prog 146 #[v,.int .i64 o] w fun e w'=>e=.returned (.tuple #[.int .i64 (rplV A o).1,.int .i64 (rplV A o).2])/\Below w.heap.size w w':=by
 obtain⟨p,cap,rfl⟩:∃p cap,v=.slice p L.length cap:=by
  rcases ho.2 with ⟨x,y⟩|⟨g,c,cur,x,_⟩
  ·exact⟨none,0,by rw[x,y]⟩
  ·exact⟨_,_,x⟩
 have hlen:=hr.length
 obtain⟨V,hV⟩:∃V,V=rplV A o:=⟨_,rfl⟩
 rw[<-hV]
 have HV:=Z2 hV
 have HO:=Z2 ho
 have HR:=Z2 hr
 have HL:=Z2 hlen
 have HOK:=Z2 hok
 clear ho hr hlen hV hok
 by_cases hneg:o<0
 ·go_enter Tryz.func146,Tryz.ntmps146
  go_wp2
  go_ret2
  exact⟨by rw[HV.out,rplV_out (.inl hneg)];rfl,Below.refl _ _⟩
 ·go_enter Tryz.func146,Tryz.ntmps146
  go_wp2
  go_loopw [6,7] (fun at_ i wx=>∃k:Nat,k<=L.length/\at_=.int .i64 (Vm.bytesA (A.take k))/\i=.int .i64 k/\(Vm.bytesA (A.take k):Int)<=o/\Below w.heap.size w wx) (fun _ i _=>L.length - (intOf i).toNat)
  case atStart=>exact⟨0,Nat.zero_le _,rfl,rfl,by simpa [Vm.bytesA] using hneg,Below.refl _ _⟩
  case round =>
   obtain⟨k,hk,rfl,rfl,hle,hbx⟩:=hrel
   have m1:=Vm.bytesA_le (A.take k)
   have mt:(A.take k).length<=k:=by simp;omega
   by_cases hlt:k<L.length
   ·skip
    have hltI:(k:Int)<(L.length:Int):=by omega
    obtain⟨a,ha⟩:∃a,L[k]?=some a:=⟨L[k],List.getElem?_eq_getElem hlt⟩
    obtain⟨x,pz,hx,hra0⟩:=reads_get HR.out k a ha
    have hxo:=HOK.out x (List.mem_of_getElem? hx)
    have hch:=raok_char hra0 hxo
    have hcb:Vm.chA x<=1114111/\0<=Vm.chA x:=⟨hxo.2.2.2.2.2.1,hxo.2.2.2.2.1⟩
    obtain⟨g,rfl⟩:∃g,p=some ⟨g,0,none⟩:=by
     rcases HO.out.2 with ⟨y,z⟩|⟨g,c,cur,y,_⟩
     ·omega
     ·injection y with y1;exact⟨g,y1⟩
    have hgl:=(HO.out.lt g rfl).2
    have hcells:∀wx,Below w.heap.size w wx->wx.cell? ⟨g,k * 5,none⟩=some (.int .i64 a.1)/\wx.cell? ⟨g,k * 5+1,none⟩=some (.bool a.2.1)/\wx.cell? ⟨g,k * 5+2,none⟩=some (.int .i64 a.2.2.1)/\wx.cell? ⟨g,k * 5+3,none⟩=some (.int .i64 a.2.2.2.1)/\wx.cell? ⟨g,k * 5+4,none⟩=some (.int .i64 a.2.2.2.2):=fun wx hbx=>by
     have cell:=fun j (hj:j<5)=>((HO.out.below hbx).cellAt (k * 5+j) (by omega)).trans (flatRA_at L k a j ha hj)
     exact⟨cell 0 (by decide),cell 1 (by decide),cell 2 (by decide),cell 3 (by decide),cell 4 (by decide)⟩
    have hsh:=rshown_any a
    have hrange:a.2.1=false->0<=a.1/\a.1<=1114111:=fun h=>by rw[h] at hch;simp only[Bool.false_eq_true,if_false] at hch;rw[hch];exact⟨hcb.2,hcb.1⟩
    have HRG:=Z2 hrange
    rw[hch] at hsh
    have t1:=Z2 (Vm.bytesA_take hx)
    have HCE:=Z2 hcells
    have HSH:=Z2 hsh
    have hlen:=str_len (Vm.chA x)
    have hlc:=Vm.utfLen_cases (Vm.chA x)
    have HLN:=Z2 hlen
    have hlen':Vm.lenA x=Vm.utfLen (Vm.chA x):=rfl
    clear hcells hsh hrange hch hra0 ha hlen hxo
    obtain⟨q0,q1,q2,q3,q4⟩:=HCE.out _ hbx
    by_cases heq:(Vm.bytesA (A.take k):Int)=o
    ·have hR:=Z2 (rplV_at (A:=A) (k:=k) (by rw[<-HL.out];omega) heq)
     go_wp2
     go_ret2
     exact⟨by rw[HV.out,hR.out];rfl,hbx⟩
    ·have hkA:k<A.length:=by rw[<-HL.out];exact hlt
     have HIN:=Z2 (fun h2=>rplV_in (A:=A) (k:=k) (o:=o) hkA (by omega) h2)
     rw[t1.out,hlen'] at HIN
     generalize e1:Vm.bytesA (A.take k)=b1 at *
     have E1:=Z2 e1
     clear e1
     generalize e2:Vm.utfLen (Vm.chA x)=u1 at *
     have E2:=Z2 e2
     clear e2
     have heqb:((b1:Int)==o)=false:=by simpa using heq
     have hzg:g<wr.heap.size:=Z3 q0
     have hzs:=HLN.out
     go_wp2_with fail
     refine (HSH.out _ HRG.out).mono ?_
     rintro e w2 ⟨rfl,hb2⟩
     have hb2':=hbx.trans (hb2.mono hbx.size)
     by_cases hgt:o<(b1:Int)+(u1:Int)
     ·have hR:=Z2 (HIN.out (by omega))
      clear q0 q1 q2 q3 q4
      go_wp2_with fail
      go_ret2
      exact⟨by rw[HV.out,hR.out];rfl,hb2'⟩
     ·clear q0 q1 q2 q3 q4
      go_wp2_with fail
      refine⟨⟨k+1,by omega,?_,by go_num,?_,hb2'⟩,by simp [intOf];omega⟩
      ·rw[t1.out,hlen'];rfl
      ·rw[t1.out,hlen'];omega
   ·obtain rfl:k=L.length:=by omega
    have hall:A.take L.length=A:=by rw[HL.out,List.take_length]
    have hR1:=Z2 (fun h=>rplV_at (A:=A) (k:=L.length) (o:=o) (by rw[HL.out];exact Nat.le_refl _) (by rw[hall];exact h))
    have hR2:=Z2 (fun h=>rplV_out (A:=A) (o:=o) (.inr h))
    rw[hall] at hle m1 ⊢
    clear hall mt
    generalize Vm.bytesA A=b1 at *
    by_cases heq:(b1:Int)=o
    ·have heqb:((b1:Int)==o)=true:=by simpa using heq
     go_wp2_with fail
     go_ret2
     exact⟨by rw[HV.out,hR1.out heq];rfl,hbx⟩
    ·have heqb:((b1:Int)==o)=false:=by simpa using heq
     go_wp2_with fail
     go_ret2
     exact⟨by rw[HV.out,hR2.out (by omega)];rfl,hbx⟩
end Go.Proofs.YtoejbngihecafaaGreatDoor
namespace Go.Proofs.YtoejbngihecafaaGreatDoor
open Go.RowKit
theorem posV_of {A:List Vm.At} {o:Int} (h:(rplV A o).2≠0):Vm.posV A o=(0,0,(rplV A o).2):=by
 unfold rplV at h ⊢
 unfold Vm.posV
 by_cases h1:o<0\/(Vm.bytesA A:Int)<o
 ·rw[if_pos h1,if_pos h1]
 ·rw[if_neg h1] at h ⊢
  rw[if_neg h1]
  by_cases h2:(Vm.bytesA (A.take (Vm.plK A o)):Int)<o
  ·rw[if_pos h2,if_pos h2]
  ·rw[if_neg h2] at h;exact absurd rfl h
theorem posV_ok {A:List Vm.At} {o:Int} (h:(rplV A o).2=0):∃k:Nat,k<=A.length/\(rplV A o).1=k/\Vm.posV A o=((Vm.linesA (A.take k):Int),(Vm.colA (A.take k):Int),0):=by
 unfold rplV at h ⊢
 unfold Vm.posV
 by_cases h1:o<0\/(Vm.bytesA A:Int)<o
 ·rw[if_pos h1] at h;cases h
 ·rw[if_neg h1] at h ⊢
  rw[if_neg h1]
  by_cases h2:(Vm.bytesA (A.take (Vm.plK A o)):Int)<o
  ·rw[if_pos h2] at h;cases h
  ·rw[if_neg h2,if_neg h2]
   exact⟨_,(Vm.plK_spec A o (by omega)).1,rfl,rfl⟩
theorem rposition_any (B:Nat) (enc:Int) (mark:Bool) (body:ByteArray) (o:Int) (w:World) (hd:RDoc w B enc mark body) (hs:body.size<=1099511627776) (h0:0<=enc) (h3:enc<=3) :
  Calls Tryz.prog 117 #[.pointer (some ⟨B,0,none⟩),.int .i64 o] w fun e w'=>e=.returned (.tuple #[.int .i64 (Vm.posV (Vm.atoms enc body.data.toList) o).1,.int .i64 (Vm.posV (Vm.atoms enc body.data.toList) o).2.1,.int .i64 (Vm.posV (Vm.atoms enc body.data.toList) o).2.2])/\Below w.heap.size w w':=by
 have hok:=Vm.atoms_ok enc body.data.toList
 have hca:=rdatoms_any B enc mark body
 generalize Vm.atoms enc body.data.toList=A at *
 have HC:=Z2 hca
 have HD:=Z2 hd
 clear hca hd
 obtain⟨V,hV⟩:∃V,V=Vm.posV A o:=⟨_,rfl⟩
 rw[<-hV]
 have HV:=Z2 hV
 clear hV
 go_enter Tryz.func117,Tryz.ntmps117
 go_wp2_with fail
 refine (HC.out _ HD.out hs h0 h3).mono ?_
 rintro e w1 ⟨v,L,rfl,hr,hl,ho,hb1⟩
 have HP:=Z2 (rplace_any v L A _ o w1 ho hr hok (by omega))
 obtain⟨p,cap,rfl⟩:∃p cap,v=.slice p L.length cap:=by
  rcases ho.2 with ⟨x,y⟩|⟨g,c,cur,x,_⟩
  ·exact⟨none,0,by rw[x,y]⟩
  ·exact⟨_,_,x⟩
 have HO:=Z2 ho
 have HR:=Z2 hr
 have HL:=Z2 hr.length
 have HOK:=Z2 hok
 clear ho hr hok HC HD
 by_cases he:(rplV A o).2=0
 ·obtain⟨k0,hk0,hk1,hk2⟩:=posV_ok he
  rw[he,hk1] at HP
  have HK2:=Z2 hk2
  clear he hk1 hk2
  go_wp2_with fail
  refine HP.out.mono ?_
  rintro e w2 ⟨rfl,hb2⟩
  have hb12:=hb1.trans (hb2.mono hb1.size)
  have HO2:=Z2 (HO.out.below hb2)
  clear HP HO
  go_wp2_with fail
  go_loopw [10,11,12] (fun line col i wx=>∃k:Nat,k<=k0/\line=.int .i64 (Vm.linesA (A.take k))/\col=.int .i64 (Vm.colA (A.take k))/\i=.int .i64 k/\Below w2.heap.size w2 wx) (fun _ _ i _=>k0 - (intOf i).toNat)
  case atStart=>exact⟨0,Nat.zero_le _,rfl,rfl,rfl,Below.refl _ _⟩
  case round =>
   obtain⟨k,hk,rfl,rfl,rfl,hbx⟩:=hrel
   have m3:=Vm.linesA_le (A.take k)
   have mc:Vm.colA (A.take k)<=Vm.unitsA (A.take k):=by
    have:=Vm.units_col HOK.out k (by omega)
    omega
   have m1:=Vm.unitsA_le (A.take k)
   have mt:(A.take k).length<=k:=by simp;omega
   by_cases hlt:k<k0
   ·skip
    have hltI:(k:Int)<(k0:Int):=by omega
    have hltL:k<L.length:=by rw[HL.out];omega
    have hltLI:(k:Int)<(L.length:Int):=by omega
    obtain⟨a,ha⟩:∃a,L[k]?=some a:=⟨L[k],List.getElem?_eq_getElem hltL⟩
    obtain⟨x,pz,hx,hra0⟩:=reads_get HR.out k a ha
    have hxo:=HOK.out x (List.mem_of_getElem? hx)
    have hch:=raok_char hra0 hxo
    have hend:=hra0.2.2.2.1
    have hx0:=hra0.2.2.2.2.2.1
    obtain⟨g,rfl⟩:∃g,p=some ⟨g,0,none⟩:=by
     rcases HO2.out.2 with ⟨y,z⟩|⟨g,c,cur,y,_⟩
     ·omega
     ·injection y with y1;exact⟨g,y1⟩
    have hcells:∀wx,Below w2.heap.size w2 wx->wx.cell? ⟨g,k * 5,none⟩=some (.int .i64 a.1)/\wx.cell? ⟨g,k * 5+1,none⟩=some (.bool a.2.1)/\wx.cell? ⟨g,k * 5+2,none⟩=some (.int .i64 a.2.2.1)/\wx.cell? ⟨g,k * 5+3,none⟩=some (.int .i64 a.2.2.2.1)/\wx.cell? ⟨g,k * 5+4,none⟩=some (.int .i64 a.2.2.2.2):=fun wx hbx=>by
     have cell:=fun j (hj:j<5)=>((HO2.out.below hbx).cellAt (k * 5+j) (by omega)).trans (flatRA_at L k a j ha hj)
     exact⟨cell 0 (by decide),cell 1 (by decide),cell 2 (by decide),cell 3 (by decide),cell 4 (by decide)⟩
    have hun:=runits_any a
    have hune:(if a.2.1=false/\65535<a.1 then (2:Int) else 1)=(Vm.unA x:Int):=by
     unfold Vm.unA
     rw[<-hch]
     cases a.2.1<;>simp
     split<;>rfl
    rw[hune] at hun
    have t1:=Z2 (Vm.colA_take hx)
    have t3:=Z2 (Vm.linesA_take hx)
    have HCE:=Z2 hcells
    have HUN:=Z2 hun
    have hul:Vm.unA x<=2:=by unfold Vm.unA;split<;>omega
    clear hcells hune hch hra0 hx ha hxo hun
    obtain⟨q0,q1,q2,q3,q4⟩:=HCE.out _ hbx
    have hzg:=Z3 q0
    have mk:k<=1099511627776:=by have:=HL.out;omega
    generalize Vm.linesA (A.take k)=l1 at *
    generalize Vm.colA (A.take k)=c1 at *
    generalize a.2.2.1=ae at *
    by_cases hx2:x.1<=2
    ·have hpos:0<ae:=by rw[hend,if_pos hx2];omega
     clear hend
     have T1:=t1.out
     have T3:=t3.out
     rw[if_pos hx2] at T1 T3
     have TT1:=Z2 T1
     have TT3:=Z2 T3
     clear T1 T3 t1 t3
     go_wp2_with fail
     refine (HUN.out _).mono ?_
     rintro e w3 ⟨rfl,hb3⟩
     have hb23:=hbx.trans (hb3.mono hbx.size)
     clear q0 q1 q2 q3 q4
     obtain⟨q0,q1,q2,q3,q4⟩:=HCE.out _ hb23
     have hzg3:=Z3 q0
     clear hb3 HUN HCE
     go_wp2_with fail
     refine⟨⟨k+1,by omega,?_,?_,by go_num,hb23⟩,by simp [intOf];omega⟩
     ·rw[TT3.out];rfl
     ·rw[TT1.out];rfl
    ·have hzr:ae=0:=by rw[hend,if_neg hx2]
     clear hend
     subst hzr
     have T1:=t1.out
     have T3:=t3.out
     rw[if_neg hx2] at T1 T3
     have TT1:=Z2 T1
     have TT3:=Z2 T3
     clear T1 T3 t1 t3
     go_wp2_with fail
     refine (HUN.out _).mono ?_
     rintro e w3 ⟨rfl,hb3⟩
     have hb23:=hbx.trans (hb3.mono hbx.size)
     clear q0 q1 q2 q3 q4
     obtain⟨q0,q1,q2,q3,q4⟩:=HCE.out _ hb23
     have hzg3:=Z3 q0
     clear hb3 HUN HCE
     go_wp2_with fail
     refine⟨⟨k+1,by omega,?_,?_,by go_num,hb23⟩,by simp [intOf];omega⟩
     ·rw[TT3.out];rfl
     ·rw[TT1.out];rfl
   ·obtain rfl:k=k0:=by omega
    go_wp2_with fail
    refine bodyPost_ret (v:=.tuple #[.int .i64 (Vm.linesA (A.take k)),.int .i64 (Vm.colA (A.take k)),.int .i64 0]) (by simp [results,Tryz.results117,go_sem]) rfl ⟨by rw[HV.out,HK2.out],hb12.trans (hbx.mono hb12.size)⟩
 ·have hpv:=posV_of he
  have HPV:=Z2 hpv
  clear hpv
  generalize (rplV A o).1=r1 at *
  generalize (rplV A o).2=r2 at *
  have heb:(r2==0)=false:=by simpa using he
  go_wp2_with fail
  refine HP.out.mono ?_
  rintro e w2 ⟨rfl,hb2⟩
  go_wp2_with fail
  refine bodyPost_ret (v:=.tuple #[.int .i64 0,.int .i64 0,.int .i64 r2]) (by simp [results,Tryz.results117,go_sem]) rfl ⟨by rw[HV.out,HPV.out],hb1.trans (hb2.mono hb1.size)⟩
end Go.Proofs.YtoejbngihecafaaGreatDoor
namespace Vm
open Go.Proofs.YtoejbngihecafaaGreatDoor
def bestK (A:List At) (line col:Int):Nat->Nat
 |0=>0
 |k+1=>if (linesA (A.take k):Int)=line/\(colA (A.take k):Int)<=col then bytesA (A.take k) else bestK A line col k
theorem bestK_eq (A:List At) (line col:Int) (k:Nat) (hk:(linesA (A.take k):Int)=line/\(colA (A.take k):Int)<=col):∀m,k<m->(∀i,k<i->i<m->¬((linesA (A.take i):Int)=line/\(colA (A.take i):Int)<=col))->bestK A line col m=bytesA (A.take k)
 |0,h,_=>by omega
 |m+1,h,hn=>by
  unfold bestK
  by_cases e:k=m
  ·subst e;rw[if_pos hk]
  ·rw[if_neg (hn m (by omega) (by omega))]
   exact bestK_eq A line col k hk m (by omega) (fun i h1 h2=>hn i h1 (by omega))
theorem offV_best {A:List At} (hA:∀x∈A,AtOk x) {line col:Int} (h0:0<=line) (hl:line<=linesA A) (hc:0<=col):offV A line col=((bestK A line col (A.length+1):Int),0):=by
 obtain⟨n,rfl⟩:∃n:Nat,line=n:=⟨line.toNat,by omega⟩
 obtain⟨h1,h2,h3,h4⟩:=offK_spec hA (line:=n) (col:=col) (by omega) hc
 unfold offV
 rw[if_neg (by omega),if_neg (by omega),bestK_eq A n col _ ⟨by rw[h2],h3⟩ (A.length+1) (by omega) (fun i g1 g2 g3=>h4 i g1 (by omega) ⟨by omega,g3.2⟩)]
theorem bestK_le (A:List At) (line col:Int):∀k,bestK A line col k<=bytesA A
 |0=>Nat.zero_le _
 |k+1=>by
  unfold bestK
  split
  ·by_cases hk:k<=A.length
   ·have:=bytesA_mono A k A.length hk;rwa [List.take_length] at this
   ·rw[List.take_of_length_le (by omega)];exact Nat.le_refl _
  ·exact bestK_le A line col k
end Vm
namespace Go.Proofs.YtoejbngihecafaaGreatDoor
open Go.RowKit
theorem roffset_any (B:Nat) (enc:Int) (mark:Bool) (body:ByteArray) (line col:Int) (w:World) (hd:RDoc w B enc mark body) (hs:body.size<=1099511627776) (h0:0<=enc) (h3:enc<=3) :
  Calls Tryz.prog 119 #[.pointer (some ⟨B,0,none⟩),.int .i64 line,.int .i64 col] w fun e w'=>e=.returned (.tuple #[.int .i64 (Vm.offV (Vm.atoms enc body.data.toList) line col).1,.int .i64 (Vm.offV (Vm.atoms enc body.data.toList) line col).2])/\Below w.heap.size w w':=by
 have hok:=Vm.atoms_ok enc body.data.toList
 have hca:=rdatoms_any B enc mark body
 have hsh:=rshow_any B enc mark body w hd hs h0 h3
 have hlA:(Vm.atoms enc body.data.toList).length<=1099511627776:=by
  have h1:=Vm.len_sizeA hok
  have h2:Vm.sizeA (Vm.atoms enc body.data.toList)<=body.size:=Vm.sizeA_le (List.prefix_refl _)
  omega
 generalize Vm.atoms enc body.data.toList=A at *
 have HC:=Z2 hca
 have HD:=Z2 hd
 have HS:=Z2 hsh
 clear hca hd hsh
 obtain⟨V,hV⟩:∃V,V=Vm.offV A line col:=⟨_,rfl⟩
 rw[<-hV]
 have HV:=Z2 hV
 clear hV
 have hll:=Vm.linesA_le A
 by_cases h1:line<0
 ·have HR:=Z2 (show Vm.offV A line col=(0,10) by unfold Vm.offV;rw[if_pos (.inl h1)])
  go_enter Tryz.func119,Tryz.ntmps119
  go_wp2_with fail
  refine HS.out.mono ?_
  rintro e w1 ⟨he,hb1⟩
  obtain rfl:=he A rfl
  clear he HS
  have HBA:=Z2 (hb1.alloc hb1.size (.cells #[.int .i64 enc,.bool mark,.int .i64 (Vm.bytesA A),.int .i64 A.length,.int .i64 (Vm.unitsA A),.int .i64 ((Vm.linesA A:Int)+1),.int .i64 (Vm.cntK A 4),.bool (decide (Vm.sizeA A<body.size)),.int .i64 (Vm.endingOf (Vm.cntK A 0) (Vm.cntK A 1) (Vm.cntK A 2))] 66))
  generalize Vm.linesA A=N at *
  generalize Vm.endingOf (Vm.cntK A 0) (Vm.cntK A 1) (Vm.cntK A 2)=en at *
  generalize (decide (Vm.sizeA A<body.size))=tl at *
  generalize Vm.cntK A 4=c4 at *
  generalize Vm.unitsA A=c3 at *
  generalize Vm.bytesA A=c1 at *
  go_wp2_with fail
  go_ret2
  exact⟨by rw[HV.out,HR.out];rfl,HBA.out⟩
 ·by_cases h2:(Vm.linesA A:Int)<line
  ·have HR:=Z2 (show Vm.offV A line col=(0,10) by unfold Vm.offV;rw[if_pos (.inr h2)])
   have h2':(Vm.linesA A:Int)+1<=line:=by omega
   go_enter Tryz.func119,Tryz.ntmps119
   go_wp2_with fail
   refine HS.out.mono ?_
   rintro e w1 ⟨he,hb1⟩
   obtain rfl:=he A rfl
   clear he HS
   have HBA:=Z2 (hb1.alloc hb1.size (.cells #[.int .i64 enc,.bool mark,.int .i64 (Vm.bytesA A),.int .i64 A.length,.int .i64 (Vm.unitsA A),.int .i64 ((Vm.linesA A:Int)+1),.int .i64 (Vm.cntK A 4),.bool (decide (Vm.sizeA A<body.size)),.int .i64 (Vm.endingOf (Vm.cntK A 0) (Vm.cntK A 1) (Vm.cntK A 2))] 66))
   generalize Vm.linesA A=N at *
   generalize Vm.endingOf (Vm.cntK A 0) (Vm.cntK A 1) (Vm.cntK A 2)=en at *
   generalize (decide (Vm.sizeA A<body.size))=tl at *
   generalize Vm.cntK A 4=c4 at *
   generalize Vm.unitsA A=c3 at *
   generalize Vm.bytesA A=c1 at *
   go_wp2_with fail
   go_ret2
   exact⟨by rw[HV.out,HR.out];rfl,HBA.out⟩
  ·have h2':¬(
          Vm.linesA A:Int)+1<=line:=by omega
   by_cases h4:col<0
   ·have HR:=Z2 (show Vm.offV A line col=(0,2) by unfold Vm.offV;rw[if_neg (by omega),if_pos h4])
    go_enter Tryz.func119,Tryz.ntmps119
    go_wp2_with fail
    refine HS.out.mono ?_
    rintro e w1 ⟨he,hb1⟩
    obtain rfl:=he A rfl
    clear he HS
    have HBA:=Z2 (hb1.alloc hb1.size (.cells #[.int .i64 enc,.bool mark,.int .i64 (Vm.bytesA A),.int .i64 A.length,.int .i64 (Vm.unitsA A),.int .i64 ((Vm.linesA A:Int)+1),.int .i64 (Vm.cntK A 4),.bool (decide (Vm.sizeA A<body.size)),.int .i64 (Vm.endingOf (Vm.cntK A 0) (Vm.cntK A 1) (Vm.cntK A 2))] 66))
    generalize Vm.linesA A=N at *
    generalize Vm.endingOf (Vm.cntK A 0) (Vm.cntK A 1) (Vm.cntK A 2)=en at *
    generalize (decide (Vm.sizeA A<body.size))=tl at *
    generalize Vm.cntK A 4=c4 at *
    generalize Vm.unitsA A=c3 at *
    generalize Vm.bytesA A=c1 at *
    go_wp2_with fail
    go_ret2
    exact⟨by rw[HV.out,HR.out];rfl,HBA.out⟩
   ·have HR:=Z2 (Vm.offV_best hok (line:=line) (col:=col) (by omega) (by omega) (by omega))
    have HBL:=Z2 (Vm.bestK_le A line col)
    have hby:=Vm.bytesA_le A
    have HOK:=Z2 hok
    clear hok
    go_enter Tryz.func119,Tryz.ntmps119
    go_wp2_with fail
    refine HS.out.mono ?_
    rintro e w1 ⟨he,hb1⟩
    obtain rfl:=he A rfl
    clear he HS
    have HBA:=Z2 (hb1.alloc hb1.size (.cells #[.int .i64 enc,.bool mark,.int .i64 (Vm.bytesA A),.int .i64 A.length,.int .i64 (Vm.unitsA A),.int .i64 ((Vm.linesA A:Int)+1),.int .i64 (Vm.cntK A 4),.bool (decide (Vm.sizeA A<body.size)),.int .i64 (Vm.endingOf (Vm.cntK A 0) (Vm.cntK A 1) (Vm.cntK A 2))] 66))
    generalize Vm.linesA A=N at *
    generalize Vm.endingOf (Vm.cntK A 0) (Vm.cntK A 1) (Vm.cntK A 2)=en at *
    generalize (decide (Vm.sizeA A<body.size))=tl at *
    generalize Vm.cntK A 4=c4 at *
    generalize Vm.unitsA A=c3 at *
    generalize hc1:Vm.bytesA A=c1 at *
    have HC1:=Z2 hc1
    clear hc1
    go_wp2_with fail
    refine (HC.out _ (HD.out.below HBA.out) hs h0 h3).mono ?_
    rintro e w2 ⟨v,L,rfl,hr,hl,ho,hb2⟩
    have hbw2:=HBA.out.trans (hb2.mono HBA.out.size)
    obtain⟨p,cap,rfl⟩:∃p cap,v=.slice p L.length cap:=by
     rcases ho.2 with ⟨x,y⟩|⟨g,c,cur,x,_⟩
     ·exact⟨none,0,by rw[x,y]⟩
     ·exact⟨_,_,x⟩
    have HO2:=Z2 ho
    have HR2:=Z2 hr
    have HL:=Z2 hr.length
    clear ho hr hb2 HC HD HBA
    go_wp2_with fail
    go_loopw [10,11,12,13,14] (fun best at_ n c i wx=>∃k:Nat,k<=L.length/\best=.int .i64 (Vm.bestK A line col k)/\at_=.int .i64 (Vm.bytesA (A.take k))/\n=.int .i64 (Vm.linesA (A.take k))/\c=.int .i64 (Vm.colA (A.take k))/\i=.int .i64 k/\Below w2.heap.size w2 wx) (fun _ _ _ _ i _=>L.length+1 - (intOf i).toNat)
    case atStart=>exact⟨0,Nat.zero_le _,rfl,rfl,rfl,rfl,rfl,Below.refl _ _⟩
    case round =>
     obtain⟨k,hk,rfl,rfl,rfl,rfl,rfl,hbx⟩:=hrel
     have mL1:L.length<=A.length:=by rw[HL.out];exact Nat.le_refl _
     have mL2:A.length<=L.length:=by rw[HL.out];exact Nat.le_refl _
     have m3:=Vm.linesA_le (A.take k)
     have mc:Vm.colA (A.take k)<=Vm.unitsA (A.take k):=by
      have:=Vm.units_col HOK.out k (by omega)
      omega
     have m1:=Vm.unitsA_le (A.take k)
     have m4:=Vm.bytesA_le (A.take k)
     have mt:(A.take k).length<=k:=by simp;omega
     have hbk:Vm.bestK A line col (k+1)=if (Vm.linesA (A.take k):Int)=line/\(Vm.colA (A.take k):Int)<=col then Vm.bytesA (A.take k) else Vm.bestK A line col k:=rfl
     have hleL:(k:Int)<=(L.length:Int):=by omega
     generalize hEL:Vm.linesA (A.take k)=l1 at *
     generalize hEC:Vm.colA (A.take k)=cc1 at *
     generalize hEB:Vm.bytesA (A.take k)=b1 at *
     have EL:=Z2 hEL
     have EC:=Z2 hEC
     have EB:=Z2 hEB
     clear hEL hEC hEB
     by_cases g1:(l1:Int)=line
     ·have g1b:((l1:Int)==line)=true:=by simpa using g1
      by_cases g2:(cc1:Int)<=col
      ·rw[if_pos ⟨g1,g2⟩] at hbk
       have HB:=Z2 hbk
       clear hbk g1
       by_cases hlt:k<L.length
       ·skip
        obtain⟨a,ha⟩:∃a,L[k]?=some a:=⟨L[k],List.getElem?_eq_getElem hlt⟩
        obtain⟨x,pz,hx,hra0⟩:=reads_get HR2.out k a ha
        have hxo:=HOK.out x (List.mem_of_getElem? hx)
        have hch:=raok_char hra0 hxo
        have hend:=hra0.2.2.2.1
        have hx0:=hra0.2.2.2.2.2.1
        have hcb:Vm.chA x<=1114111/\0<=Vm.chA x:=⟨hxo.2.2.2.2.2.1,hxo.2.2.2.2.1⟩
        obtain⟨g,rfl⟩:∃g,p=some ⟨g,0,none⟩:=by
         rcases HO2.out.2 with ⟨y,z⟩|⟨g,c,cur,y,_⟩
         ·omega
         ·injection y with y1;exact⟨g,y1⟩
        have hcells:∀wx,Below w2.heap.size w2 wx->wx.cell? ⟨g,k * 5,none⟩=some (.int .i64 a.1)/\wx.cell? ⟨g,k * 5+1,none⟩=some (.bool a.2.1)/\wx.cell? ⟨g,k * 5+2,none⟩=some (.int .i64 a.2.2.1)/\wx.cell? ⟨g,k * 5+3,none⟩=some (.int .i64 a.2.2.2.1)/\wx.cell? ⟨g,k * 5+4,none⟩=some (.int .i64 a.2.2.2.2):=fun wx hbx=>by
         have cell:=fun j (hj:j<5)=>((HO2.out.below hbx).cellAt (k * 5+j) (by omega)).trans (flatRA_at L k a j ha hj)
         exact⟨cell 0 (by decide),cell 1 (by decide),cell 2 (by decide),cell 3 (by decide),cell 4 (by decide)⟩
        have hsh:=rshown_any a
        have hun:=runits_any a
        have hrange:a.2.1=false->0<=a.1/\a.1<=1114111:=fun h=>by rw[h] at hch;simp only[Bool.false_eq_true,if_false] at hch;rw[hch];exact⟨hcb.2,hcb.1⟩
        have HRG:=Z2 hrange
        have hune:(if a.2.1=false/\65535<a.1 then (2:Int) else 1)=(Vm.unA x:Int):=by
         unfold Vm.unA
         rw[<-hch]
         cases a.2.1<;>simp
         split<;>rfl
        rw[hune] at hun
        rw[hch] at hsh
        have t0:=Z2 (Vm.bytesA_take hx)
        have t1:=Z2 (Vm.colA_take hx)
        have t3:=Z2 (Vm.linesA_take hx)
        have HCE:=Z2 hcells
        have HUN:=Z2 hun
        have HSH:=Z2 hsh
        have hlen:=str_len (Vm.chA x)
        have hlc:=Vm.utfLen_cases (Vm.chA x)
        have hlen':Vm.lenA x=Vm.utfLen (Vm.chA x):=rfl
        have hul:Vm.unA x<=2:=by unfold Vm.unA;split<;>omega
        rw[hlen'] at t0
        have hneb:((k:Int)==(L.length:Int))=false:=by simp;omega
        have hleI:(k:Int)<=(L.length:Int):=by omega
        clear hcells hune hch hra0 hx ha hxo hun hsh hrange hlen'
        obtain⟨q0,q1,q2,q3,q4⟩:=HCE.out _ hbx
        have hzg:=Z3 q0
        generalize Vm.utfLen (Vm.chA x)=u1 at *
        generalize a.2.2.1=ae at *
        by_cases hx2:x.1<=2
        ·have hpos:0<ae:=by rw[hend,if_pos hx2];omega
         clear hend
         have T1:=t1.out
         have T3:=t3.out
         rw[if_pos hx2] at T1 T3
         have TT1:=Z2 T1
         have TT3:=Z2 T3
         clear T1 T3 t1 t3
         go_wp2_with fail
         refine (HSH.out _ HRG.out).mono ?_
         rintro e w3 ⟨rfl,hb3⟩
         have hb23:=hbx.trans (hb3.mono hbx.size)
         clear q0 q1 q2 q3 q4
         obtain⟨q0,q1,q2,q3,q4⟩:=HCE.out _ hb23
         have hzg3:=Z3 q0
         clear hb3 HSH
         go_wp2_with fail
         refine (HUN.out _).mono ?_
         rintro e w4 ⟨rfl,hb4⟩
         have hb24:=hb23.trans (hb4.mono hb23.size)
         clear q0 q1 q2 q3 q4
         obtain⟨q0,q1,q2,q3,q4⟩:=HCE.out _ hb24
         have hzg4:=Z3 q0
         clear hb4 HUN HCE
         go_wp2_with fail
         go_roundw
         case measure=>simp [intOf];omega
         case rel =>
          refine⟨k+1,by omega,?_,?_,?_,?_,by go_num,hb24⟩
          ·rw[HB.out]
          ·rw[t0.out,EB.out];rfl
          ·rw[TT3.out,EL.out];rfl
          ·rw[TT1.out];rfl
        ·have hzr:ae=0:=by rw[hend,if_neg hx2]
         clear hend
         subst hzr
         have T1:=t1.out
         have T3:=t3.out
         rw[if_neg hx2] at T1 T3
         have TT1:=Z2 T1
         have TT3:=Z2 T3
         clear T1 T3 t1 t3
         go_wp2_with fail
         refine (HSH.out _ HRG.out).mono ?_
         rintro e w3 ⟨rfl,hb3⟩
         have hb23:=hbx.trans (hb3.mono hbx.size)
         clear q0 q1 q2 q3 q4
         obtain⟨q0,q1,q2,q3,q4⟩:=HCE.out _ hb23
         have hzg3:=Z3 q0
         clear hb3 HSH
         go_wp2_with fail
         refine (HUN.out _).mono ?_
         rintro e w4 ⟨rfl,hb4⟩
         have hb24:=hb23.trans (hb4.mono hb23.size)
         clear q0 q1 q2 q3 q4
         obtain⟨q0,q1,q2,q3,q4⟩:=HCE.out _ hb24
         have hzg4:=Z3 q0
         clear hb4 HUN HCE
         go_wp2_with fail
         go_roundw
         case measure=>simp [intOf];omega
         case rel =>
          refine⟨k+1,by omega,?_,?_,?_,?_,by go_num,hb24⟩
          ·rw[HB.out]
          ·rw[t0.out,EB.out];rfl
          ·rw[TT3.out,EL.out];rfl
          ·rw[TT1.out,EC.out];rfl
       ·obtain rfl:k=L.length:=by omega
        have hneb:((L.length:Int)==(L.length:Int))=true:=by simp
        go_wp2_with fail
        go_ret2
        exact⟨by rw[HV.out,HR.out,<-HL.out,HB.out];rfl,hbw2.trans (hbx.mono hbw2.size)⟩
      ·rw[if_neg (fun h=>g2 h.2)] at hbk
       have HB:=Z2 hbk
       clear hbk g1
       by_cases hlt:k<L.length
       ·skip
        obtain⟨a,ha⟩:∃a,L[k]?=some a:=⟨L[k],List.getElem?_eq_getElem hlt⟩
        obtain⟨x,pz,hx,hra0⟩:=reads_get HR2.out k a ha
        have hxo:=HOK.out x (List.mem_of_getElem? hx)
        have hch:=raok_char hra0 hxo
        have hend:=hra0.2.2.2.1
        have hx0:=hra0.2.2.2.2.2.1
        have hcb:Vm.chA x<=1114111/\0<=Vm.chA x:=⟨hxo.2.2.2.2.2.1,hxo.2.2.2.2.1⟩
        obtain⟨g,rfl⟩:∃g,p=some ⟨g,0,none⟩:=by
         rcases HO2.out.2 with ⟨y,z⟩|⟨g,c,cur,y,_⟩
         ·omega
         ·injection y with y1;exact⟨g,y1⟩
        have hcells:∀wx,Below w2.heap.size w2 wx->wx.cell? ⟨g,k * 5,none⟩=some (.int .i64 a.1)/\wx.cell? ⟨g,k * 5+1,none⟩=some (.bool a.2.1)/\wx.cell? ⟨g,k * 5+2,none⟩=some (.int .i64 a.2.2.1)/\wx.cell? ⟨g,k * 5+3,none⟩=some (.int .i64 a.2.2.2.1)/\wx.cell? ⟨g,k * 5+4,none⟩=some (.int .i64 a.2.2.2.2):=fun wx hbx=>by
         have cell:=fun j (hj:j<5)=>((HO2.out.below hbx).cellAt (k * 5+j) (by omega)).trans (flatRA_at L k a j ha hj)
         exact⟨cell 0 (by decide),cell 1 (by decide),cell 2 (by decide),cell 3 (by decide),cell 4 (by decide)⟩
        have hsh:=rshown_any a
        have hun:=runits_any a
        have hrange:a.2.1=false->0<=a.1/\a.1<=1114111:=fun h=>by rw[h] at hch;simp only[Bool.false_eq_true,if_false] at hch;rw[hch];exact⟨hcb.2,hcb.1⟩
        have HRG:=Z2 hrange
        have hune:(if a.2.1=false/\65535<a.1 then (2:Int) else 1)=(Vm.unA x:Int):=by
         unfold Vm.unA
         rw[<-hch]
         cases a.2.1<;>simp
         split<;>rfl
        rw[hune] at hun
        rw[hch] at hsh
        have t0:=Z2 (Vm.bytesA_take hx)
        have t1:=Z2 (Vm.colA_take hx)
        have t3:=Z2 (Vm.linesA_take hx)
        have HCE:=Z2 hcells
        have HUN:=Z2 hun
        have HSH:=Z2 hsh
        have hlen:=str_len (Vm.chA x)
        have hlc:=Vm.utfLen_cases (Vm.chA x)
        have hlen':Vm.lenA x=Vm.utfLen (Vm.chA x):=rfl
        have hul:Vm.unA x<=2:=by unfold Vm.unA;split<;>omega
        rw[hlen'] at t0
        have hneb:((k:Int)==(L.length:Int))=false:=by simp;omega
        have hleI:(k:Int)<=(L.length:Int):=by omega
        clear hcells hune hch hra0 hx ha hxo hun hsh hrange hlen'
        obtain⟨q0,q1,q2,q3,q4⟩:=HCE.out _ hbx
        have hzg:=Z3 q0
        generalize Vm.utfLen (Vm.chA x)=u1 at *
        generalize a.2.2.1=ae at *
        by_cases hx2:x.1<=2
        ·have hpos:0<ae:=by rw[hend,if_pos hx2];omega
         clear hend
         have T1:=t1.out
         have T3:=t3.out
         rw[if_pos hx2] at T1 T3
         have TT1:=Z2 T1
         have TT3:=Z2 T3
         clear T1 T3 t1 t3
         go_wp2_with fail
         refine (HSH.out _ HRG.out).mono ?_
         rintro e w3 ⟨rfl,hb3⟩
         have hb23:=hbx.trans (hb3.mono hbx.size)
         clear q0 q1 q2 q3 q4
         obtain⟨q0,q1,q2,q3,q4⟩:=HCE.out _ hb23
         have hzg3:=Z3 q0
         clear hb3 HSH
         go_wp2_with fail
         refine (HUN.out _).mono ?_
         rintro e w4 ⟨rfl,hb4⟩
         have hb24:=hb23.trans (hb4.mono hb23.size)
         clear q0 q1 q2 q3 q4
         obtain⟨q0,q1,q2,q3,q4⟩:=HCE.out _ hb24
         have hzg4:=Z3 q0
         clear hb4 HUN HCE
         go_wp2_with fail
         go_roundw
         case measure=>simp [intOf];omega
         case rel =>
          refine⟨k+1,by omega,?_,?_,?_,?_,by go_num,hb24⟩
          ·rw[HB.out]
          ·rw[t0.out,EB.out];rfl
          ·rw[TT3.out,EL.out];rfl
          ·rw[TT1.out];rfl
        ·have hzr:ae=0:=by rw[hend,if_neg hx2]
         clear hend
         subst hzr
         have T1:=t1.out
         have T3:=t3.out
         rw[if_neg hx2] at T1 T3
         have TT1:=Z2 T1
         have TT3:=Z2 T3
         clear T1 T3 t1 t3
         go_wp2_with fail
         refine (HSH.out _ HRG.out).mono ?_
         rintro e w3 ⟨rfl,hb3⟩
         have hb23:=hbx.trans (hb3.mono hbx.size)
         clear q0 q1 q2 q3 q4
         obtain⟨q0,q1,q2,q3,q4⟩:=HCE.out _ hb23
         have hzg3:=Z3 q0
         clear hb3 HSH
         go_wp2_with fail
         refine (HUN.out _).mono ?_
         rintro e w4 ⟨rfl,hb4⟩
         have hb24:=hb23.trans (hb4.mono hb23.size)
         clear q0 q1 q2 q3 q4
         obtain⟨q0,q1,q2,q3,q4⟩:=HCE.out _ hb24
         have hzg4:=Z3 q0
         clear hb4 HUN HCE
         go_wp2_with fail
         go_roundw
         case measure=>simp [intOf];omega
         case rel =>
          refine⟨k+1,by omega,?_,?_,?_,?_,by go_num,hb24⟩
          ·rw[HB.out]
          ·rw[t0.out,EB.out];rfl
          ·rw[TT3.out,EL.out];rfl
          ·rw[TT1.out,EC.out];rfl
       ·obtain rfl:k=L.length:=by omega
        have hneb:((L.length:Int)==(L.length:Int))=true:=by simp
        go_wp2_with fail
        go_ret2
        exact⟨by rw[HV.out,HR.out,<-HL.out,HB.out];rfl,hbw2.trans (hbx.mono hbw2.size)⟩
     ·have g1b:((l1:Int)==line)=false:=by simpa using g1
      rw[if_neg (fun h=>g1 h.1)] at hbk
      have HB:=Z2 hbk
      clear hbk
      by_cases hlt:k<L.length
      ·skip
       obtain⟨a,ha⟩:∃a,L[k]?=some a:=⟨L[k],List.getElem?_eq_getElem hlt⟩
       obtain⟨x,pz,hx,hra0⟩:=reads_get HR2.out k a ha
       have hxo:=HOK.out x (List.mem_of_getElem? hx)
       have hch:=raok_char hra0 hxo
       have hend:=hra0.2.2.2.1
       have hx0:=hra0.2.2.2.2.2.1
       have hcb:Vm.chA x<=1114111/\0<=Vm.chA x:=⟨hxo.2.2.2.2.2.1,hxo.2.2.2.2.1⟩
       obtain⟨g,rfl⟩:∃g,p=some ⟨g,0,none⟩:=by
        rcases HO2.out.2 with ⟨y,z⟩|⟨g,c,cur,y,_⟩
        ·omega
        ·injection y with y1;exact⟨g,y1⟩
       have hcells:∀wx,Below w2.heap.size w2 wx->wx.cell? ⟨g,k * 5,none⟩=some (.int .i64 a.1)/\wx.cell? ⟨g,k * 5+1,none⟩=some (.bool a.2.1)/\wx.cell? ⟨g,k * 5+2,none⟩=some (.int .i64 a.2.2.1)/\wx.cell? ⟨g,k * 5+3,none⟩=some (.int .i64 a.2.2.2.1)/\wx.cell? ⟨g,k * 5+4,none⟩=some (.int .i64 a.2.2.2.2):=fun wx hbx=>by
        have cell:=fun j (hj:j<5)=>((HO2.out.below hbx).cellAt (k * 5+j) (by omega)).trans (flatRA_at L k a j ha hj)
        exact⟨cell 0 (by decide),cell 1 (by decide),cell 2 (by decide),cell 3 (by decide),cell 4 (by decide)⟩
       have hsh:=rshown_any a
       have hun:=runits_any a
       have hrange:a.2.1=false->0<=a.1/\a.1<=1114111:=fun h=>by rw[h] at hch;simp only[Bool.false_eq_true,if_false] at hch;rw[hch];exact⟨hcb.2,hcb.1⟩
       have HRG:=Z2 hrange
       have hune:(if a.2.1=false/\65535<a.1 then (2:Int) else 1)=(Vm.unA x:Int):=by
        unfold Vm.unA
        rw[<-hch]
        cases a.2.1<;>simp
        split<;>rfl
       rw[hune] at hun
       rw[hch] at hsh
       have t0:=Z2 (Vm.bytesA_take hx)
       have t1:=Z2 (Vm.colA_take hx)
       have t3:=Z2 (Vm.linesA_take hx)
       have HCE:=Z2 hcells
       have HUN:=Z2 hun
       have HSH:=Z2 hsh
       have hlen:=str_len (Vm.chA x)
       have hlc:=Vm.utfLen_cases (Vm.chA x)
       have hlen':Vm.lenA x=Vm.utfLen (Vm.chA x):=rfl
       have hul:Vm.unA x<=2:=by unfold Vm.unA;split<;>omega
       rw[hlen'] at t0
       have hneb:((k:Int)==(L.length:Int))=false:=by simp;omega
       have hleI:(k:Int)<=(L.length:Int):=by omega
       clear hcells hune hch hra0 hx ha hxo hun hsh hrange hlen'
       obtain⟨q0,q1,q2,q3,q4⟩:=HCE.out _ hbx
       have hzg:=Z3 q0
       generalize Vm.utfLen (Vm.chA x)=u1 at *
       generalize a.2.2.1=ae at *
       by_cases hx2:x.1<=2
       ·have hpos:0<ae:=by rw[hend,if_pos hx2];omega
        clear hend
        have T1:=t1.out
        have T3:=t3.out
        rw[if_pos hx2] at T1 T3
        have TT1:=Z2 T1
        have TT3:=Z2 T3
        clear T1 T3 t1 t3
        go_wp2_with fail
        refine (HSH.out _ HRG.out).mono ?_
        rintro e w3 ⟨rfl,hb3⟩
        have hb23:=hbx.trans (hb3.mono hbx.size)
        clear q0 q1 q2 q3 q4
        obtain⟨q0,q1,q2,q3,q4⟩:=HCE.out _ hb23
        have hzg3:=Z3 q0
        clear hb3 HSH
        go_wp2_with fail
        refine (HUN.out _).mono ?_
        rintro e w4 ⟨rfl,hb4⟩
        have hb24:=hb23.trans (hb4.mono hb23.size)
        clear q0 q1 q2 q3 q4
        obtain⟨q0,q1,q2,q3,q4⟩:=HCE.out _ hb24
        have hzg4:=Z3 q0
        clear hb4 HUN HCE
        go_wp2_with fail
        go_roundw
        case measure=>simp [intOf];omega
        case rel =>
         refine⟨k+1,by omega,?_,?_,?_,?_,by go_num,hb24⟩
         ·rw[HB.out]
         ·rw[t0.out,EB.out];rfl
         ·rw[TT3.out,EL.out];rfl
         ·rw[TT1.out];rfl
       ·have hzr:ae=0:=by rw[hend,if_neg hx2]
        clear hend
        subst hzr
        have T1:=t1.out
        have T3:=t3.out
        rw[if_neg hx2] at T1 T3
        have TT1:=Z2 T1
        have TT3:=Z2 T3
        clear T1 T3 t1 t3
        go_wp2_with fail
        refine (HSH.out _ HRG.out).mono ?_
        rintro e w3 ⟨rfl,hb3⟩
        have hb23:=hbx.trans (hb3.mono hbx.size)
        clear q0 q1 q2 q3 q4
        obtain⟨q0,q1,q2,q3,q4⟩:=HCE.out _ hb23
        have hzg3:=Z3 q0
        clear hb3 HSH
        go_wp2_with fail
        refine (HUN.out _).mono ?_
        rintro e w4 ⟨rfl,hb4⟩
        have hb24:=hb23.trans (hb4.mono hb23.size)
        clear q0 q1 q2 q3 q4
        obtain⟨q0,q1,q2,q3,q4⟩:=HCE.out _ hb24
        have hzg4:=Z3 q0
        clear hb4 HUN HCE
        go_wp2_with fail
        go_roundw
        case measure=>simp [intOf];omega
        case rel =>
         refine⟨k+1,by omega,?_,?_,?_,?_,by go_num,hb24⟩
         ·rw[HB.out]
         ·rw[t0.out,EB.out];rfl
         ·rw[TT3.out,EL.out];rfl
         ·rw[TT1.out,EC.out];rfl
      ·obtain rfl:k=L.length:=by omega
       have hneb:((L.length:Int)==(L.length:Int))=true:=by simp
       go_wp2_with fail
       go_ret2
       exact⟨by rw[HV.out,HR.out,<-HL.out,HB.out];rfl,hbw2.trans (hbx.mono hbw2.size)⟩
end Go.Proofs.YtoejbngihecafaaGreatDoor
