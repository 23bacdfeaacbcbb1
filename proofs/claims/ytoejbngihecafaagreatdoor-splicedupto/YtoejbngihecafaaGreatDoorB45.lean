import Derived.OwnWalk
import Derived.Maps.AppendAt
import Derived.Test.YtoejbngihecafaaGreatDoorB4
import Derived.Test.YtoejbngihecafaaGreatDoorB21
set_option maxRecDepth 100000
set_option maxHeartbeats 2000000
namespace Go.Proofs.YtoejbngihecafaaGreatDoor
open Go.RowKit
variable {T:World->Prop} {D:World->Nat->Int->Bool->ByteArray->Prop}
theorem shown_parts (enc:Int) (mark:Bool) (body:ByteArray):∃n2 n3 n4 n5 n6 t7 n8,shown enc mark body=.agg #[.int .i64 enc,.bool mark,.int .i64 n2,.int .i64 n3,.int .i64 n4,.int .i64 n5,.int .i64 n6,.bool t7,.int .i64 n8]:=⟨_,_,_,_,_,_,_,rfl⟩
end Go.Proofs.YtoejbngihecafaaGreatDoor
namespace Go.Proofs.YtoejbngihecafaaGreatDoor
open Go.RowKit
variable {T:World->Prop} {D:World->Nat->Int->Bool->ByteArray->Prop}
end Go.Proofs.YtoejbngihecafaaGreatDoor
namespace Go.Proofs.YtoejbngihecafaaGreatDoor
open Go.RowKit
def rplV (A:List Vm.At) (o:Int):Int × Int :=
 if o<0\/(Vm.bytesA A:Int)<o then (0,2) else if (Vm.bytesA (A.take (Vm.plK A o)):Int)<o then (0,3) else (Vm.plK A o,0)
end Go.Proofs.YtoejbngihecafaaGreatDoor
namespace Go.Proofs.YtoejbngihecafaaGreatDoor
open Go.RowKit
end Go.Proofs.YtoejbngihecafaaGreatDoor
namespace Vm
open Go.Proofs.YtoejbngihecafaaGreatDoor
def bestK (A:List At) (line col:Int):Nat->Nat
 |0=>0
 |k+1=>if (linesA (A.take k):Int)=line/\(colA (A.take k):Int)<=col then bytesA (A.take k) else bestK A line col k
end Vm
namespace Go.Proofs.YtoejbngihecafaaGreatDoor
open Go.RowKit
end Go.Proofs.YtoejbngihecafaaGreatDoor
namespace Go.Proofs.YtoejbngihecafaaGreatDoor
open Go.RowKit
structure ApiL (T:World->Prop) (D:World->Nat->Int->Bool->ByteArray->Prop):Prop extends Api T D where
 position:∀(p:Nat) (enc:Int) (mark:Bool) (body:ByteArray) (o:Int) (w:World),T w->D w p enc mark body ->
  Calls Tryz.prog 58 #[.pointer (some ⟨p,0,none⟩),.int .i64 o] w fun e w'=>e=.returned (.tuple #[.int .i64 (Vm.posV (Vm.atoms enc body.data.toList) o).1,.int .i64 (Vm.posV (Vm.atoms enc body.data.toList) o).2.1,.int .i64 (Vm.posV (Vm.atoms enc body.data.toList) o).2.2])/\Below w.heap.size w w'
 offset:∀(p:Nat) (enc:Int) (mark:Bool) (body:ByteArray) (line col:Int) (w:World),T w->D w p enc mark body ->
  Calls Tryz.prog 118 #[.pointer (some ⟨p,0,none⟩),.int .i64 line,.int .i64 col] w fun e w'=>e=.returned (.tuple #[.int .i64 (Vm.offV (Vm.atoms enc body.data.toList) line col).1,.int .i64 (Vm.offV (Vm.atoms enc body.data.toList) line col).2])/\Below w.heap.size w w'
variable {T:World->Prop} {D:World->Nat->Int->Bool->ByteArray->Prop}
end Go.Proofs.YtoejbngihecafaaGreatDoor
namespace Go.Proofs.YtoejbngihecafaaGreatDoor
open Go.RowKit
variable {T:World->Prop} {D:World->Nat->Int->Bool->ByteArray->Prop}
theorem same_any (api:Api T D) (p r:Nat) (enc:Int) (mark:Bool) (body:ByteArray) (w:World) (ht:T w) (hd:D w p enc mark body) (he:D w r enc mark body) :
  Calls Tryz.prog 37 #[.pointer (some ⟨p,0,none⟩),.pointer (some ⟨r,0,none⟩)] w fun e w'=>e=.returned (.bool true)/\Below w.heap.size w w':=by
 have a1:=fun p w=>api.save p enc mark body w
 have a2:=fun p w=>api.text p enc mark body w
 have a3:=fun p w=>api.state p enc mark body w
 obtain⟨n2,n3,n4,n5,n6,t7,n8,hsh⟩:=shown_parts enc mark body
 simp only[hsh] at a3
 clear hsh
 generalize bytesOf enc mark body=X1 at *
 generalize strOfNums (Vm.textL (Vm.atoms enc body.data.toList))=X2 at *
 have A1:=Z2 a1
 have A2:=Z2 a2
 have A3:=Z2 a3
 clear a1 a2 a3
 go_enter Tryz.func37,Tryz.ntmps37
 go_wp2_with fail
 refine (A1.out p w ht hd).mono ?_
 rintro e w1 ⟨rfl,hb1⟩
 have ht1:=api.tab ht hb1
 have hd1:=api.low hd hb1
 have he1:=api.low he hb1
 go_wp2_with fail
 refine (A1.out r w1 ht1 he1).mono ?_
 rintro e w2 ⟨rfl,hb2⟩
 have ht2:=api.tab ht1 hb2
 have hd2:=api.low hd1 hb2
 have he2:=api.low he1 hb2
 have hb02:=hb1.trans (hb2.mono hb1.size)
 go_wp2_with fail
 refine (A2.out p w2 ht2 hd2).mono ?_
 rintro e w3 ⟨rfl,hb3⟩
 have ht3:=api.tab ht2 hb3
 have hd3:=api.low hd2 hb3
 have he3:=api.low he2 hb3
 have hb03:=hb02.trans (hb3.mono hb02.size)
 go_wp2_with fail
 refine (A2.out r w3 ht3 he3).mono ?_
 rintro e w4 ⟨rfl,hb4⟩
 have ht4:=api.tab ht3 hb4
 have hd4:=api.low hd3 hb4
 have he4:=api.low he3 hb4
 have hb04:=hb03.trans (hb4.mono hb03.size)
 clear ht ht1 ht2 ht3 hd hd1 hd2 hd3 he he1 he2 he3 hb1 hb2 hb3 hb4 hb02 hb03
 go_wp2_with fail
 refine (A3.out p w4 ht4 hd4).mono ?_
 rintro e w5 ⟨rfl,hb5⟩
 have hba:=(Below.refl w5.heap.size w5).alloc (Nat.le_refl _) (.cells #[.int .i64 enc,.bool mark,.int .i64 n2,.int .i64 n3,.int .i64 n4,.int .i64 n5,.int .i64 n6,.bool t7,.int .i64 n8] 66)
 have hb5':=hb5.trans (hba.mono hb5.size)
 have ht5:=api.tab ht4 hb5'
 have he5:=api.low he4 hb5'
 have BX:=Z2 (Bx9.new w5 66 (.int .i64 enc) (.bool mark) (.int .i64 n2) (.int .i64 n3) (.int .i64 n4) (.int .i64 n5) (.int .i64 n6) (.bool t7) (.int .i64 n8))
 have hb05:=hb04.trans (hb5'.mono hb04.size)
 go_wp2_with fail
 refine (A3.out r _ ht5 he5).mono ?_
 rintro e w6 ⟨rfl,hb6⟩
 have hb06:=hb05.trans (hb6.mono hb05.size)
 have bx6:=BX.out.below hb6
 have hbb:=(Below.refl w6.heap.size w6).alloc (Nat.le_refl _) (.cells #[.int .i64 enc,.bool mark,.int .i64 n2,.int .i64 n3,.int .i64 n4,.int .i64 n5,.int .i64 n6,.bool t7,.int .i64 n8] 66)
 have hb07:=hb06.trans (hbb.mono hb06.size)
 have hz:w5.heap.size<w6.heap.size:=Z3 bx6.c0
 obtain⟨c0,c1,c2,c3,c4,c5,c6,c7,c8,_⟩:=bx6
 clear BX ht4 hd4 he4 ht5 he5 A1 A2 A3 hb5 hb5' hba hb6 hb04 hb05 hb06 hbb
 go_wp2
 go_ret
 exact⟨rfl,hb07⟩
end Go.Proofs.YtoejbngihecafaaGreatDoor
namespace Vm
open Go.Proofs.YtoejbngihecafaaGreatDoor
def offL (A:List At) (k:Nat):List Int:=(List.range k).map (fun j=>(bytesA (A.take j):Int))
theorem offL_len (A:List At) (k:Nat):(offL A k).length=k:=by simp [offL]
theorem offL_succ (A:List At) (k:Nat):offL A (k+1)=offL A k++[(bytesA (A.take k):Int)]:=by simp [offL,List.range_succ]
theorem offL_at (A:List At) (n k:Nat) (h:k<n):(offL A n)[k]?=some (bytesA (A.take k):Int):=by simp [offL,h]
end Vm
namespace Go.Proofs.YtoejbngihecafaaGreatDoor
open Go.RowKit
variable {T:World->Prop} {D:World->Nat->Int->Bool->ByteArray->Prop}
theorem Tryz.infoInt:(Tryz.prog.info? 3).map (fun i=>(i.zero,i.size,i.bytes))=some (some (.int .i64 0),1,8):=by kernel_rfl
def cellsI (zs:List Int):List Value:=zs.map (fun z=>.int .i64 z)
def OwnI (w:World) (base:Nat) (v:Value) (zs:List Int):Prop:=w.ownsRow base 3 1 v zs.length (cellsI zs)
theorem OwnI.below {w w':World} {base:Nat} {v:Value} {zs:List Int} (h:OwnI w base v zs) (hb:Below w.heap.size w w'):OwnI w' base v zs:=by
 refine⟨h.1,?_⟩
 rcases h.2 with x|⟨g,cap,cur,e1,e2,e3,r⟩
 ·exact .inl x
 ·exact .inr ⟨g,cap,cur,e1,e2,(hb.block g (Array.getElem?_eq_some_iff.1 e3).1).trans e3,r⟩
theorem OwnI.lt {w:World} {base:Nat} {v:Value} {zs:List Int} (h:OwnI w base v zs):∀k,v.ownBlock=some k->base<=k/\k<w.heap.size:=World.ownsRow.lt h
theorem OwnI.cellAt {w:World} {base g n cap:Nat} {zs:List Int} (h:OwnI w base (.slice (some ⟨g,0,none⟩) n cap) zs) (j:Nat) (z:Int) (hj:zs[j]?=some z):w.cell? ⟨g,j,none⟩=some (.int .i64 z):=by
 obtain rfl:n=zs.length:=by
  rcases h.2 with ⟨x,_⟩|⟨_,_,_,x,_⟩
  ·cases x
  ·cases x;rfl
 have hl:j<zs.length:=(List.getElem?_eq_some_iff.1 hj).1
 have:=World.ownsRow.cellAt h j (by omega)
 rw[this];simp [cellsI,hj]
theorem one_newI (w:World) (t:TypeId) (v0:Value):∀(j:Nat) (u:Value),[v0][j]?=some u->(w.alloc (.cells #[v0] t)).cell? ((⟨w.heap.size,0,none⟩:Addr).add j)=some u:=by
 intro j u h
 have hp:(⟨w.heap.size,0,none⟩:Addr).add j=⟨w.heap.size,j,none⟩:=by unfold Addr.add;split<;>simp_all
 rw[hp]
 have:j=0:=by
  have:=(List.getElem?_eq_some_iff.1 h).1
  simp at this;omega
 subst this
 simp at h;subst h;simp
theorem offsets_any (api:ApiL T D) (p:Nat) (enc:Int) (mark:Bool) (body:ByteArray) (w:World) (ht:T w) (hd:D w p enc mark body) (hs:(Vm.atoms enc body.data.toList).length<=1073741824) :
  Calls Tryz.prog 26 #[.pointer (some ⟨p,0,none⟩),.int .i64 (Vm.bytesA (Vm.atoms enc body.data.toList))] w fun e w'=>∃g cap,e=.returned (.tuple #[.slice (some ⟨g,0,none⟩) ((Vm.atoms enc body.data.toList).length+1) cap,.bool true])/\OwnI w' w.heap.size (.slice (some ⟨g,0,none⟩) ((Vm.atoms enc body.data.toList).length+1) cap) (Vm.offL (Vm.atoms enc body.data.toList) ((Vm.atoms enc body.data.toList).length+1))/\Below w.heap.size w w':=by
 have P1:=Z2 (fun o w1 (hb:Below w.heap.size w w1)=>api.position p enc mark body o w1 (api.tab ht hb) (api.low hd hb))
 obtain⟨i0,hi,hz0,hz1,hz2⟩:=info_parts Tryz.infoInt
 generalize Vm.atoms enc body.data.toList=A at *
 clear ht hd
 have hbl:=Vm.bytesA_le A
 go_enter Tryz.func26,Tryz.ntmps26
 go_wp2_with fail
 obtain⟨bs,hbs⟩:∃bs,bs=Vm.bytesA A:=⟨_,rfl⟩
 rw[<-hbs] at hbl ⊢
 have HBS:=Z2 hbs
 clear hbs
 go_loopw [6,7] (fun out o wx=>∃(k n:Nat) (q:Option Addr) (cap:Nat),n<=bs+1/\o=.int .i64 n/\k<=A.length+1/\(∀j,j<k->Vm.bytesA (A.take j)<n)/\(k<=A.length->n<=Vm.bytesA (A.take k))/\out=.slice q k cap/\OwnI wx w.heap.size (.slice q k cap) (Vm.offL A k)/\Below w.heap.size w wx) (fun _ o _=>bs+1 - (intOf o).toNat)
 case atStart=>exact⟨0,0,none,0,Nat.zero_le _,rfl,Nat.zero_le _,fun j hj=>absurd hj (Nat.not_lt_zero j),fun _=>Nat.zero_le _,rfl,World.ownsRow_nil _ _ _ _,Below.refl _ _⟩
 case round =>
  obtain⟨k,n,q,cap,hn,rfl,hk,hlo,hhi,rfl,hown,hbx⟩:=hrel
  have HO:=Z2 hown
  have HLO:=Z2 hlo
  have HHI:=Z2 hhi
  clear hown hlo hhi
  by_cases hlt:n<=bs
  ·have hltI:(n:Int)<=(bs:Int):=by omega
   have hkA:k<=A.length:=by
    rcases Nat.lt_or_ge A.length k with h|h
    ·have h1:=HLO.out A.length h
     rw[List.take_length,<-HBS.out] at h1;omega
    ·exact h
   have hnk:=HHI.out hkA
   by_cases heq:n=Vm.bytesA (A.take k)
   ·have hV:=Vm.posV_at (A:=A) hkA
    rw[<-heq] at hV
    have PX:=Z2 (P1.out n)
    rw[hV] at PX
    simp only at PX
    have HV2:=Z2 heq
    clear hV heq
    go_wp2_with fail
    refine (PX.out _ hbx).mono ?_
    rintro e w1 ⟨rfl,hb1⟩
    have hbw:=hbx.trans (hb1.mono hbx.size)
    have HO1:=Z2 (HO.out.below hb1)
    have hsz:=hbw.size
    clear hb1 PX
    go_wp2_with (at_builtin;refine wpList_append_own _ rfl _ _ 22 rfl w.heap.size 3 i0 _ 1 8 Tryz.underlying22 hi hz0 hz1 hz2 rfl (by decide) _ k (cellsI (Vm.offL A k)) rfl ?hown ⟨w1.heap.size,0,none⟩ 1 1 [.int .i64 n] rfl rfl ?hnews ?h1 ?h63 ?hby ?hbase ?hrest)
    case hown =>
     have h:=HO1.out
     unfold OwnI at h
     rw[Vm.offL_len] at h
     exact World.ownsRow.alloc h _
    case hnews=>exact one_newI _ _ _
    case h1=>simp [Value.oneCell']
    case h63=>unfold maxLen;omega
    case hby=>omega
    case hbase=>simp;omega
    case hrest =>
     intro v' w2 hown2 hgrow2 _
     obtain⟨g',cap',rfl⟩:=ownsRow_succ hown2
     have hb2:Below w.heap.size w w2:=(hbw.alloc hsz _).grown hgrow2 (by simp;omega) (fun k' hk'=>(HO1.out.lt k' hk').1)
     have HO2:Hid (OwnI w2 w.heap.size (.slice (some ⟨g',0,none⟩) (k+1) cap') (Vm.offL A (k+1))):=by
      show OwnI _ _ _ _
      unfold OwnI
      rw[Vm.offL_len,Vm.offL_succ,<-HV2.out]
      simpa [cellsI] using hown2
     clear hown2 hgrow2
     go_wp2_with fail
     go_roundw
     case measure=>simp [intOf];omega
     case rel =>
      refine⟨k+1,n+1,_,_,by omega,by go_num,by omega,fun j hj=>?_,fun hk1=>?_,rfl,HO2.out,hb2⟩
      ·by_cases hjk:j=k
       ·subst hjk;rw[<-HV2.out];omega
       ·have:=HLO.out j (by omega);omega
      ·have:=Vm.bytesA_lt A k (k+1) (by omega) hk1
       rw[<-HV2.out] at this;omega
   ·obtain⟨k',rfl⟩:∃k',k=k'+1:=⟨k - 1,by
     rcases Nat.eq_zero_or_pos k with h|h
     ·subst h;simp [Vm.bytesA] at hnk heq;omega
     ·omega⟩
    have hV:=Vm.posV_in (A:=A) (k:=k') (o:=n) (by omega) (by have:=HLO.out k' (by omega);omega) (by omega)
    have PX:=Z2 (P1.out n)
    rw[hV] at PX
    simp only at PX
    have HNE:=Z2 (show n+1<=Vm.bytesA (A.take (k'+1)) by omega)
    clear hV heq hnk
    go_wp2_with fail
    refine (PX.out _ hbx).mono ?_
    rintro e w1 ⟨rfl,hb1⟩
    have hbw:=hbx.trans (hb1.mono hbx.size)
    have HO1:=Z2 (HO.out.below hb1)
    clear hb1 PX
    go_wp2_with fail
    go_roundw
    case measure=>simp [intOf];omega
    case rel =>
     refine⟨k'+1,n+1,_,_,by omega,by go_num,by omega,fun j hj=>?_,fun hk1=>HNE.out,rfl,HO1.out,hbw⟩
     have:=HLO.out j hj;omega
  ·obtain rfl:n=bs+1:=by omega
   have hkA:A.length+1<=k:=by
    rcases Nat.lt_or_ge A.length k with h|h
    ·exact h
    ·have h1:=HHI.out h
     have h2:=Vm.bytesA_mono A k A.length h
     rw[List.take_length,<-HBS.out] at h2
     omega
   obtain rfl:k=A.length+1:=by omega
   have ho:=HO.out
   unfold OwnI at ho
   rw[Vm.offL_len] at ho
   obtain⟨g,cap2,hg⟩:=ownsRow_succ ho
   injection hg with hg1 hg2 hg3
   subst hg1
   clear ho hg2 hkA
   have q0:=HO.out.cellAt 0 (Vm.bytesA (A.take 0)) (Vm.offL_at A _ 0 (by omega))
   have q1:=HO.out.cellAt A.length (Vm.bytesA (A.take A.length)) (Vm.offL_at A _ A.length (by omega))
   rw[List.take_length,<-HBS.out] at q1
   simp only[List.take_zero,Vm.bytesA,List.map_nil,List.sum_nil] at q0
   have hz:=Z3 q0
   clear P1
   have hmo:Tryz.prog.follows Departure.mixedOrders=true:=by kernel_rfl
   have x0:∀x:Bl wr,x.val.cell? ⟨g,0,none⟩=some (.int .i64 ((0:Nat):Int)):=fun x=>(x.2.cell (p:=⟨g,0,none⟩) hz).trans q0
   have x1:∀x:Bl wr,x.val.cell? ⟨g,A.length,none⟩=some (.int .i64 bs):=fun x=>(x.2.cell (p:=⟨g,A.length,none⟩) hz).trans q1
   have hzx:∀x:Bl wr,g<x.val.heap.size:=fun x=>Z3 (x0 x)
   have hl1:(0:Int)<((A.length+1:Nat):Int):=by omega
   have hw1:IntKind.i64.wrap (((A.length+1:Nat):Int) - 1)=(A.length:Int):=by rw[IntKind.wrap_i64];omega
   go_wp2_with fail
   refine wp_region_bl hmo (by kernel_rfl) ?_
   repeat (go_big_quiet_step (fail))
   refine wpQuiet_nil ?_
   intro _ hw'
   obtain⟨x5,hx5⟩:=hw'
   subst hx5
   go_wp2_with fail
   go_ret2
   exact⟨g,cap,rfl,HO.out.below x5.2,hbx.trans (x5.2.mono hbx.size)⟩
end Go.Proofs.YtoejbngihecafaaGreatDoor
