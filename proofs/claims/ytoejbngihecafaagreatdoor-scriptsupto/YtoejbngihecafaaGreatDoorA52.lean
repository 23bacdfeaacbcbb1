import Derived.Test.YtoejbngihecafaaGreatDoorA40
import Derived.Test.YtoejbngihecafaaGreatDoorA42
set_option maxRecDepth 100000
set_option maxHeartbeats 1000000
namespace Go.Proofs.YtoejbngihecafaaGreatDoor
open Go.RowKit
structure ApiL (T:World->Prop) (D:World->Nat->Int->Bool->ByteArray->Prop):Prop extends Api T D where
 position:∀(p:Nat) (enc:Int) (mark:Bool) (body:ByteArray) (o:Int) (w:World),T w->D w p enc mark body ->
  Calls Tryz.prog 58 #[.pointer (some ⟨p,0,none⟩),.int .i64 o] w fun e w'=>e=.returned (.tuple #[.int .i64 (Vm.posV (Vm.atoms enc body.data.toList) o).1,.int .i64 (Vm.posV (Vm.atoms enc body.data.toList) o).2.1,.int .i64 (Vm.posV (Vm.atoms enc body.data.toList) o).2.2])/\Below w.heap.size w w'
 offset:∀(p:Nat) (enc:Int) (mark:Bool) (body:ByteArray) (line col:Int) (w:World),T w->D w p enc mark body ->
  Calls Tryz.prog 118 #[.pointer (some ⟨p,0,none⟩),.int .i64 line,.int .i64 col] w fun e w'=>e=.returned (.tuple #[.int .i64 (Vm.offV (Vm.atoms enc body.data.toList) line col).1,.int .i64 (Vm.offV (Vm.atoms enc body.data.toList) line col).2])/\Below w.heap.size w w'
variable {T:World->Prop} {D:World->Nat->Int->Bool->ByteArray->Prop}
theorem placed_any (api:ApiL T D) (q p r:Nat) (enc:Int) (mark:Bool) (body:ByteArray) (o line col:Int) (w:World) (ht:T w) (hq0:w.cell? ⟨q,0,none⟩=some (.pointer (some ⟨p,0,none⟩))) (hq1:w.cell? ⟨q,1,none⟩=some (.pointer (some ⟨r,0,none⟩))) (hd:D w p enc mark body) (hr:RDoc w r enc mark body) (hs:body.size<=1099511627776) (h0:0<=enc) (h3:enc<=3) :
  Calls Tryz.prog 83 #[.pointer (some ⟨q,0,none⟩),.int .i64 o,.int .i64 line,.int .i64 col] w fun e w'=>e=.returned (.bool true)/\Below w.heap.size w w':=by
 have P1:=Z2 (fun w1 (hb:Below w.heap.size w w1)=>api.position p enc mark body o w1 (api.tab ht hb) (api.low hd hb))
 have P2:=Z2 (fun w1 (hb:Below w.heap.size w w1)=>rposition_any r enc mark body o w1 (hr.below hb) hs h0 h3)
 have P3:=Z2 (fun w1 (hb:Below w.heap.size w w1)=>api.offset p enc mark body line col w1 (api.tab ht hb) (api.low hd hb))
 have P4:=Z2 (fun w1 (hb:Below w.heap.size w w1)=>roffset_any r enc mark body line col w1 (hr.below hb) hs h0 h3)
 generalize Vm.posV (Vm.atoms enc body.data.toList) o=V at *
 generalize Vm.offV (Vm.atoms enc body.data.toList) line col=U at *
 obtain⟨v1,v2,v3⟩:=V
 obtain⟨u1,u2⟩:=U
 simp only at P1 P2 P3 P4
 clear hd hr ht
 have hz:=Z3 hq0
 go_enter Tryz.func83,Tryz.ntmps83
 go_wp2_with fail
 refine (P1.out _ (Below.refl _ _)).mono ?_
 rintro e w1 ⟨rfl,hb1⟩
 have c1:=(hb1.cell (p:=⟨q,1,none⟩) hz).trans hq1
 have z1:=Z3 c1
 clear P1
 go_wp2_with fail
 refine (P2.out _ hb1).mono ?_
 rintro e w2 ⟨rfl,hb2⟩
 have hb12:=hb1.trans (hb2.mono hb1.size)
 have d0:=(hb12.cell (p:=⟨q,0,none⟩) hz).trans hq0
 have z2:=Z3 d0
 clear P2 c1 hb1 hb2
 go_wp2_with fail
 refine (P3.out _ hb12).mono ?_
 rintro e w3 ⟨rfl,hb3⟩
 have hb13:=hb12.trans (hb3.mono hb12.size)
 have c3:=(hb13.cell (p:=⟨q,1,none⟩) hz).trans hq1
 have z3:=Z3 c3
 clear P3 d0 hb12 hb3
 go_wp2_with fail
 refine (P4.out _ hb13).mono ?_
 rintro e w4 ⟨rfl,hb4⟩
 have HB:=Z2 (hb13.trans (hb4.mono hb13.size))
 clear P4 c3 hb13 hb4 hq0 hq1
 go_wp2_with fail
 go_ret
 exact⟨rfl,HB.out⟩
end Go.Proofs.YtoejbngihecafaaGreatDoor
