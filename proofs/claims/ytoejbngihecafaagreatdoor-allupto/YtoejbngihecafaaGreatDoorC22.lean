import Derived.Test.YtoejbngihecafaaGreatDoorC15
import Derived.Test.YtoejbngihecafaaGreatDoorC21
import Derived.Test.YtoejbngihecafaaGreatDoorC16
import Derived.Test.YtoejbngihecafaaGreatDoorC0
set_option maxRecDepth 100000
set_option maxHeartbeats 4000000
open Go.Proofs.Tryz
namespace Go.Proofs.YtoejbngihecafaaGreatDoor
open Go.RowKit
variable {w w' X w0 W W':World} {fid M B Q:Nat} {caps:Array Value} {cn:Cn} {l:Nd} {enc:Int} {pre:List Vm.At}
structure Fits (w:World) (fid:Nat) (caps:Array Value) (φ:Cn->Bool):Prop where
 ent:∀args W,(callFunc fid args).run prog W=.ok (.enter fid args) W
 call:∀(c:Cn) (W:World),Below w.heap.size w W->c.Small->Calls prog fid (#[c.val]++caps) W fun e W'=>e=.returned (.bool (φ c))/\Below W.heap.size W W'
theorem Fits.low {φ:Cn->Bool} (h:Fits w fid caps φ) (hb:Below w.heap.size w w'):Fits w' fid caps φ:=⟨h.ent,fun c W hW=>h.call c W (hb.trans (hW.mono hb.size))⟩
def Nd.af:Nd->Nat
 |.leaf _ _ _=>196
 |.inner _ _ _ _ _=>204
theorem Qfe (f : Nat) (v : Value) (w : World) : (method (f + 1) 184 v "vellum/atoms.ahead").run prog w = .ok (196, v) w := by kernel_rfl
theorem QeS (f : Nat) (v : Value) (w : World) : (method (f + 1) 215 v "vellum/atoms.ahead").run prog w = .ok (204, v) w := by kernel_rfl
theorem Qem (n : Nd) (f : Nat) (v : Value) (w : World) : (method (f + 1) n.ty v "vellum/atoms.ahead").run prog w = .ok (n.af, v) w := by
 cases n
 ·exact Qfe f v w
 exact QeS f v w
theorem QfC (n:Nd) (args:Array Value) (w:World):(callFunc n.af args).run prog w=.ok (.enter n.af args) w:=by
 cases n
 ·exact enters_of func196 (by kernel_rfl) rfl args w
 exact enters_of func204 (by kernel_rfl) rfl args w
theorem QeN (w:World) (c:Cn) (t:TypeId):CnAt (w.alloc (.cells #[.int .i64 c.body,.int .i64 c.bytes,.int .i64 c.chars,.int .i64 c.units,.int .i64 c.esc,.int .i64 c.lf,.int .i64 c.crlf,.int .i64 c.cr] t)) w.heap.size c:=by
 have hh:=Deep.blk_alloc_new w (.cells #[.int .i64 c.body,.int .i64 c.bytes,.int .i64 c.chars,.int .i64 c.units,.int .i64 c.esc,.int .i64 c.lf,.int .i64 c.crlf,.int .i64 c.cr] t);exact⟨by rw[Lib.cell_of_heap hh];rfl,by rw[Lib.cell_of_heap hh];rfl,by rw[Lib.cell_of_heap hh];rfl,by rw[Lib.cell_of_heap hh];rfl,by rw[Lib.cell_of_heap hh];rfl,by rw[Lib.cell_of_heap hh];rfl,by rw[Lib.cell_of_heap hh];rfl,by rw[Lib.cell_of_heap hh];rfl,fun j=>Lib.frozen_of_heap hh j⟩
theorem cn8 {z:Cn} (h:CnAt X M z) (c:Cn):CnAt ((((((((X.setCell ⟨M,0,none⟩ (.int .i64 c.body)).setCell ⟨M,1,none⟩ (.int .i64 c.bytes)).setCell ⟨M,2,none⟩ (.int .i64 c.chars)).setCell ⟨M,3,none⟩ (.int .i64 c.units)).setCell ⟨M,4,none⟩ (.int .i64 c.esc)).setCell ⟨M,5,none⟩ (.int .i64 c.lf)).setCell ⟨M,6,none⟩ (.int .i64 c.crlf)).setCell ⟨M,7,none⟩ (.int .i64 c.cr)) M c :=
 (((((((h.set0 c.body).set1 c.bytes).set2 c.chars).set3 c.units).set4 c.esc).set5 c.lf).set6 c.crlf).set7 c.cr
theorem tn8 (v0 v1 v2 v3 v4 v5 v6 v7:Value):Tn M X ((((((((X.setCell ⟨M,0,none⟩ v0).setCell ⟨M,1,none⟩ v1).setCell ⟨M,2,none⟩ v2).setCell ⟨M,3,none⟩ v3).setCell ⟨M,4,none⟩ v4).setCell ⟨M,5,none⟩ v5).setCell ⟨M,6,none⟩ v6).setCell ⟨M,7,none⟩ v7) :=
 ((((((((Tn.refl _ _).setCell _).setCell _).setCell _).setCell _).setCell _).setCell _).setCell _).setCell _
structure AhI (w0:World) (B:Nat) (cn:Cn) (k:Nat) (l r:Nd) (c:Cn) (w:World):Prop where
 nd:(Nd.inner B cn k l r).In w
 c:CnAt w w0.heap.size c
 rs:w.heap[w0.heap.size+1]?=some (.cells #[.int .i64 0,.int .i64 0,.int .i64 0,.int .i64 0,.int .i64 0,.int .i64 0,.int .i64 0,.int .i64 0] 119)
 low:Below w0.heap.size w0 w
theorem AhI.step {k:Nat} {r:Nd} {c:Cn} (h:AhI w0 B cn k l r c w) (hb:Below w.heap.size w w'):AhI w0 B cn k l r c w' :=
 ⟨Nd.low hb h.nd,h.c.block (hb.block _ (Z3 h.c.c0)),(hb.block _ (Z4 h.rs)).trans h.rs,h.low.trans (hb.mono h.low.size)⟩
theorem AhI.rsC {k:Nat} {r:Nd} {c:Cn} (h:AhI w0 B cn k l r c w):CnAt w (w0.heap.size+1) ⟨0,0,0,0,0,0,0,0⟩:=by
 have hh:=h.rs;exact⟨by rw[Lib.cell_of_heap hh];rfl,by rw[Lib.cell_of_heap hh];rfl,by rw[Lib.cell_of_heap hh];rfl,by rw[Lib.cell_of_heap hh];rfl,by rw[Lib.cell_of_heap hh];rfl,by rw[Lib.cell_of_heap hh];rfl,by rw[Lib.cell_of_heap hh];rfl,by rw[Lib.cell_of_heap hh];rfl,fun j=>Lib.frozen_of_heap hh j⟩
theorem low8 (h:Below W.heap.size W X) (hM:W.heap.size<=M) (v0 v1 v2 v3 v4 v5 v6 v7:Value):Below W.heap.size W ((((((((X.setCell ⟨M,0,none⟩ v0).setCell ⟨M,1,none⟩ v1).setCell ⟨M,2,none⟩ v2).setCell ⟨M,3,none⟩ v3).setCell ⟨M,4,none⟩ v4).setCell ⟨M,5,none⟩ v5).setCell ⟨M,6,none⟩ v6).setCell ⟨M,7,none⟩ v7) :=
 (((((((h.setCell (p:=⟨M,0,none⟩) hM v0).setCell (p:=⟨M,1,none⟩) hM v1).setCell (p:=⟨M,2,none⟩) hM v2).setCell (p:=⟨M,3,none⟩) hM v3).setCell (p:=⟨M,4,none⟩) hM v4).setCell (p:=⟨M,5,none⟩) hM v5).setCell (p:=⟨M,6,none⟩) hM v6).setCell (p:=⟨M,7,none⟩) hM v7
structure AhR (w0:World) (Q:Nat) (X:World):Prop where
 low:Below w0.heap.size w0 X
 res:∀j,j<8->∃v,X.cell? ⟨Q,j,none⟩=some v
 fr:∀j,X.frozen? ⟨Q,j,none⟩=false
 le:w0.heap.size<=Q
theorem AhR.step (h:AhR w0 Q w) (hb:Below w.heap.size w w'):AhR w0 Q w':=by
 obtain⟨v,hv⟩:=h.res 0 (by omega);have hC:=Z3 hv;exact⟨h.low.trans (hb.mono h.low.size),fun j hj=>by obtain⟨u,hu⟩:=h.res j hj;exact⟨u,(hb.cell (p:=⟨Q,j,none⟩) hC).trans hu⟩,fun j=>(hb.frozen (p:=⟨Q,j,none⟩) hC).trans (h.fr j),h.le⟩
theorem AhR.set (h:AhR w0 Q w) (i:Nat) (v:Value):AhR w0 Q (w.setCell ⟨Q,i,none⟩ v):=by
 refine⟨h.low.setCell (p:=⟨Q,i,none⟩) h.le v,fun j hj=>?_,fun j=>by rw[World.frozen?_setCell];exact h.fr j,h.le⟩;obtain⟨u,hu⟩:=h.res j hj;by_cases e:i=j
 ·subst e;exact⟨v,Qbb _ _ _ _ _ hu⟩
 exact⟨u,by rw[Qab _ _ i j _ e];exact hu⟩
section
variable {w0 w1 w2:World} {Z B o Q:Nat} {v:Value} {a0 a1 a2 a3 a4 a5 a6 a7:Nat}
theorem Qiu (H:w1.cell? ⟨Z,0,none⟩=some (.int .i64 a0)/\w1.cell? ⟨Z,1,none⟩=some (.int .i64 a1)/\w1.cell? ⟨Z,2,none⟩=some (.int .i64 a2)/\w1.cell? ⟨Z,3,none⟩=some (.int .i64 a3)/\w1.cell? ⟨Z,4,none⟩=some (.int .i64 a4)/\w1.cell? ⟨Z,5,none⟩=some (.int .i64 a5)/\w1.cell? ⟨Z,6,none⟩=some (.int .i64 a6)/\w1.cell? ⟨Z,7,none⟩=some (.int .i64 a7)/\w1.cell? ⟨B,o,none⟩=some v/\AhR w0 Q w1) (hb:Below w1.heap.size w1 w2):w2.cell? ⟨Z,0,none⟩=some (.int .i64 a0)/\w2.cell? ⟨Z,1,none⟩=some (.int .i64 a1)/\w2.cell? ⟨Z,2,none⟩=some (.int .i64 a2)/\w2.cell? ⟨Z,3,none⟩=some (.int .i64 a3)/\w2.cell? ⟨Z,4,none⟩=some (.int .i64 a4)/\w2.cell? ⟨Z,5,none⟩=some (.int .i64 a5)/\w2.cell? ⟨Z,6,none⟩=some (.int .i64 a6)/\w2.cell? ⟨Z,7,none⟩=some (.int .i64 a7)/\w2.cell? ⟨B,o,none⟩=some v/\AhR w0 Q w2:=by
 obtain⟨g0,g1,g2,g3,g4,g5,g6,g7,h1,h5⟩:=H;have e:∀j v,w1.cell? ⟨Z,j,none⟩=some v->w2.cell? ⟨Z,j,none⟩=some v:=fun j v h=>(hb.cell (p:=⟨Z,j,none⟩) (Z3 g0)).trans h;exact⟨e _ _ g0,e _ _ g1,e _ _ g2,e _ _ g3,e _ _ g4,e _ _ g5,e _ _ g6,e _ _ g7,(hb.cell (p:=⟨B,o,none⟩) (Z3 h1)).trans h1,h5.step hb⟩
theorem Qhh (H:w1.cell? ⟨Z,0,none⟩=some (.int .i64 a0)/\w1.cell? ⟨Z,1,none⟩=some (.int .i64 a1)/\w1.cell? ⟨Z,2,none⟩=some (.int .i64 a2)/\w1.cell? ⟨Z,3,none⟩=some (.int .i64 a3)/\w1.cell? ⟨Z,4,none⟩=some (.int .i64 a4)/\w1.cell? ⟨Z,5,none⟩=some (.int .i64 a5)/\w1.cell? ⟨Z,6,none⟩=some (.int .i64 a6)/\w1.cell? ⟨Z,7,none⟩=some (.int .i64 a7)/\w1.cell? ⟨B,o,none⟩=some v/\AhR w0 Q w1):w1.drew.cell? ⟨Z,0,none⟩=some (.int .i64 a0)/\w1.drew.cell? ⟨Z,1,none⟩=some (.int .i64 a1)/\w1.drew.cell? ⟨Z,2,none⟩=some (.int .i64 a2)/\w1.drew.cell? ⟨Z,3,none⟩=some (.int .i64 a3)/\w1.drew.cell? ⟨Z,4,none⟩=some (.int .i64 a4)/\w1.drew.cell? ⟨Z,5,none⟩=some (.int .i64 a5)/\w1.drew.cell? ⟨Z,6,none⟩=some (.int .i64 a6)/\w1.drew.cell? ⟨Z,7,none⟩=some (.int .i64 a7)/\w1.drew.cell? ⟨B,o,none⟩=some v/\AhR w0 Q w1.drew:=Qiu H ((Below.refl _ _).drew)
theorem Qax (H:w1.cell? ⟨Z,0,none⟩=some (.int .i64 a0)/\w1.cell? ⟨Z,1,none⟩=some (.int .i64 a1)/\w1.cell? ⟨Z,2,none⟩=some (.int .i64 a2)/\w1.cell? ⟨Z,3,none⟩=some (.int .i64 a3)/\w1.cell? ⟨Z,4,none⟩=some (.int .i64 a4)/\w1.cell? ⟨Z,5,none⟩=some (.int .i64 a5)/\w1.cell? ⟨Z,6,none⟩=some (.int .i64 a6)/\w1.cell? ⟨Z,7,none⟩=some (.int .i64 a7)/\w1.cell? ⟨B,o,none⟩=some v/\AhR w0 Q w1) (hZ:Z≠Q) (hB:B≠Q) (i:Nat) (u:Value):(w1.setCell ⟨Q,i,none⟩ u).cell? ⟨Z,0,none⟩=some (.int .i64 a0)/\(w1.setCell ⟨Q,i,none⟩ u).cell? ⟨Z,1,none⟩=some (.int .i64 a1)/\(w1.setCell ⟨Q,i,none⟩ u).cell? ⟨Z,2,none⟩=some (.int .i64 a2)/\(w1.setCell ⟨Q,i,none⟩ u).cell? ⟨Z,3,none⟩=some (.int .i64 a3)/\(w1.setCell ⟨Q,i,none⟩ u).cell? ⟨Z,4,none⟩=some (.int .i64 a4)/\(w1.setCell ⟨Q,i,none⟩ u).cell? ⟨Z,5,none⟩=some (.int .i64 a5)/\(w1.setCell ⟨Q,i,none⟩ u).cell? ⟨Z,6,none⟩=some (.int .i64 a6)/\(w1.setCell ⟨Q,i,none⟩ u).cell? ⟨Z,7,none⟩=some (.int .i64 a7)/\(w1.setCell ⟨Q,i,none⟩ u).cell? ⟨B,o,none⟩=some v/\AhR w0 Q (w1.setCell ⟨Q,i,none⟩ u):=by
 obtain⟨g0,g1,g2,g3,g4,g5,g6,g7,h1,h5⟩:=H
 have d:∀B j v',B≠Q->w1.cell? ⟨B,j,none⟩=some v'->(w1.setCell ⟨Q,i,none⟩ u).cell? ⟨B,j,none⟩=some v':=fun B j v' hne h=>by
  rw[World.cell?_setCell_other _ _ _ _ (by intro e;injection e with e1 e2;exact hne e1.symm)];exact h
 exact⟨d _ _ _ hZ g0,d _ _ _ hZ g1,d _ _ _ hZ g2,d _ _ _ hZ g3,d _ _ _ hZ g4,d _ _ _ hZ g5,d _ _ _ hZ g6,d _ _ _ hZ g7,d _ _ _ hB h1,h5.set i u⟩
theorem Ah_r (H:w1.cell? ⟨Z,0,none⟩=some (.int .i64 a0)/\w1.cell? ⟨Z,1,none⟩=some (.int .i64 a1)/\w1.cell? ⟨Z,2,none⟩=some (.int .i64 a2)/\w1.cell? ⟨Z,3,none⟩=some (.int .i64 a3)/\w1.cell? ⟨Z,4,none⟩=some (.int .i64 a4)/\w1.cell? ⟨Z,5,none⟩=some (.int .i64 a5)/\w1.cell? ⟨Z,6,none⟩=some (.int .i64 a6)/\w1.cell? ⟨Z,7,none⟩=some (.int .i64 a7)/\w1.cell? ⟨B,o,none⟩=some v/\AhR w0 Q w1):AhR w0 Q w1:=H.2.2.2.2.2.2.2.2.2
end
theorem AhI.ahR {k:Nat} {r:Nd} {c:Cn} (h:AhI w0 B cn k l r c w):AhR w0 (w0.heap.size+1) w:=by
 obtain⟨y0,y1,y2,y3,y4,y5,y6,y7,yf⟩:=h.rsC;refine⟨h.low,fun j hj=>?_,yf,by omega⟩;have hj':j=0\/j=1\/j=2\/j=3\/j=4\/j=5\/j=6\/j=7:=by omega
 rcases hj' with rfl|rfl|rfl|rfl|rfl|rfl|rfl|rfl
 ·exact⟨_,y0⟩
 ·exact⟨_,y1⟩
 ·exact⟨_,y2⟩
 ·exact⟨_,y3⟩
 ·exact⟨_,y4⟩
 ·exact⟨_,y5⟩
 ·exact⟨_,y6⟩
 exact⟨_,y7⟩
theorem QiP (fid:Nat) (caps:Array Value) (φ:Cn->Bool) (B:Nat) (c cn:Cn) (k:Nat) (l r:Nd) (enc:Int) (A1 A2:Cn) (w:World) (hf:Fits w fid caps φ) (hn:(Nd.inner B cn k l r).In w) (hsm:(c.plus l.cn).Small) (ihl:∀w1,Below w.heap.size w w1->Calls prog l.af #[.pointer (some ⟨l.blk,0,none⟩),c.val,.int .i64 enc,.func (.func fid) #[] caps] w1 fun e w'=>e=.returned A1.val/\Below w1.heap.size w1 w') (ihr:∀w1,Below w.heap.size w w1->Calls prog r.af #[.pointer (some ⟨r.blk,0,none⟩),(c.plus l.cn).val,.int .i64 enc,.func (.func fid) #[] caps] w1 fun e w'=>e=.returned A2.val/\Below w1.heap.size w1 w') :
  Calls prog 204 #[.pointer (some ⟨B,0,none⟩),c.val,.int .i64 enc,.func (.func fid) #[] caps] w fun e w'=>e=.returned (if φ (c.plus l.cn) then A2 else A1).val/\Below w.heap.size w w':=by
 have hb0:=Z7 w (.cells #[.int .i64 c.body,.int .i64 c.bytes,.int .i64 c.chars,.int .i64 c.units,.int .i64 c.esc,.int .i64 c.lf,.int .i64 c.crlf,.int .i64 c.cr] 119)
 have hb1:=hb0.alloc (by simp) (.cells #[.int .i64 0,.int .i64 0,.int .i64 0,.int .i64 0,.int .i64 0,.int .i64 0,.int .i64 0,.int .i64 0] 119)
 have HF:=Z1 hf
 have hent:=hf.ent
 have hm1:=Qem l 362
 have hm2:=Qem r 362
 have he1:=QfC l
 have he2:=QfC r
 obtain⟨Ar,hAr⟩:∃Ar,Ar=if φ (c.plus l.cn) then A2 else A1:=⟨_,rfl⟩
 rw[<-hAr]
 have HAR:=Z1 hAr
 clear hAr
 have hBw:=Z4 hn.1
 have HN:=Z1 hn
 have HIL:=Z1 ihl
 have HIR:=Z1 ihr
 have HSM:=Z1 hsm
 clear hn hf ihl ihr
 simp only[Cn.val] at HIL HIR ⊢
 go_enter func204,ntmps204
 go_wp2_with fail
 have H0:AhI w B cn k l r c ((w.alloc (.cells #[.int .i64 c.body,.int .i64 c.bytes,.int .i64 c.chars,.int .i64 c.units,.int .i64 c.esc,.int .i64 c.lf,.int .i64 c.crlf,.int .i64 c.cr] 119)).alloc (.cells #[.int .i64 0,.int .i64 0,.int .i64 0,.int .i64 0,.int .i64 0,.int .i64 0,.int .i64 0,.int .i64 0] 119)):=by
  refine⟨Nd.low hb1 HN.o,(CnAt.alloc ?_ _),?_,hb1⟩
  ·have hh:=Deep.blk_alloc_new w (.cells #[.int .i64 c.body,.int .i64 c.bytes,.int .i64 c.chars,.int .i64 c.units,.int .i64 c.esc,.int .i64 c.lf,.int .i64 c.crlf,.int .i64 c.cr] 119);exact⟨by rw[Lib.cell_of_heap hh];rfl,by rw[Lib.cell_of_heap hh];rfl,by rw[Lib.cell_of_heap hh];rfl,by rw[Lib.cell_of_heap hh];rfl,by rw[Lib.cell_of_heap hh];rfl,by rw[Lib.cell_of_heap hh];rfl,by rw[Lib.cell_of_heap hh];rfl,by rw[Lib.cell_of_heap hh];rfl,fun j=>Lib.frozen_of_heap hh j⟩
  have:=Deep.blk_alloc_new (w.alloc (.cells #[.int .i64 c.body,.int .i64 c.bytes,.int .i64 c.chars,.int .i64 c.units,.int .i64 c.esc,.int .i64 c.lf,.int .i64 c.crlf,.int .i64 c.cr] 119)) (.cells #[.int .i64 0,.int .i64 0,.int .i64 0,.int .i64 0,.int .i64 0,.int .i64 0,.int .i64 0,.int .i64 0] 119);simpa using this
 have H:=Z1 H0
 clear H0 hb0 hb1 HN
 generalize ((w.alloc (.cells #[.int .i64 c.body,.int .i64 c.bytes,.int .i64 c.chars,.int .i64 c.units,.int .i64 c.esc,.int .i64 c.lf,.int .i64 c.crlf,.int .i64 c.cr] 119)).alloc (.cells #[.int .i64 0,.int .i64 0,.int .i64 0,.int .i64 0,.int .i64 0,.int .i64 0,.int .i64 0,.int .i64 0] 119))=W at *
 have HSS := Z1 (fun X (hX : Below W.heap.size W X) => (⟨(H.o.step hX).c.c0, (H.o.step hX).c.c1, (H.o.step hX).c.c2, (H.o.step hX).c.c3, (H.o.step hX).c.c4, (H.o.step hX).c.c5, (H.o.step hX).c.c6, (H.o.step hX).c.c7, (Qal (H.o.step hX).nd).1, Qa0 l 362 X (H.o.step hX).nd.2.1⟩ : X.cell? ⟨w.heap.size, 0, none⟩ = some (.int .i64 c.body) ∧ X.cell? ⟨w.heap.size, 1, none⟩ = some (.int .i64 c.bytes) ∧ X.cell? ⟨w.heap.size, 2, none⟩ = some (.int .i64 c.chars) ∧ X.cell? ⟨w.heap.size, 3, none⟩ = some (.int .i64 c.units) ∧ X.cell? ⟨w.heap.size, 4, none⟩ = some (.int .i64 c.esc) ∧ X.cell? ⟨w.heap.size, 5, none⟩ = some (.int .i64 c.lf) ∧ X.cell? ⟨w.heap.size, 6, none⟩ = some (.int .i64 c.crlf) ∧ X.cell? ⟨w.heap.size, 7, none⟩ = some (.int .i64 c.cr) ∧ X.cell? ⟨B, 9, none⟩ = some (.iface l.ty (.pointer (some ⟨l.blk, 0, none⟩))) ∧ (method (362 + 1) l.ty (.pointer (some ⟨l.blk, 0, none⟩)) "vellum/atoms.counts").run prog X = .ok (194, l.cn.val) X))
 have hS0:=HSS.o _ (Below.refl _ _)
 have hSd:=HSS.o _ ((Below.refl _ _).drew)
 have hzr:(⟨0,0,0,0,0,0,0,0⟩:Cn).val=.agg #[.int .i64 0,.int .i64 0,.int .i64 0,.int .i64 0,.int .i64 0,.int .i64 0,.int .i64 0,.int .i64 0]:=rfl
 have hSa:=HSS.o _ (((Below.refl _ _).alloc (Z6 _) (.cells #[.int .i64 0,.int .i64 0,.int .i64 0,.int .i64 0,.int .i64 0,.int .i64 0,.int .i64 0,.int .i64 0] 119)).drew)
 have hzn:CnAt (W.alloc (.cells #[.int .i64 0,.int .i64 0,.int .i64 0,.int .i64 0,.int .i64 0,.int .i64 0,.int .i64 0,.int .i64 0] 119)).drew W.heap.size ⟨0,0,0,0,0,0,0,0⟩:=(CnAt.new W 119).drew
 have HP:=Z1 (fun X=>QjU c l.cn X hsm.left hsm.right)
 have HC:=Z1 (fun X=>Qbn l.cn X)
 generalize hlc:l.cn=lc at *
 generalize hpl:c.plus lc=sm at *
 have HLC:=Z1 hlc
 have HPL:=Z1 hpl
 clear hlc hpl
 simp only[Cn.val] at hS0 hSd hSa HSS HP HC
 obtain⟨s0,s1,s2,s3,s4,s5,s6,s7,s8,s9⟩:=id hS0
 have hz:=Z3 s0
 go_cut [9] from 10 to 16 (fun s9 wx=>∃M,s9=.pointer (some ⟨M,0,none⟩)/\AhI w B cn k l r c wx/\CnAt wx M sm/\w.heap.size+1<M)
 case first =>
  go_region_held3 (fun w' => w'.cell? ⟨w.heap.size, 0, none⟩ = some (.int .i64 c.body) ∧ w'.cell? ⟨w.heap.size, 1, none⟩ = some (.int .i64 c.bytes) ∧ w'.cell? ⟨w.heap.size, 2, none⟩ = some (.int .i64 c.chars) ∧ w'.cell? ⟨w.heap.size, 3, none⟩ = some (.int .i64 c.units) ∧ w'.cell? ⟨w.heap.size, 4, none⟩ = some (.int .i64 c.esc) ∧ w'.cell? ⟨w.heap.size, 5, none⟩ = some (.int .i64 c.lf) ∧ w'.cell? ⟨w.heap.size, 6, none⟩ = some (.int .i64 c.crlf) ∧ w'.cell? ⟨w.heap.size, 7, none⟩ = some (.int .i64 c.cr) ∧ w'.cell? ⟨B, 9, none⟩ = some (.iface l.ty (.pointer (some ⟨l.blk, 0, none⟩))) ∧ (method (362 + 1) l.ty (.pointer (some ⟨l.blk, 0, none⟩)) "vellum/atoms.counts").run prog w' = .ok (194, (Value.agg #[.int .i64 lc.body, .int .i64 lc.bytes, .int .i64 lc.chars, .int .i64 lc.units, .int .i64 lc.esc, .int .i64 lc.lf, .int .i64 lc.crlf, .int .i64 lc.cr])) w')
   (with_reducible assumption)
   (first
    |(go_at_call 194;refine (HC.o _).mono ?_;rintro e w5 ⟨rfl,hb5⟩;have hb15:Below W.heap.size W w5:=(by first|exact ((Below.refl _ _).drew).trans hb5|exact ((Z7 _ _).drew).trans (hb5.mono (by simp)));have hS5:=HSS.o _ hb15;have hS5z:=HSS.o _ (hb15.alloc hb15.size (.cells #[.int .i64 0,.int .i64 0,.int .i64 0,.int .i64 0,.int .i64 0,.int .i64 0,.int .i64 0,.int .i64 0] 119));(try have hz5:CnAt w5 W.heap.size ⟨0,0,0,0,0,0,0,0⟩:=hzn.below hb5))
    |(go_at_call 167;refine (HP.o _).mono ?_;rintro e w6 ⟨rfl,hb6⟩;have hb16:Below W.heap.size W w6:=(by first|exact hb15.trans (hb6.mono hb15.size)|exact (hb15.alloc hb15.size _).trans (hb6.mono (by simp;have:=hb15.size;omega)));have hS6:=HSS.o _ hb16;(try have hz6:CnAt w6 W.heap.size ⟨0,0,0,0,0,0,0,0⟩:=hz5.below hb6);(try have hy6:CnAt w6 w5.heap.size ⟨0,0,0,0,0,0,0,0⟩:=(CnAt.new w5 119).below hb6);(try obtain⟨y0,y1,y2,y3,y4,y5,y6,y7,yf⟩:=id hz6);(try obtain⟨y0,y1,y2,y3,y4,y5,y6,y7,yf⟩:=id hy6);(try have yz:=Z3 y0);have hS7:=HSS.o _ (low8 hb16 (Z6 _) (.int .i64 sm.body) (.int .i64 sm.bytes) (.int .i64 sm.chars) (.int .i64 sm.units) (.int .i64 sm.esc) (.int .i64 sm.lf) (.int .i64 sm.crlf) (.int .i64 sm.cr));have hS8:=HSS.o _ (low8 (M:=w5.heap.size) hb16 hb15.size (.int .i64 sm.body) (.int .i64 sm.bytes) (.int .i64 sm.chars) (.int .i64 sm.units) (.int .i64 sm.esc) (.int .i64 sm.lf) (.int .i64 sm.crlf) (.int .i64 sm.cr));have hS9:=HSS.o _ (hb16.alloc hb16.size (.cells #[.int .i64 sm.body,.int .i64 sm.bytes,.int .i64 sm.chars,.int .i64 sm.units,.int .i64 sm.esc,.int .i64 sm.lf,.int .i64 sm.crlf,.int .i64 sm.cr] 119));have hS9z:=HSS.o _ (hb16.alloc hb16.size (.cells #[.int .i64 0,.int .i64 0,.int .i64 0,.int .i64 0,.int .i64 0,.int .i64 0,.int .i64 0,.int .i64 0] 119))))
  ·go_wp2_with fail;go_meet;exact⟨_,rfl,H.o.step (hb16.alloc hb16.size _),QeN w6 sm _,by have h1:=Z4 H.o.rs;have h2:=hb16.size;omega⟩
  ·go_wp2_with fail;go_meet;exact⟨_,rfl,H.o.step (low8 hb16 hb15.size _ _ _ _ _ _ _ _),cn8 hy6 sm,by have h1:=Z4 H.o.rs;have h2:=hb15.size;omega⟩
  go_wp2_with fail;go_meet;exact⟨_,rfl,H.o.step (low8 hb16 (Z6 _) _ _ _ _ _ _ _ _),cn8 hz6 sm,by have h1:=Z4 H.o.rs;omega⟩
 case rest =>
  obtain⟨M,rfl,hI,hM,hMz⟩:=hcut;have HI:=Z1 hI;have HM:=Z1 hM;obtain⟨m0,m1,m2,m3,m4,m5,m6,m7,_⟩:=hM;have hzm:=Z3 m0;clear hI H HSS hS0 hSd hSa hzn s0 s1 s2 s3 s4 s5 s6 s7 s8 s9 hz HP HC;obtain⟨z0,z1,z2,z3,z4,z5,z6,z7,_⟩:=HI.o.c;obtain⟨p9,p10⟩:=Qal HI.o.nd;have hbz:=Z4 HI.o.nd.1;have hz0:=Z3 z0;have hsm6:sm.Small:=hsm;have FT:=Z1 (HF.o.call sm wc HI.o.low hsm6);simp only[Cn.val] at FT;cases hφ:φ sm
  all_goals rw[hφ] at FT
  ·go_wp2_with fail;refine FT.o.mono ?_;rintro e w7 ⟨rfl,hb7⟩;have HI7:=Z1 (HI.o.step hb7);clear FT HI HM m0 m1 m2 m3 m4 m5 m6 m7 z0 z1 z2 z3 z4 z5 z6 z7 p9 p10;obtain⟨z0,z1,z2,z3,z4,z5,z6,z7,_⟩:=HI7.o.c;obtain⟨p9,p10⟩:=Qal HI7.o.nd;have hz7:=Z3 z0;have hbz7:=Z4 HI7.o.nd.1;go_wp2_with fail;have hZq:w.heap.size≠w.heap.size+1:=by omega
   have HS7:=Z1 (show w7.cell? ⟨w.heap.size,0,none⟩=some (.int .i64 c.body)/\w7.cell? ⟨w.heap.size,1,none⟩=some (.int .i64 c.bytes)/\w7.cell? ⟨w.heap.size,2,none⟩=some (.int .i64 c.chars)/\w7.cell? ⟨w.heap.size,3,none⟩=some (.int .i64 c.units)/\w7.cell? ⟨w.heap.size,4,none⟩=some (.int .i64 c.esc)/\w7.cell? ⟨w.heap.size,5,none⟩=some (.int .i64 c.lf)/\w7.cell? ⟨w.heap.size,6,none⟩=some (.int .i64 c.crlf)/\w7.cell? ⟨w.heap.size,7,none⟩=some (.int .i64 c.cr)/\w7.cell? ⟨B,9,none⟩=some (.iface l.ty (.pointer (some ⟨l.blk,0,none⟩)))/\AhR w (w.heap.size+1) w7 from ⟨z0,z1,z2,z3,z4,z5,z6,z7,p9,HI7.o.ahR⟩);have hSd:=Qhh HS7.o;have hBq:B≠w.heap.size+1:=by omega
   go_region_held3 (fun w'=>w'.cell? ⟨w.heap.size,0,none⟩=some (.int .i64 c.body)/\w'.cell? ⟨w.heap.size,1,none⟩=some (.int .i64 c.bytes)/\w'.cell? ⟨w.heap.size,2,none⟩=some (.int .i64 c.chars)/\w'.cell? ⟨w.heap.size,3,none⟩=some (.int .i64 c.units)/\w'.cell? ⟨w.heap.size,4,none⟩=some (.int .i64 c.esc)/\w'.cell? ⟨w.heap.size,5,none⟩=some (.int .i64 c.lf)/\w'.cell? ⟨w.heap.size,6,none⟩=some (.int .i64 c.crlf)/\w'.cell? ⟨w.heap.size,7,none⟩=some (.int .i64 c.cr)/\w'.cell? ⟨B,9,none⟩=some (.iface l.ty (.pointer (some ⟨l.blk,0,none⟩)))/\AhR w (w.heap.size+1) w')
    (first|with_reducible assumption|with_reducible exact HS7.o|with_reducible exact Qhh HS7.o|with_reducible exact (Qax (Qax (Qax (Qax (Qax (Qax (Qax (Qax hS8 hZq hBq 0 _) hZq hBq 1 _) hZq hBq 2 _) hZq hBq 3 _) hZq hBq 4 _) hZq hBq 5 _) hZq hBq 6 _) hZq hBq 7 _))
    (first|(refine (HIL.o _ (Ah_r (by assumption)).low).mono ?_;rintro e w8 ⟨rfl,hb8⟩;have hS8:=Qiu (by assumption) hb8;obtain⟨u0,s0⟩:=(Ah_r hS8).res 0 (by decide);have f0:=(Ah_r hS8).fr 0;obtain⟨u1,s1⟩:=(Ah_r hS8).res 1 (by decide);have f1:=(Ah_r hS8).fr 1;obtain⟨u2,s2⟩:=(Ah_r hS8).res 2 (by decide);have f2:=(Ah_r hS8).fr 2;obtain⟨u3,s3⟩:=(Ah_r hS8).res 3 (by decide);have f3:=(Ah_r hS8).fr 3;obtain⟨u4,s4⟩:=(Ah_r hS8).res 4 (by decide);have f4:=(Ah_r hS8).fr 4;obtain⟨u5,s5⟩:=(Ah_r hS8).res 5 (by decide);have f5:=(Ah_r hS8).fr 5;obtain⟨u6,s6⟩:=(Ah_r hS8).res 6 (by decide);have f6:=(Ah_r hS8).fr 6;obtain⟨u7,s7⟩:=(Ah_r hS8).res 7 (by decide);have f7:=(Ah_r hS8).fr 7))
   have HS8:=Z1 hS8;clear hS8 hSd z0 z1 z2 z3 z4 z5 z6 z7 p9 p10 HS7 HIL HIR hm1 hm2 he1 he2 hent f0 f1 f2 f3 f4 f5 f6 f7;go_wp2_with fail;refine bodyPost_ret (v:=.agg #[.int .i64 A1.body,.int .i64 A1.bytes,.int .i64 A1.chars,.int .i64 A1.units,.int .i64 A1.esc,.int .i64 A1.lf,.int .i64 A1.crlf,.int .i64 A1.cr]) (by simp [results,Tryz.results204,go_sem,s0,s1,s2,s3,s4,s5,s6,s7]) rfl ⟨by rw[show Ar=A1 by simpa [hφ] using HAR.o],?_⟩;have hS8:=HS8.o;exact (Ah_r (Qax (Qax (Qax (Qax (Qax (Qax (Qax (Qax hS8 hZq hBq 0 _) hZq hBq 1 _) hZq hBq 2 _) hZq hBq 3 _) hZq hBq 4 _) hZq hBq 5 _) hZq hBq 6 _) hZq hBq 7 _)).low
  go_wp2_with fail;refine FT.o.mono ?_;rintro e w7 ⟨rfl,hb7⟩;have HI7:=Z1 (HI.o.step hb7);have HM7:=Z1 (HM.o.block (hb7.block _ hzm));clear FT HI HM m0 m1 m2 m3 m4 m5 m6 m7 z0 z1 z2 z3 z4 z5 z6 z7 p9 p10;obtain⟨z0,z1,z2,z3,z4,z5,z6,z7,_⟩:=HM7.o;obtain⟨p9,p10⟩:=Qal HI7.o.nd;have hz7:=Z3 z0;have hbz7:=Z4 HI7.o.nd.1;go_wp2_with fail;have hZq:M≠w.heap.size+1:=by omega
  have HS7:=Z1 (show w7.cell? ⟨M,0,none⟩=some (.int .i64 sm.body)/\w7.cell? ⟨M,1,none⟩=some (.int .i64 sm.bytes)/\w7.cell? ⟨M,2,none⟩=some (.int .i64 sm.chars)/\w7.cell? ⟨M,3,none⟩=some (.int .i64 sm.units)/\w7.cell? ⟨M,4,none⟩=some (.int .i64 sm.esc)/\w7.cell? ⟨M,5,none⟩=some (.int .i64 sm.lf)/\w7.cell? ⟨M,6,none⟩=some (.int .i64 sm.crlf)/\w7.cell? ⟨M,7,none⟩=some (.int .i64 sm.cr)/\w7.cell? ⟨B,10,none⟩=some (.iface r.ty (.pointer (some ⟨r.blk,0,none⟩)))/\AhR w (w.heap.size+1) w7 from ⟨z0,z1,z2,z3,z4,z5,z6,z7,p10,HI7.o.ahR⟩);have hSd:=Qhh HS7.o;have hBq:B≠w.heap.size+1:=by omega
  go_region_held3 (fun w'=>w'.cell? ⟨M,0,none⟩=some (.int .i64 sm.body)/\w'.cell? ⟨M,1,none⟩=some (.int .i64 sm.bytes)/\w'.cell? ⟨M,2,none⟩=some (.int .i64 sm.chars)/\w'.cell? ⟨M,3,none⟩=some (.int .i64 sm.units)/\w'.cell? ⟨M,4,none⟩=some (.int .i64 sm.esc)/\w'.cell? ⟨M,5,none⟩=some (.int .i64 sm.lf)/\w'.cell? ⟨M,6,none⟩=some (.int .i64 sm.crlf)/\w'.cell? ⟨M,7,none⟩=some (.int .i64 sm.cr)/\w'.cell? ⟨B,10,none⟩=some (.iface r.ty (.pointer (some ⟨r.blk,0,none⟩)))/\AhR w (w.heap.size+1) w')
   (first|with_reducible assumption|with_reducible exact HS7.o|with_reducible exact Qhh HS7.o|with_reducible exact (Qax (Qax (Qax (Qax (Qax (Qax (Qax (Qax hS8 hZq hBq 0 _) hZq hBq 1 _) hZq hBq 2 _) hZq hBq 3 _) hZq hBq 4 _) hZq hBq 5 _) hZq hBq 6 _) hZq hBq 7 _))
   (first|(refine (HIR.o _ (Ah_r (by assumption)).low).mono ?_;rintro e w8 ⟨rfl,hb8⟩;have hS8:=Qiu (by assumption) hb8;obtain⟨u0,s0⟩:=(Ah_r hS8).res 0 (by decide);have f0:=(Ah_r hS8).fr 0;obtain⟨u1,s1⟩:=(Ah_r hS8).res 1 (by decide);have f1:=(Ah_r hS8).fr 1;obtain⟨u2,s2⟩:=(Ah_r hS8).res 2 (by decide);have f2:=(Ah_r hS8).fr 2;obtain⟨u3,s3⟩:=(Ah_r hS8).res 3 (by decide);have f3:=(Ah_r hS8).fr 3;obtain⟨u4,s4⟩:=(Ah_r hS8).res 4 (by decide);have f4:=(Ah_r hS8).fr 4;obtain⟨u5,s5⟩:=(Ah_r hS8).res 5 (by decide);have f5:=(Ah_r hS8).fr 5;obtain⟨u6,s6⟩:=(Ah_r hS8).res 6 (by decide);have f6:=(Ah_r hS8).fr 6;obtain⟨u7,s7⟩:=(Ah_r hS8).res 7 (by decide);have f7:=(Ah_r hS8).fr 7))
  have HS8:=Z1 hS8;clear hS8 hSd z0 z1 z2 z3 z4 z5 z6 z7 p9 p10 HS7 HIL HIR hm1 hm2 he1 he2 hent f0 f1 f2 f3 f4 f5 f6 f7;go_wp2_with fail;refine bodyPost_ret (v:=.agg #[.int .i64 A2.body,.int .i64 A2.bytes,.int .i64 A2.chars,.int .i64 A2.units,.int .i64 A2.esc,.int .i64 A2.lf,.int .i64 A2.crlf,.int .i64 A2.cr]) (by simp [results,Tryz.results204,go_sem,s0,s1,s2,s3,s4,s5,s6,s7]) rfl ⟨by rw[show Ar=A2 by simpa [hφ] using HAR.o],?_⟩;have hS8:=HS8.o;exact (Ah_r (Qax (Qax (Qax (Qax (Qax (Qax (Qax (Qax hS8 hZq hBq 0 _) hZq hBq 1 _) hZq hBq 2 _) hZq hBq 3 _) hZq hBq 4 _) hZq hBq 5 _) hZq hBq 6 _) hZq hBq 7 _)).low
open Go.RowKit Go.Shelf Go.Vit
attribute [local go_sem] Oper.semAt_some
theorem Cn.plus_add (c d:Cn) (k r:Int) (s n:Nat):(c.plus d).add k r s n=c.plus (d.add k r s n):=by simp [Cn.plus,Cn.add,Nat.add_assoc]
structure LaI (w0:World) (enc:Int) (b:ByteArray) (c:Cn) (fid:Nat) (caps:Array Value) (φ:Cn->Bool) (pre:List Vm.At) (W:World):Prop where
 sz:w0.heap.size+5<=W.heap.size
 k:CnAt W w0.heap.size (c.plus (cnOf pre))
 f:W.cell? ⟨w0.heap.size+1,0,none⟩=some (.func (.func fid) #[] caps)
 r:CnAt W (w0.heap.size+1+1) cn0
 e:W.cell? ⟨w0.heap.size+1+1+1,0,none⟩=some (.int .i64 enc)
 b:W.cell? ⟨w0.heap.size+1+1+1+1,0,none⟩=some (.string b)
 fit:∀j,1<=j->j<=pre.length->φ (c.plus (cnOf (pre.take j)))=true
 low:Below w0.heap.size w0 W
theorem LaI.kept {b:ByteArray} {c:Cn} {φ:Cn->Bool} (h:LaI w0 enc b c fid caps φ pre W) (hs:W.heap.size<=W'.heap.size) (ho:W'.os=W.os) (ht:W'.tape=W.tape) (hou:W'.output=W.output) (hk:∀k,k<w0.heap.size+5->W'.heap[k]?=W.heap[k]?):LaI w0 enc b c fid caps φ pre W' :=
 ⟨Nat.le_trans h.sz hs,h.k.block (hk _ (by omega)),(World.cell?_of_block (w:=W) (hk (w0.heap.size+1) (by omega))).trans h.f,h.r.block (hk _ (by omega)),(World.cell?_of_block (w:=W) (hk (w0.heap.size+1+1+1) (by omega))).trans h.e,(World.cell?_of_block (w:=W) (hk (w0.heap.size+1+1+1+1) (by omega))).trans h.b,h.fit,
  h.low.trans ⟨ho,ht,hou,hs,fun k hk'=>hk k (by omega)⟩⟩
theorem LaI.low' {b:ByteArray} {c:Cn} {φ:Cn->Bool} (h:LaI w0 enc b c fid caps φ pre W) (hb:Below W.heap.size W W'):LaI w0 enc b c fid caps φ pre W' :=
 h.kept hb.size hb.os hb.tape hb.output (fun k hk=>hb.block k (by have:=h.sz;omega))
theorem LaI.more {b:ByteArray} {c:Cn} {φ:Cn->Bool} {x:Vm.At} (h:LaI w0 enc b c fid caps φ pre W) (hc:CnAt W' w0.heap.size (c.plus (cnOf (pre++[x])))) (ht:Tn w0.heap.size W W') (hfit:φ (c.plus (cnOf (pre++[x])))=true):LaI w0 enc b c fid caps φ (pre++[x]) W':=by
 have hsz:=h.sz;have hk:∀k,k<w0.heap.size+5->k≠w0.heap.size->W'.heap[k]?=W.heap[k]?:=fun k h1 h2=>ht.keep k (by omega) h2
 refine⟨Nat.le_trans h.sz ht.size,hc,(World.cell?_of_block (w:=W) (hk (w0.heap.size+1) (by omega) (by omega))).trans h.f,h.r.block (hk _ (by omega) (by omega)),(World.cell?_of_block (w:=W) (hk (w0.heap.size+1+1+1) (by omega) (by omega))).trans h.e,(World.cell?_of_block (w:=W) (hk (w0.heap.size+1+1+1+1) (by omega) (by omega))).trans h.b,fun j h1 h2=>?_,
  h.low.trans ⟨ht.os,ht.tape,ht.output,ht.size,fun k hk'=>hk k (by omega) (by omega)⟩⟩
 rw[List.length_append,List.length_singleton] at h2;by_cases hj:j<=pre.length
 ·rw[List.take_append_of_le_length hj];exact h.fit j h1 hj
 rw[List.take_of_length_le (by rw[List.length_append,List.length_singleton];omega)];exact hfit
def LaX (w0:World) (enc:Int) (b:ByteArray) (c:Cn) (fid:Nat) (caps:Array Value) (φ:Cn->Bool) (co:Code) (pre:List Vm.At) (W:World):Prop :=
 ∃A0 x,co=.exit 0/\pre=A0++[x]/\LaI w0 enc b c fid caps φ A0 W/\φ (c.plus (cnOf (A0++[x])))=false
theorem QkG (enc:Int) (B:Nat) (cl:Cn) (b:ByteArray) (c:Cn) (fid:Nat) (caps:Array Value) (φ:Cn->Bool) (w:World) (ht:Tabs w) (hn:(Nd.leaf B cl b).In w) (hf:Fits w fid caps φ) (hb:b.size<=1099511627776) (hsm:(c.plus (cnOf (Vm.atoms enc b.data.toList))).Small) (h0:0<=enc) (h3:enc<=3) :
  Calls prog 196 #[.pointer (some ⟨B,0,none⟩),c.val,.int .i64 enc,.func (.func fid) #[] caps] w fun e w'=>e=.returned (aheadC φ c (Vm.atoms enc b.data.toList)).val/\Below w.heap.size w w':=by
 have hfo:prog.follows Departure.mixedOrders=true:=by kernel_rfl
 have l9:w.cell? ⟨B,9,none⟩=some (.string b):=by rw[Lib.cell_of_heap hn];rfl
 have hz:=Z4 hn
 have hb0:=((Z7 w (.cells #[.int .i64 c.body,.int .i64 c.bytes,.int .i64 c.chars,.int .i64 c.units,.int .i64 c.esc,.int .i64 c.lf,.int .i64 c.crlf,.int .i64 c.cr] 119)).alloc (by simp) (.cells #[.func (.func fid) #[] caps] 194)).alloc (by simp;omega) (.cells #[.int .i64 0,.int .i64 0,.int .i64 0,.int .i64 0,.int .i64 0,.int .i64 0,.int .i64 0,.int .i64 0] 119)
 have l9':=(hb0.cell (p:=⟨B,9,none⟩) hz).trans l9
 have HB0:=hide hb0
 clear hb0
 simp only[Cn.val]
 refine (callsIn_wide (n:=9)).1 ?_
 refine callsIn_of_wp_marks func196 rfl trivial ?_ rfl
 simp only[ntmps196,List.size_toArray,List.length_cons,List.length_nil,Nat.reduceAdd,Nat.reduceSub,Array.replicate_succ,Array.replicate_zero,List.push_toArray,List.append_toArray,List.nil_append,List.cons_append]
 gi_wp2_with fail
 refine⟨trivial,(callsIn_wide.2 (Qcm enc b _)).mono ?_⟩
 rintro e w1 ⟨rfl,hw1⟩
 simp only[World.size_alloc] at hw1 ⊢
 have hs1:w1.heap.size=w.heap.size+5:=by rw[hw1];simp
 have hb1:Below w.heap.size w w1:=by
  rw[hw1];exact (HB0.o.alloc (by simp;omega) _).alloc (by simp;omega) _
 have hI0:LaI w enc b c fid caps φ [] w1:=by
  refine⟨by omega,?_,?_,?_,?_,?_,fun j h1 h2=>(by simp at h2;omega),hb1⟩
  ·rw[hw1,Cn.plus_zero];exact ((((QeN w c _).alloc _).alloc _).alloc _).alloc _
  ·rw[hw1];simp [go_sem]
  ·rw[hw1];have:=((CnAt.new ((w.alloc (.cells #[.int .i64 c.body,.int .i64 c.bytes,.int .i64 c.chars,.int .i64 c.units,.int .i64 c.esc,.int .i64 c.lf,.int .i64 c.crlf,.int .i64 c.cr] 119)).alloc (.cells #[.func (.func fid) #[] caps] 194)) 119).alloc (.cells #[.int .i64 enc] 3)).alloc (.cells #[.string b] 9);have hz:((w.alloc (.cells #[.int .i64 c.body,.int .i64 c.bytes,.int .i64 c.chars,.int .i64 c.units,.int .i64 c.esc,.int .i64 c.lf,.int .i64 c.crlf,.int .i64 c.cr] 119)).alloc (.cells #[.func (.func fid) #[] caps] 194)).heap.size=w.heap.size+1+1:=by simp
   rw[hz] at this;exact this
  ·rw[hw1];simp [go_sem]
  rw[hw1];simp [go_sem]
 clear hw1
 have hok:=Vm.Qao enc b.data.toList
 have hch:=Vm.QbM enc b.data.toList
 have hit:=Qci b enc (w.heap.size+1+1+1) (w.heap.size+1+1+1+1) hb h0 h3
 have hent:=hf.ent
 have HF:=hide hf
 generalize hA:Vm.atoms enc b.data.toList=A at *
 have HAA:=hide hA
 clear hA hf
 gi_wp2
 refine Qd9 (gf:=135) rfl (enters_of func135 (by kernel_rfl) rfl) hit (fun _=>rfl) (fun _ _=>False) (Qbg _)
  (LaI w enc b c fid caps φ) (LaX w enc b c fid caps φ) ?hI ?hIx ?hN hI0 (fun x a' W=>∃Bq,a' = { tmps:=#[.pointer (some ⟨B,0,none⟩),.agg #[.int .i64 c.body,.int .i64 c.bytes,.int .i64 c.chars,.int .i64 c.units,.int .i64 c.esc,.int .i64 c.lf,.int .i64 c.crlf,.int .i64 c.cr],.int .i64 enc,.func (.func fid) #[] caps,undef,.pointer (some ⟨w.heap.size,0,none⟩),undef,.pointer (some ⟨w.heap.size+1,0,none⟩),.pointer (some ⟨w.heap.size+1+1,0,none⟩),.pointer (some ⟨Bq,0,none⟩),undef,.int .i64 enc,.pointer (some ⟨B,0,none⟩),.pointer (some ⟨B,0,none⟩),.pointer (some ⟨B,9,none⟩),.string b,.func (.func 135) #[] #[.pointer (some ⟨w.heap.size+1+1+1,0,none⟩),.pointer (some ⟨w.heap.size+1+1+1+1,0,none⟩)],.agg #[.int .i64 x.1,.int .i32 x.2.1,.int .i64 x.2.2],undef,undef,undef,undef,undef,undef,undef,undef,undef],defers:=[] }/\W.heap[Bq]?=some (.cells #[.int .i64 x.1,.int .i32 x.2.1,.int .i64 x.2.2] 175)/\w1.heap.size<=Bq) ?hAx ?assign ?body ?done ?stop
 case hI =>
  intro s A B h st;exact h.kept st.size st.os st.tape st.output (fun k hk=>st.low k (by omega))
 case hIx =>
  rintro c s A B ⟨A0,x,h1,h2,h3,h4⟩ st;exact⟨A0,x,h1,h2,h3.kept st.size st.os st.tape st.output (fun k hk=>st.low k (by omega)),h4⟩
 case hN =>
  intro s A h;exact⟨⟨ht.below h.low,h.e,h.b⟩,fun _ hf=>hf.elim⟩
 case hAx =>
  rintro x a' A L r o ⟨Bq,h1,h2,h3⟩ hl;refine⟨Bq,h1,?_,h3⟩;rw[World.putObj_heap_other (fun e=>by rw[e,hl] at h2;cases h2)];exact h2
 case assign =>
  intro l pre x W K hsz hi hK;dsimp only [encAt];gi_wp2;have hbw:Below W.heap.size W (W.alloc (.cells #[.int .i64 x.1,.int .i32 x.2.1,.int .i64 x.2.2] 175)):=Z7 _ _;have hsw:=hi.sz;exact hK _ _ (BodyStep.of_below (Qbg _) hbw (by omega)) (hi.low' hbw) ⟨W.heap.size,rfl,Go.Deep.blk_alloc_new _ _,by omega⟩
 case body =>
  rintro l2 pre x a' W2 hsz ⟨r,hr⟩ hl2 hi ⟨Bq,rfl,hq,hBq⟩ hpre;have hx:=hok x (hpre.subset (by simp));have hxc:=(hch x (hpre.subset (by simp))).1
  have hsm2:(c.plus (cnOf (pre++[x]))).Small:=by
   obtain⟨s,rfl⟩:=hpre;rw[Qa2 (pre++[x]),<-Cn.plus_assoc] at hsm;exact hsm.left
  have hsm1:(c.plus (cnOf pre)).Small:=by
   rw[Qa2 pre,<-Cn.plus_assoc] at hsm2;exact hsm2.left
  have HN:=hide (show c.plus (cnOf (pre++[x]))=(c.plus (cnOf pre)).add x.1 x.2.1 x.2.2 (Vm.utfLen x.2.1) by rw[Qif,Cn.plus_add]);obtain⟨k,ch,sz⟩:=x;obtain⟨g1,g2,g3,g4,g5,g6,g7,g8⟩:=hx;simp only at g1 g2 g3 g4 g5 g6 g7 g8 hq hxc;obtain⟨c0,c1,c2,c3,c4,c5,c6,c7,cf⟩:=hi.k;have q0:=C0 hq;have q1:=C1 hq;have q2:=C2 hq;have z1:=Z3 c0;have z2:=Z3 q0;have HI:=hide hi;have HP:=hide hpre;have HQ:=hide hq;have HSM:=hide hsm1;have HSM2:=hide hsm2;clear hi hpre hok hch hit hq hsm1 hsm2 hsm;generalize hcp:c.plus (cnOf pre)=cp at *;generalize hsp:c.plus (cnOf (pre++[(k,ch,sz)]))=sp at *;have HCP:=hide hcp;have HSP:=hide hsp;have HA:=hide (QmC W2.heap.size cp k ch sz (Vm.utfLen ch) (W2.alloc (.cells #[.int .i64 cp.body,.int .i64 cp.bytes,.int .i64 cp.chars,.int .i64 cp.units,.int .i64 cp.esc,.int .i64 cp.lf,.int .i64 cp.crlf,.int .i64 cp.cr] 119)) (QeN W2 cp _) HSM.o g1 g2 g8 (by have:=Vm.Qaa ch;omega) (QfI ch hxc));have hba:Below W2.heap.size W2 (W2.alloc (.cells #[.int .i64 cp.body,.int .i64 cp.bytes,.int .i64 cp.chars,.int .i64 cp.units,.int .i64 cp.esc,.int .i64 cp.lf,.int .i64 cp.crlf,.int .i64 cp.cr] 119)):=Z7 _ _;have HBA:=hide hba;clear hcp hsp hba hxc;gi_wp2_with fail;refine⟨trivial,(CallsIn.inRound l2 (callsIn_wide.2 HA.o)).mono ?_⟩;rintro e W3 ⟨rfl,hc3,ht3⟩;have hb3:Below W2.heap.size W2 W3:=⟨ht3.os.trans HBA.o.os,ht3.tape.trans HBA.o.tape,ht3.output.trans HBA.o.output,Nat.le_trans HBA.o.size ht3.size,fun k hk=>(ht3.keep k (by simp;omega) (by omega)).trans (HBA.o.block k hk)⟩;rw[<-HN.o] at hc3;have HI3:=hide (HI.o.low' hb3);have f3:=HI3.o.f;have FT:=hide (HF.o.call sp W3 HI3.o.low HSM2.o);have HC3:=hide hc3;have HB3:=hide hb3;obtain⟨c0,c1,c2,c3,c4,c5,c6,c7,_⟩:=hc3;have z3:=Z3 c0;have z4:=Z3 f3;clear HA ht3 hb3 q0 q1 q2;simp only[Cn.val] at FT;cases hφ:φ sp
  all_goals rw[hφ] at FT
  ·gi_wp2_with fail;refine⟨trivial,(CallsIn.inRound l2 (callsIn_wide.2 FT.o)).mono ?_⟩;rintro e W4 ⟨rfl,hb4⟩;have hb24:=HB3.o.trans (hb4.mono HB3.o.size);have HB4:=hide (BodyStep.of_below (Qbg _) hb24 (lo:=w1.heap.size) (by omega));have HX:=hide (show LaX w enc b c fid caps φ (.exit 0) (pre++[(k,ch,sz)]) W4 from ⟨pre,(k,ch,sz),rfl,rfl,HI.o.low' hb24,by rw[HSP.o];exact hφ⟩);clear hb4 hb24 FT HC3 c0 c1 c2 c3 c4 c5 c6 c7 f3;gi_wp2;exact⟨HB4.o,HX.o⟩
  gi_wp2_with fail;refine⟨trivial,(CallsIn.inRound l2 (callsIn_wide.2 FT.o)).mono ?_⟩;rintro e W4 ⟨rfl,hb4⟩;have hb24:=HB3.o.trans (hb4.mono HB3.o.size);have HB4:=hide (BodyStep.of_below (Qbg _) hb24 (lo:=w1.heap.size) (by omega));have HI4:=hide (HI.o.low' hb24);have hc4:=HC3.o.block (hb4.block _ z3);have hk4:=HI4.o.k;rw[HCP.o] at hk4;have HK4:=hide hk4;have z5:=hb4.size;clear hb4 hb24 FT HC3 c0 c1 c2 c3 c4 c5 c6 c7 f3;obtain⟨c0,c1,c2,c3,c4,c5,c6,c7,_⟩:=hc4;obtain⟨d0,d1,d2,d3,d4,d5,d6,d7,df⟩:=hk4;have z6:=Z3 c0;have z7:=Z3 d0;have hne:W2.heap.size≠w.heap.size:=by omega
  gi_wp2;refine⟨HB4.o.trans ((tn8 _ _ _ _ _ _ _ _).body (by omega)),HI4.o.more ?_ (tn8 _ _ _ _ _ _ _ _) (by rw[HSP.o];exact hφ)⟩;rw[HSP.o];exact cn8 HK4.o sp
 case done =>
  intro W hsz hi hd hmd;obtain⟨c0,c1,c2,c3,c4,c5,c6,c7,_⟩:=hi.k;obtain⟨d0,d1,d2,d3,d4,d5,d6,d7,df⟩:=hi.r;have HI:=hide hi
  have HQ:=hide (show c.plus (cnOf A)=aheadC φ c A by
   unfold aheadC
   rw[Qfv φ A c A.length (Z6 _) HI.o.fit (fun h=>absurd h (Nat.lt_irrefl _)),List.take_length])
  clear hi hit hok hch;gi_wp2;have HX:=hide (cn8 HI.o.r (c.plus (cnOf A)));have hT:Tn (w.heap.size+1+1) W ((((((((W.setCell ⟨w.heap.size+1+1,0,none⟩ (.int .i64 (c.plus (cnOf A)).body)).setCell ⟨w.heap.size+1+1,1,none⟩ (.int .i64 (c.plus (cnOf A)).bytes)).setCell ⟨w.heap.size+1+1,2,none⟩ (.int .i64 (c.plus (cnOf A)).chars)).setCell ⟨w.heap.size+1+1,3,none⟩ (.int .i64 (c.plus (cnOf A)).units)).setCell ⟨w.heap.size+1+1,4,none⟩ (.int .i64 (c.plus (cnOf A)).esc)).setCell ⟨w.heap.size+1+1,5,none⟩ (.int .i64 (c.plus (cnOf A)).lf)).setCell ⟨w.heap.size+1+1,6,none⟩ (.int .i64 (c.plus (cnOf A)).crlf)).setCell ⟨w.heap.size+1+1,7,none⟩ (.int .i64 (c.plus (cnOf A)).cr)):=tn8 _ _ _ _ _ _ _ _;have hdX:=(hT.keep w1.heap.size (by omega) (by omega)).trans hd;have HLX:=hide (show Below w.heap.size w ((((((((W.setCell ⟨w.heap.size+1+1,0,none⟩ (.int .i64 (c.plus (cnOf A)).body)).setCell ⟨w.heap.size+1+1,1,none⟩ (.int .i64 (c.plus (cnOf A)).bytes)).setCell ⟨w.heap.size+1+1,2,none⟩ (.int .i64 (c.plus (cnOf A)).chars)).setCell ⟨w.heap.size+1+1,3,none⟩ (.int .i64 (c.plus (cnOf A)).units)).setCell ⟨w.heap.size+1+1,4,none⟩ (.int .i64 (c.plus (cnOf A)).esc)).setCell ⟨w.heap.size+1+1,5,none⟩ (.int .i64 (c.plus (cnOf A)).lf)).setCell ⟨w.heap.size+1+1,6,none⟩ (.int .i64 (c.plus (cnOf A)).crlf)).setCell ⟨w.heap.size+1+1,7,none⟩ (.int .i64 (c.plus (cnOf A)).cr)) from HI.o.low.trans ⟨hT.os,hT.tape,hT.output,hT.size,fun k hk=>hT.keep k (by omega) (by omega)⟩);clear hT c0 c1 c2 c3 c4 c5 c6 c7 d0 d1 d2 d3 d4 d5 d6 d7 df;generalize ((((((((W.setCell ⟨w.heap.size+1+1,0,none⟩ (.int .i64 (c.plus (cnOf A)).body)).setCell ⟨w.heap.size+1+1,1,none⟩ (.int .i64 (c.plus (cnOf A)).bytes)).setCell ⟨w.heap.size+1+1,2,none⟩ (.int .i64 (c.plus (cnOf A)).chars)).setCell ⟨w.heap.size+1+1,3,none⟩ (.int .i64 (c.plus (cnOf A)).units)).setCell ⟨w.heap.size+1+1,4,none⟩ (.int .i64 (c.plus (cnOf A)).esc)).setCell ⟨w.heap.size+1+1,5,none⟩ (.int .i64 (c.plus (cnOf A)).lf)).setCell ⟨w.heap.size+1+1,6,none⟩ (.int .i64 (c.plus (cnOf A)).crlf)).setCell ⟨w.heap.size+1+1,7,none⟩ (.int .i64 (c.plus (cnOf A)).cr))=X at *;refine⟨by simp,.inl ⟨_,_,rfl,run_takeDeferred hdX,?_⟩⟩;obtain⟨s0,s1,s2,s3,s4,s5,s6,s7,_⟩:=HX.o.block (w':=X.putObj w1.heap.size (.deferred none)) (World.putObj_heap_other (by omega));refine⟨(c.plus (cnOf A)).val,by simp [results,Tryz.results196,go_sem,s0,s1,s2,s3,s4,s5,s6,s7,Cn.val],?_,?_⟩
  ·rw[HAA.o,<-HQ.o];rfl
  have hz:=HLX.o;exact⟨hz.os,hz.tape,hz.output,by simpa using hz.size,fun k hk=>(World.putObj_heap_other (by omega)).trans (hz.block k hk)⟩
 case stop =>
  rintro co pre W hsz hpre ⟨A0,x,rfl,rfl,hi,hφ⟩ hd hmd;obtain⟨c0,c1,c2,c3,c4,c5,c6,c7,_⟩:=hi.k;obtain⟨d0,d1,d2,d3,d4,d5,d6,d7,df⟩:=hi.r;have HI:=hide hi
  have HQ:=hide (show c.plus (cnOf A0)=aheadC φ c A by
   obtain⟨s,rfl⟩:=hpre;unfold aheadC;rw[Qfv φ _ c A0.length (by simp) (fun j h1 h2=>?_) (fun _=>?_)]
   ·rw[List.append_assoc,List.take_append_of_le_length (Z6 _),List.take_length]
   ·rw[List.append_assoc,List.take_append_of_le_length h2];exact HI.o.fit j h1 h2
   rw[List.take_append_of_le_length (by simp),List.take_of_length_le (by simp)];exact hφ)
  clear hi hit hok hch hpre;gi_wp2;have HX:=hide (cn8 HI.o.r (c.plus (cnOf A0)));have hT:Tn (w.heap.size+1+1) W ((((((((W.setCell ⟨w.heap.size+1+1,0,none⟩ (.int .i64 (c.plus (cnOf A0)).body)).setCell ⟨w.heap.size+1+1,1,none⟩ (.int .i64 (c.plus (cnOf A0)).bytes)).setCell ⟨w.heap.size+1+1,2,none⟩ (.int .i64 (c.plus (cnOf A0)).chars)).setCell ⟨w.heap.size+1+1,3,none⟩ (.int .i64 (c.plus (cnOf A0)).units)).setCell ⟨w.heap.size+1+1,4,none⟩ (.int .i64 (c.plus (cnOf A0)).esc)).setCell ⟨w.heap.size+1+1,5,none⟩ (.int .i64 (c.plus (cnOf A0)).lf)).setCell ⟨w.heap.size+1+1,6,none⟩ (.int .i64 (c.plus (cnOf A0)).crlf)).setCell ⟨w.heap.size+1+1,7,none⟩ (.int .i64 (c.plus (cnOf A0)).cr)):=tn8 _ _ _ _ _ _ _ _;have hdX:=(hT.keep w1.heap.size (by omega) (by omega)).trans hd;have HLX:=hide (show Below w.heap.size w ((((((((W.setCell ⟨w.heap.size+1+1,0,none⟩ (.int .i64 (c.plus (cnOf A0)).body)).setCell ⟨w.heap.size+1+1,1,none⟩ (.int .i64 (c.plus (cnOf A0)).bytes)).setCell ⟨w.heap.size+1+1,2,none⟩ (.int .i64 (c.plus (cnOf A0)).chars)).setCell ⟨w.heap.size+1+1,3,none⟩ (.int .i64 (c.plus (cnOf A0)).units)).setCell ⟨w.heap.size+1+1,4,none⟩ (.int .i64 (c.plus (cnOf A0)).esc)).setCell ⟨w.heap.size+1+1,5,none⟩ (.int .i64 (c.plus (cnOf A0)).lf)).setCell ⟨w.heap.size+1+1,6,none⟩ (.int .i64 (c.plus (cnOf A0)).crlf)).setCell ⟨w.heap.size+1+1,7,none⟩ (.int .i64 (c.plus (cnOf A0)).cr)) from HI.o.low.trans ⟨hT.os,hT.tape,hT.output,hT.size,fun k hk=>hT.keep k (by omega) (by omega)⟩);clear hT c0 c1 c2 c3 c4 c5 c6 c7 d0 d1 d2 d3 d4 d5 d6 d7 df;generalize ((((((((W.setCell ⟨w.heap.size+1+1,0,none⟩ (.int .i64 (c.plus (cnOf A0)).body)).setCell ⟨w.heap.size+1+1,1,none⟩ (.int .i64 (c.plus (cnOf A0)).bytes)).setCell ⟨w.heap.size+1+1,2,none⟩ (.int .i64 (c.plus (cnOf A0)).chars)).setCell ⟨w.heap.size+1+1,3,none⟩ (.int .i64 (c.plus (cnOf A0)).units)).setCell ⟨w.heap.size+1+1,4,none⟩ (.int .i64 (c.plus (cnOf A0)).esc)).setCell ⟨w.heap.size+1+1,5,none⟩ (.int .i64 (c.plus (cnOf A0)).lf)).setCell ⟨w.heap.size+1+1,6,none⟩ (.int .i64 (c.plus (cnOf A0)).crlf)).setCell ⟨w.heap.size+1+1,7,none⟩ (.int .i64 (c.plus (cnOf A0)).cr))=X at *;refine⟨by simp,.inl ⟨_,_,rfl,run_takeDeferred hdX,?_⟩⟩;obtain⟨s0,s1,s2,s3,s4,s5,s6,s7,_⟩:=HX.o.block (w':=X.putObj w1.heap.size (.deferred none)) (World.putObj_heap_other (by omega));refine⟨(c.plus (cnOf A0)).val,by simp [results,Tryz.results196,go_sem,s0,s1,s2,s3,s4,s5,s6,s7,Cn.val],?_,?_⟩
  ·rw[HAA.o,<-HQ.o];rfl
  have hz:=HLX.o;exact⟨hz.os,hz.tape,hz.output,by simpa using hz.size,fun k hk=>(World.putObj_heap_other (by omega)).trans (hz.block k hk)⟩
theorem Qez (enc:Int) (h0:0<=enc) (h3:enc<=3):∀(n:Nd) (c:Cn) (fid:Nat) (caps:Array Value) (φ:Cn->Bool) (w:World),Tabs w->n.In w->n.Ok->(∀x∈n.row,LeafOk enc x)->(rowB n.row).length<=1099511627776->Fits w fid caps φ->(c.plus (cnOf (rowA enc n.row))).Small->FitMono φ c (rowA enc n.row) ->
  Calls prog n.af #[.pointer (some ⟨n.blk,0,none⟩),c.val,.int .i64 enc,.func (.func fid) #[] caps] w fun e w'=>e=.returned (aheadC φ c (rowA enc n.row)).val/\Below w.heap.size w w'
 |.leaf B cl b,c,fid,caps,φ,w,ht,hn,ho,hl,hb,hf,hsm,hm=>by
  have e:rowA enc (Nd.leaf B cl b).row=Vm.atoms enc b.data.toList:=by simp [Nd.row,rowA]
  rw[e] at hsm ⊢
  exact QkG enc B cl b c fid caps φ w ht hn hf (by simpa [Nd.row,rowB] using hb) hsm h0 h3
 |.inner B cn k l r,c,fid,caps,φ,w,ht,hn,ho,hl,hb,hf,hsm,hm=>by
  have e:(Nd.inner B cn k l r).row=l.row++r.row:=rfl
  rw[e] at hl hb hsm hm ⊢
  rw[Qaw] at hsm hm ⊢
  rw[Qaf,List.length_append] at hb
  have hll:∀x∈l.row,LeafOk enc x:=fun x hx=>hl x (by simp [hx])
  have hlr:∀x∈r.row,LeafOk enc x:=fun x hx=>hl x (by simp [hx])
  have hcl:l.cn=cnOf (rowA enc l.row):=Nd.cn_row enc ho.2.2.1 hll
  rw[Qa2,<-Cn.plus_assoc] at hsm
  have:=QiP fid caps φ B c cn k l r enc (aheadC φ c (rowA enc l.row)) (aheadC φ (c.plus l.cn) (rowA enc r.row)) w hf hn (by rw[hcl];exact hsm.left)
   (fun w1 h1=>Qez enc h0 h3 l c fid caps φ w1 (ht.below h1) (Nd.low h1 hn.2.1) ho.2.2.1 hll (by omega) (hf.low h1) hsm.left hm.left)
   (fun w1 h1=>Qez enc h0 h3 r (c.plus l.cn) fid caps φ w1 (ht.below h1) (Nd.low h1 hn.2.2) ho.2.2.2 hlr (by omega) (hf.low h1) (by rw[hcl];exact hsm) (by rw[hcl];exact hm.right))
  refine this.mono ?_
  rintro e w' ⟨rfl,hb'⟩
  refine⟨?_,hb'⟩
  rw[hcl]
  cases hφ:φ (c.plus (cnOf (rowA enc l.row)))
  ·rw[if_neg (by simp),Qkn hm hφ]
  rw[if_pos rfl,Qix hm hφ]
theorem QeD (enc:Int) (t:Option Nd) (R:List (Cn × ByteArray)) (fid:Nat) (caps:Array Value) (φ:Cn->Bool) (w:World) (ht:Tabs w) (hr:TrAt w enc t R) (h0:0<=enc) (h3:enc<=3) (hl:(rowB R).length<=1099511627776) (hf:Fits w fid caps φ) (hm:FitMono φ cn0 (rowA enc R)) :
  Calls prog 128 #[.agg #[trv t],.int .i64 enc,.func (.func fid) #[] caps] w fun e w'=>e=.returned (aheadC φ cn0 (rowA enc R)).val/\Below w.heap.size w w':=by
 cases t with
 |none =>
  have:=hr.non rfl;subst this;simp only[trv];have hz:(aheadC φ cn0 (rowA enc [])).val=.agg #[.int .i64 0,.int .i64 0,.int .i64 0,.int .i64 0,.int .i64 0,.int .i64 0,.int .i64 0,.int .i64 0]:=rfl;rw[hz];clear hz;go_enter func128,ntmps128;go_wp2_with fail;refine bodyPost_ret (v:=.agg #[.int .i64 0,.int .i64 0,.int .i64 0,.int .i64 0,.int .i64 0,.int .i64 0,.int .i64 0,.int .i64 0]) (by simp [results,Tryz.results128,go_sem]) rfl ⟨rfl,?_⟩;exact (Z7 _ _).alloc (by simp) _
 |some n =>
  obtain⟨h1,h2,h5⟩:=hr.inn n rfl;subst h5;have hsz:=Qae hr.ok;have hsm:=Qbr (A:=rowA enc n.row) (by omega) (by have:=Vm.Qau (Qa4 enc n.row);omega);simp only[trv];have HX:=Z1 (fun w1 (hb:Below w.heap.size w w1)=>Qez enc h0 h3 n cn0 fid caps φ w1 (ht.below hb) (Nd.low hb h1) h2 hr.ok hl (hf.low hb) (by rw[QaW];exact hsm) hm);have hm1:=Qem n 362;have he1:=QfC n;clear hr ht hf hm hsm h1 h2;generalize aheadC φ cn0 (rowA enc n.row)=Ar at *;simp only[Cn.val,cn0] at HX ⊢;go_enter func128,ntmps128;go_wp2_with fail;have hb0:Below w.heap.size w ((w.alloc (.cells #[.iface n.ty (.pointer (some ⟨n.blk,0,none⟩))] 89)).alloc (.cells #[.int .i64 0,.int .i64 0,.int .i64 0,.int .i64 0,.int .i64 0,.int .i64 0,.int .i64 0,.int .i64 0] 119)):=(Z7 _ _).alloc (by simp) _;have hzr:=CnAt.new (w.alloc (.cells #[.iface n.ty (.pointer (some ⟨n.blk,0,none⟩))] 89)) 119;rw[World.size_alloc] at hzr;refine (HX.o _ hb0).mono ?_;rintro e w1 ⟨rfl,hb1⟩;have hz1:=hzr.below hb1;have HZ1:=Z1 hz1;have HL:=Z1 (hb0.trans (hb1.mono hb0.size));clear HX hm1 he1 hzr hb0 hb1;obtain⟨y0,y1,y2,y3,y4,y5,y6,y7,yf⟩:=hz1;have yz:=Z3 y0;go_wp2_with fail;refine bodyPost_ret (v:=.agg #[.int .i64 Ar.body,.int .i64 Ar.bytes,.int .i64 Ar.chars,.int .i64 Ar.units,.int .i64 Ar.esc,.int .i64 Ar.lf,.int .i64 Ar.crlf,.int .i64 Ar.cr]) ?_ rfl ⟨rfl,?_⟩
  ·obtain⟨s0,s1,s2,s3,s4,s5,s6,s7,_⟩:=cn8 HZ1.o Ar;simp [results,Tryz.results128,go_sem,y0,y1,y2,y3,y4,y5,y6,y7]
  exact low8 HL.o (by omega) _ _ _ _ _ _ _ _
end Go.Proofs.YtoejbngihecafaaGreatDoor
