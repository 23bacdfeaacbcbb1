import Derived.Test.YtoejbngihecafaaGreatDoorA6
set_option maxRecDepth 100000
set_option maxHeartbeats 4000000
namespace Go.Proofs.YtoejbngihecafaaGreatDoor
open Go.RowKit
variable {T:World->Prop} {D:World->Nat->Int->Bool->ByteArray->Prop}
theorem rstate_any (B:Nat) (enc:Int) (mark:Bool) (body:ByteArray) (w:World) (hd:RDoc w B enc mark body) (hs:body.size<=1099511627776) (h0:0<=enc) (h3:enc<=3) :
  Calls Tryz.prog 46 #[.pointer (some ⟨B,0,none⟩)] w fun e w'=>e=.returned (shown enc mark body)/\Below w.heap.size w w' :=
 (rshow_any B enc mark body w hd hs h0 h3).mono (fun _ _ h=>⟨h.1 _ rfl,h.2⟩)
theorem shown_parts (enc:Int) (mark:Bool) (body:ByteArray):∃n2 n3 n4 n5 n6 t7 n8,shown enc mark body=.agg #[.int .i64 enc,.bool mark,.int .i64 n2,.int .i64 n3,.int .i64 n4,.int .i64 n5,.int .i64 n6,.bool t7,.int .i64 n8]:=⟨_,_,_,_,_,_,_,rfl⟩
theorem looked_kept {W w w':World} {q C r:Nat} {enc:Int} {mark:Bool} {body:ByteArray} {u v0 v1 v2 v3 v4 v5 v6 v7 v8:Value} (h:w.cell? ⟨q,1,none⟩=some u/\w.cell? ⟨C,0,none⟩=some v0/\w.cell? ⟨C,1,none⟩=some v1/\w.cell? ⟨C,2,none⟩=some v2/\w.cell? ⟨C,3,none⟩=some v3/\w.cell? ⟨C,4,none⟩=some v4/\w.cell? ⟨C,5,none⟩=some v5/\w.cell? ⟨C,6,none⟩=some v6/\w.cell? ⟨C,7,none⟩=some v7/\w.cell? ⟨C,8,none⟩=some v8/\RDoc w r enc mark body/\Below W.heap.size W w) (hb:Below w.heap.size w w'):w'.cell? ⟨q,1,none⟩=some u/\w'.cell? ⟨C,0,none⟩=some v0/\w'.cell? ⟨C,1,none⟩=some v1/\w'.cell? ⟨C,2,none⟩=some v2/\w'.cell? ⟨C,3,none⟩=some v3/\w'.cell? ⟨C,4,none⟩=some v4/\w'.cell? ⟨C,5,none⟩=some v5/\w'.cell? ⟨C,6,none⟩=some v6/\w'.cell? ⟨C,7,none⟩=some v7/\w'.cell? ⟨C,8,none⟩=some v8/\RDoc w' r enc mark body/\Below W.heap.size W w':=by
 obtain⟨h,c0,c1,c2,c3,c4,c5,c6,c7,c8,d,k⟩:=h
 have g:∀b o v,w.cell? ⟨b,o,none⟩=some v->w'.cell? ⟨b,o,none⟩=some v:=fun b o v h=>(hb.cell (p:=⟨b,o,none⟩) (Z3 h)).trans h
 exact⟨g _ _ _ h,g _ _ _ c0,g _ _ _ c1,g _ _ _ c2,g _ _ _ c3,g _ _ _ c4,g _ _ _ c5,g _ _ _ c6,g _ _ _ c7,g _ _ _ c8,d.below hb,k.trans (hb.mono k.size)⟩
theorem looked_drew {W w:World} {q C r:Nat} {enc:Int} {mark:Bool} {body:ByteArray} {u v0 v1 v2 v3 v4 v5 v6 v7 v8:Value} (h:w.cell? ⟨q,1,none⟩=some u/\w.cell? ⟨C,0,none⟩=some v0/\w.cell? ⟨C,1,none⟩=some v1/\w.cell? ⟨C,2,none⟩=some v2/\w.cell? ⟨C,3,none⟩=some v3/\w.cell? ⟨C,4,none⟩=some v4/\w.cell? ⟨C,5,none⟩=some v5/\w.cell? ⟨C,6,none⟩=some v6/\w.cell? ⟨C,7,none⟩=some v7/\w.cell? ⟨C,8,none⟩=some v8/\RDoc w r enc mark body/\Below W.heap.size W w):w.drew.cell? ⟨q,1,none⟩=some u/\w.drew.cell? ⟨C,0,none⟩=some v0/\w.drew.cell? ⟨C,1,none⟩=some v1/\w.drew.cell? ⟨C,2,none⟩=some v2/\w.drew.cell? ⟨C,3,none⟩=some v3/\w.drew.cell? ⟨C,4,none⟩=some v4/\w.drew.cell? ⟨C,5,none⟩=some v5/\w.drew.cell? ⟨C,6,none⟩=some v6/\w.drew.cell? ⟨C,7,none⟩=some v7/\w.drew.cell? ⟨C,8,none⟩=some v8/\RDoc w.drew r enc mark body/\Below W.heap.size W w.drew:=looked_kept h ((Below.refl _ _).drew)
theorem looked_any (api:Api T D) (q p r:Nat) (enc:Int) (mark:Bool) (body:ByteArray) (w:World) (ht:T w) (hp:w.cell? ⟨q,0,none⟩=some (.pointer (some ⟨p,0,none⟩))) (hr:w.cell? ⟨q,1,none⟩=some (.pointer (some ⟨r,0,none⟩)))
  (hd:D w p enc mark body) (hw:RDoc w r enc mark body) (hs:body.size<=1099511627000) (h0:0<=enc) (h3:enc<=3) :
  Calls Tryz.prog 15 #[.pointer (some ⟨q,0,none⟩)] w fun e w'=>e=.returned (.bool true)/\Below w.heap.size w w':=by
 have a1:=fun w=>api.save p enc mark body w
 have a2:=fun w=>api.text p enc mark body w
 have a3:=fun w=>api.state p enc mark body w
 have a4:=fun w=>api.stable p enc mark body w
 have b1:=fun w h=>rsave_any r enc mark body w h (by omega) h0 h3
 have b2:=fun w h=>rtext_any r enc mark body w h (by omega) h0 h3
 have b3:=fun w h=>rstate_any r enc mark body w h (by omega) h0 h3
 have b4:=fun w h=>rstable_any r enc mark body w h hs h0 h3
 obtain⟨n2,n3,n4,n5,n6,t7,n8,hsh⟩:=shown_parts enc mark body
 rw[hsh] at a3 b3
 clear hsh
 generalize bytesOf enc mark body=X1 at *
 generalize strOfNums (Vm.textL (Vm.atoms enc body.data.toList))=X2 at *
 generalize stableB enc mark body=X4 at *
 have A1:=Z2 a1
 have A2:=Z2 a2
 have A3:=Z2 a3
 have A4:=Z2 a4
 have B1:=Z2 b1
 have B2:=Z2 b2
 have B3:=Z2 b3
 have B4:=Z2 b4
 clear a1 a2 a3 a4 b1 b2 b3 b4
 go_enter Tryz.func15,Tryz.ntmps15
 go_wp2_with fail
 refine (A1.out w ht hd).mono ?_
 rintro e w1 ⟨rfl,hb1⟩
 have ht1:=api.tab ht hb1
 have hd1:=api.low hd hb1
 have hp1:=(hb1.cell (p:=⟨q,0,none⟩) (Z3 hp)).trans hp
 have hr1:=(hb1.cell (p:=⟨q,1,none⟩) (Z3 hp)).trans hr
 have hw1:=hw.below hb1
 go_wp2_with fail
 refine (A2.out w1 ht1 hd1).mono ?_
 rintro e w2 ⟨rfl,hb2⟩
 have ht2:=api.tab ht1 hb2
 have hd2:=api.low hd1 hb2
 have hp2:=(hb2.cell (p:=⟨q,0,none⟩) (Z3 hp1)).trans hp1
 have hr2:=(hb2.cell (p:=⟨q,1,none⟩) (Z3 hp1)).trans hr1
 have hw2:=hw1.below hb2
 go_wp2_with fail
 refine (A3.out w2 ht2 hd2).mono ?_
 rintro e w3 ⟨rfl,hb3⟩
 have hba:=(Below.refl w3.heap.size w3).alloc (Nat.le_refl _) (.cells #[.int .i64 enc,.bool mark,.int .i64 n2,.int .i64 n3,.int .i64 n4,.int .i64 n5,.int .i64 n6,.bool t7,.int .i64 n8] 66)
 have hb3':=hb3.trans (hba.mono hb3.size)
 have ht3:=api.tab ht2 hb3'
 have hd3:=api.low hd2 hb3'
 have hp3:=(hb3'.cell (p:=⟨q,0,none⟩) (Z3 hp2)).trans hp2
 have hr3:=(hb3'.cell (p:=⟨q,1,none⟩) (Z3 hp2)).trans hr2
 have hw3:=hw2.below hb3'
 have bx:=Bx9.new w3 66 (.int .i64 enc) (.bool mark) (.int .i64 n2) (.int .i64 n3) (.int .i64 n4) (.int .i64 n5) (.int .i64 n6) (.bool t7) (.int .i64 n8)
 have hqz:=Z3 hp2
 have hqz3:q<w3.heap.size:=Nat.lt_of_lt_of_le hqz hb3.size
 have hp3':=(hb3.cell (p:=⟨q,0,none⟩) (Z3 hp2)).trans hp2
 have hr3':=(hb3.cell (p:=⟨q,1,none⟩) (Z3 hp2)).trans hr2
 have BX:=Z2 bx
 clear bx
 go_wp2_with fail
 refine (A4.out _ ht3 hd3).mono ?_
 rintro e w4 ⟨rfl,hb4⟩
 have hp4:=(hb4.cell (p:=⟨q,0,none⟩) (Z3 hp3)).trans hp3
 have hr4:=(hb4.cell (p:=⟨q,1,none⟩) (Z3 hp3)).trans hr3
 have hw4:=hw3.below hb4
 have bx4:=BX.out.below hb4
 have hb04:Below w.heap.size w w4:=((hb1.trans (hb2.mono hb1.size)).trans (hb3'.mono (Nat.le_trans hb1.size hb2.size))).trans (hb4.mono (Nat.le_trans hb1.size (Nat.le_trans hb2.size hb3'.size)))
 clear hp hr hp1 hr1 hp2 hr2 hp3 hr3 hp3' hr3' ht hd hw ht1 hd1 hw1 ht2 hd2 hw2 ht3 hd3 hw3 hba hb3' hb1 hb2 hb3 hqz hqz3 A1 A2 A3 A4 BX hb4
 obtain⟨c0,c1,c2,c3,c4,c5,c6,c7,c8,_⟩:=bx4
 generalize w3.heap.size=C at *
 have hS0:w4.cell? ⟨q,1,none⟩=some (.pointer (some ⟨r,0,none⟩))/\w4.cell? ⟨C,0,none⟩=some (.int .i64 enc)/\w4.cell? ⟨C,1,none⟩=some (.bool mark)/\w4.cell? ⟨C,2,none⟩=some (.int .i64 n2)/\w4.cell? ⟨C,3,none⟩=some (.int .i64 n3)/\w4.cell? ⟨C,4,none⟩=some (.int .i64 n4)/\w4.cell? ⟨C,5,none⟩=some (.int .i64 n5)/\w4.cell? ⟨C,6,none⟩=some (.int .i64 n6)/\w4.cell? ⟨C,7,none⟩=some (.bool t7)/\w4.cell? ⟨C,8,none⟩=some (.int .i64 n8)/\RDoc w4 r enc mark body/\Below w4.heap.size w4 w4:=⟨hr4,c0,c1,c2,c3,c4,c5,c6,c7,c8,hw4,Below.refl w4.heap.size w4⟩
 have hS:=Z2 hS0
 clear hS0
 have hw4d:RDoc w4.drew r enc mark body:=hw4.below ((Below.refl _ _).drew)
 have hSd:=looked_drew hS.out
 go_wp2_with fail
 go_region_held3 (fun w'=>w'.cell? ⟨q,1,none⟩=some (.pointer (some ⟨r,0,none⟩))/\w'.cell? ⟨C,0,none⟩=some (.int .i64 enc)/\w'.cell? ⟨C,1,none⟩=some (.bool mark)/\w'.cell? ⟨C,2,none⟩=some (.int .i64 n2)/\w'.cell? ⟨C,3,none⟩=some (.int .i64 n3)/\w'.cell? ⟨C,4,none⟩=some (.int .i64 n4)/\w'.cell? ⟨C,5,none⟩=some (.int .i64 n5)/\w'.cell? ⟨C,6,none⟩=some (.int .i64 n6)/\w'.cell? ⟨C,7,none⟩=some (.bool t7)/\w'.cell? ⟨C,8,none⟩=some (.int .i64 n8)/\RDoc w' r enc mark body/\Below w4.heap.size w4 w')
  (first|assumption|exact hS.out|exact looked_drew hS.out)
  (first
   |(go_at_call 44;refine (B1.out _ (by assumption)).mono ?_;rintro e w5 ⟨rfl,hb5⟩;have hw5:=RDoc.below (B:=r) (enc:=enc) (mark:=mark) (body:=body) (by assumption) hb5;have hS5:=looked_kept (by assumption) hb5)
   |(go_at_call 45;refine (B2.out _ (by assumption)).mono ?_;rintro e w6 ⟨rfl,hb6⟩;have hw6:=RDoc.below (B:=r) (enc:=enc) (mark:=mark) (body:=body) (by assumption) hb6;have hS6:=looked_kept (by assumption) hb6)
   |(go_at_call 46;refine (B3.out _ (by assumption)).mono ?_;rintro e w7 ⟨rfl,hb7⟩;have hw7:=RDoc.below (B:=r) (enc:=enc) (mark:=mark) (body:=body) (by assumption) hb7;have hS7:=looked_kept (by assumption) hb7)
   |(go_at_call 47;refine (B4.out _ (by assumption)).mono ?_;rintro e w8 ⟨rfl,hb8⟩;have hw8:=RDoc.below (B:=r) (enc:=enc) (mark:=mark) (body:=body) (by assumption) hb8;have hS8:=looked_kept (by assumption) hb8))
 have hb48:Below w4.heap.size w4 w8:=hS8.2.2.2.2.2.2.2.2.2.2.2
 clear hS5 hS6 hS7 hS8
 go_wp2
 go_ret
 exact⟨rfl,hb04.trans (hb48.mono hb04.size)⟩
end Go.Proofs.YtoejbngihecafaaGreatDoor
namespace Go.Proofs.YtoejbngihecafaaGreatDoor
open Go.RowKit
variable {T:World->Prop} {D:World->Nat->Int->Bool->ByteArray->Prop}
theorem loaded_no (api:Api T D) (b:ByteArray) (mode:Int) (w:World) (ht:T w) (h:mode<0\/7<mode) :
  Calls Tryz.prog 19 #[.string b,.int .i64 mode] w fun e w'=>∃q,e=.returned (.tuple #[.pointer (some ⟨q,0,none⟩),.bool true])/\w'.cell? ⟨q,0,none⟩=some (.pointer none)/\Below w.heap.size w w':=by
 have L:=Z2 (fun w k=>api.load_no b mode w k h)
 have R:=Z2 (fun w=>rload_no b mode w h)
 go_enter Tryz.func19,Tryz.ntmps19
 go_wp2_with fail
 refine (L.out w ht).mono ?_
 rintro e w1 ⟨rfl,hb1⟩
 go_wp2_with fail
 refine (R.out w1).mono ?_
 rintro e w2 ⟨rfl,rfl⟩
 go_wp2_with fail
 have hba:=(Below.refl w2.heap.size w2).alloc (Nat.le_refl _) (.cells #[.pointer none,.pointer none] 46)
 go_ret2
 exact⟨w2.heap.size,rfl,by simp,hb1.trans (hba.mono hb1.size)⟩
end Go.Proofs.YtoejbngihecafaaGreatDoor
