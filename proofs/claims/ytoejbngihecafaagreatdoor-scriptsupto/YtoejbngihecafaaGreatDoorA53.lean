import Derived.StillTailTactics
import Derived.Lib.LaidU8T
import Derived.PinnedBridge
import Derived.Deep.Slices
import Derived.Carry
import Derived.Test.YtoejbngihecafaaGreatDoorA52
import Derived.Test.YtoejbngihecafaaGreatDoorA25
import Derived.Test.YtoejbngihecafaaGreatDoorA50
import Derived.Test.YtoejbngihecafaaGreatDoorA51
import Derived.Test.YtoejbngihecafaaGreatDoorA39
import Derived.Test.YtoejbngihecafaaGreatDoorA9
set_option maxRecDepth 100000
set_option maxHeartbeats 1000000
namespace Go.Proofs.YtoejbngihecafaaGreatDoor
open Go.RowKit
def PX (B:Nat) (w:World) (x:Nat) (s:St) (K:Nat->Prop):Prop :=
 ∃p r F G,w.heap[x]?=some (.cells #[.pointer (some ⟨p,0,none⟩),.pointer (some ⟨r,0,none⟩)] 46)/\B<=x/\EH B w p s F/\RH B w r s G/\∀i,K i↔(i=x\/F i\/G i)
section
variable {B:Nat} {w w' w1 w2:World} {x p r:Nat} {s s':St} {F F' G G' K:Nat->Prop}
theorem eh_rh (he:EH B w p s F) (hr:RH B w r s' G) {i:Nat} (h1:F i) (h2:G i):False:=by
 have a:=(he.ty h1).2.2
 have b:=(hr.ty h2).2.2
 rcases a with a|a<;>rcases b with b|b<;>(rw[a] at b;exact absurd (Option.some.inj b) (by decide))
theorem eh_px {o:Array Value} (he:EH B w p s F) (hx:w.heap[x]?=some (.cells o 46)):¬F x:=by
 intro h
 have b:tyAt w x=some 46:=by unfold tyAt;rw[hx]
 rcases (he.ty h).2.2 with a|a<;>(rw[a] at b;exact absurd (Option.some.inj b) (by decide))
theorem rh_px {o:Array Value} (hr:RH B w r s G) (hx:w.heap[x]?=some (.cells o 46)):¬G x:=by
 intro h
 have b:tyAt w x=some 46:=by unfold tyAt;rw[hx]
 rcases (hr.ty h).2.2 with a|a<;>(rw[a] at b;exact absurd (Option.some.inj b) (by decide))
theorem PX.low (h:PX B w x s K) (hb:Below w.heap.size w w'):PX B w' x s K:=by
 obtain⟨p,r,F,G,h1,h2,h3,h4,h5⟩:=h
 exact⟨p,r,F,G,(hb.block x (Z4 h1)).trans h1,h2,h3.low hb,h4.low hb,h5⟩
theorem PX.ty (h:PX B w x s K) {i:Nat} (hi:K i):B<=i/\i<w.heap.size/\NoNd w i:=by
 obtain⟨p,r,F,G,h1,h2,h3,h4,h5⟩:=h
 rcases (h5 i).1 hi with rfl|q|q
 ·refine⟨h2,Z4 h1,?_⟩
  have b:tyAt w i=some 46:=by unfold tyAt;rw[h1]
  unfold NoNd
  rw[b]
  exact⟨fun e=>absurd (Option.some.inj e) (by decide),fun e=>absurd (Option.some.inj e) (by decide)⟩
 ·exact⟨(h3.ty q).1,(h3.ty q).2.1,h3.nd q⟩
 ·exact⟨(h4.ty q).1,(h4.ty q).2.1,h4.nd q⟩
theorem px_one {o:Array Value} (hx:w.heap[x]?=some (.cells o 46)) (he:EH B w p s F) (hr:RH B w r s' G) (t1:Turn F F' w w1):w1.heap[x]?=some (.cells o 46)/\RH B w1 r s' G :=
 ⟨(t1.keep x (Z4 hx) (eh_px he hx)).trans hx,hr.turn t1 (fun _ h1 h2=>eh_rh he hr h1 h2)⟩
theorem px_two (hK:∀i,K i↔(i=x\/F i\/G i)) (hx:w1.heap[x]?=some (.cells #[.pointer (some ⟨p,0,none⟩),.pointer (some ⟨r,0,none⟩)] 46)) (hB:B<=x) (he1:EH B w1 p s' F') (t1:Turn F F' w w1) (hr1:RH B w1 r s G) (hr2:RH B w2 r s' G') (t2:Turn G G' w1 w2):∃K',PX B w2 x s' K'/\Turn K K' w w2:=by
 refine⟨fun i=>i=x\/F' i\/G' i,⟨p,r,F',G',(t2.keep x (Z4 hx) (rh_px hr1 hx)).trans hx,hB,he1.turn t2 (fun _ h1 h2=>eh_rh he1 hr1 h2 h1) (fun _ h=>hr1.nd h),hr2,fun i=>Iff.rfl⟩,?_⟩
 have hs1:=t1.size
 have hs2:=t2.size
 refine⟨t2.os.trans t1.os,t2.tape.trans t1.tape,t2.output.trans t1.output,by omega,fun i h1 h2=>?_,fun i hi=>?_⟩
 ·rw[t2.keep i (by omega) (fun e=>h2 ((hK i).2 (.inr (.inr e)))),t1.keep i h1 (fun e=>h2 ((hK i).2 (.inr (.inl e))))]
 ·rcases hi with rfl|q|q
  ·exact .inl ((hK _).2 (.inl rfl))
  ·rcases t1.new i q with e|e
   ·exact .inl ((hK _).2 (.inr (.inl e)))
   ·exact .inr e
  ·rcases t2.new i q with e|e
   ·exact .inl ((hK _).2 (.inr (.inr e)))
   ·exact .inr (by omega)
end
def St.op (s:St) (kind a b:Int) (S:ByteArray):Int × St :=
 if kind=1 then s.rpl a b S else if kind=2 then s.mrk (decide (0<a)) else if kind=3 then s.eds a else if kind=4 then s.cod a else if kind=5 then s.und else if kind=6 then s.red else (0,s)
theorem St.Good.op {M:Nat} {s:St} {kind a b:Int} {S:ByteArray} (h:s.Good M):(s.op kind a b S).2.Good (M+8 * S.size):=by
 unfold St.op
 repeat' split
 ·exact h.rpl
 ·exact h.mrk.mono (by omega)
 ·exact h.eds.mono (by omega)
 ·exact h.cod.mono (by omega)
 ·exact h.und.mono (by omega)
 ·exact h.red.mono (by omega)
 ·exact h.mono (by omega)
theorem apiX:ApiL Tabs DD:={ api with position:=docPosition,offset:=docOffset }
theorem PX.looked {B:Nat} {w:World} {x:Nat} {s:St} {K:Nat->Prop} {M:Nat} (h:PX B w x s K) (ht:Tabs w) (hg:s.Good M) (hM:M<=1000000000) :
  Calls Tryz.prog 15 #[.pointer (some ⟨x,0,none⟩)] w fun e w'=>e=.returned (.bool true)/\Below w.heap.size w w':=by
 obtain⟨p,r,F,G,h1,h2,h3,h4,h5⟩:=h
 have hb:=good_body hg
 exact looked_any api x p r _ _ _ w ht (by rw[Lib.cell_of_heap h1];rfl) (by rw[Lib.cell_of_heap h1];rfl) (h3.dd (by omega)) h4.doc (by omega) hg.now.1.h0 hg.now.1.h3
theorem PX.placed {B:Nat} {w:World} {x:Nat} {s:St} {K:Nat->Prop} {M:Nat} (h:PX B w x s K) (ht:Tabs w) (hg:s.Good M) (hM:M<=1000000000) (o line col:Int) :
  Calls Tryz.prog 83 #[.pointer (some ⟨x,0,none⟩),.int .i64 o,.int .i64 line,.int .i64 col] w fun e w'=>e=.returned (.bool true)/\Below w.heap.size w w':=by
 obtain⟨p,r,F,G,h1,h2,h3,h4,h5⟩:=h
 have hb:=good_body hg
 exact placed_any apiX x p r _ _ _ o line col w ht (by rw[Lib.cell_of_heap h1];rfl) (by rw[Lib.cell_of_heap h1];rfl) (h3.dd (by omega)) h4.doc (by omega) hg.now.1.h0 hg.now.1.h3
end Go.Proofs.YtoejbngihecafaaGreatDoor
namespace Go.Proofs.YtoejbngihecafaaGreatDoor
open Go.RowKit
theorem edit_rpl (B x:Nat) (s:St) (K:Nat->Prop) (M:Nat) (a b c:Int) (S:ByteArray) (w:World) (ht:TabA w) (h:PX B w x s K) (hg:s.Good M) (hM:M+S.size<=1000000000) :
  Calls Tryz.prog 84 #[.pointer (some ⟨x,0,none⟩),.agg #[.int .i64 1,.int .i64 a,.int .i64 b,.int .i64 c,.string S]] w fun e w'=>e=.returned (.bool true)/\∃K',PX B w' x (s.op 1 a b S).2 K'/\Turn K K' w w':=by
 have hop:s.op 1 a b S=(s.rpl a b S):=by unfold St.op;rw[if_pos rfl]
 rw[hop]
 obtain⟨p,r,F,G,h1,h2,h3,h4,h5⟩:=h
 have hw1:Below w.heap.size w (w.alloc (.cells #[.int .i64 1,.int .i64 a,.int .i64 b,.int .i64 c,.string S] 55)).drew:=((Below.refl _ _).alloc (Nat.le_refl _) _).drew
 have hmo:Tryz.prog.follows Departure.mixedOrders=true:=by kernel_rfl
 have P:=Z1 (eRpl B p s F M _ a b S (ht.below hw1) (h3.low hw1) hg hM)
 have R:=Z1 (fun W (h:RH B W r s G)=>rRpl B r s G M W a b S h hg hM)
 obtain⟨V,hV⟩:∃V,V=(s.rpl a b S):=⟨_,rfl⟩
 rw[<-hV] at P R ⊢
 clear hV hop
 obtain⟨v1,s1⟩:=V
 simp only at P R
 have HX:=Z1 (show w.heap[x]?=_ from h1)
 have HE:=Z1 h3
 have HR:=Z1 h4
 have HW:=Z1 hw1
 have c0:w.cell? ⟨x,0,none⟩=some (.pointer (some ⟨p,0,none⟩)):=by rw[Lib.cell_of_heap h1];rfl
 have hz:=Z3 c0
 clear h1 h3 h4 hw1 ht
 go_enter Tryz.func84,Tryz.ntmps84
 go_wp2_with fail
 have hC0:=Go.Deep.blk_alloc_new w (.cells #[.int .i64 1,.int .i64 a,.int .i64 b,.int .i64 c,.string S] 55)
 have hx0:(w.alloc (.cells #[.int .i64 1,.int .i64 a,.int .i64 b,.int .i64 c,.string S] 55)).heap[x]?=w.heap[x]?:=Below.heap_alloc _ _ _ hz
 have c0':(w.alloc (.cells #[.int .i64 1,.int .i64 a,.int .i64 b,.int .i64 c,.string S] 55)).cell? ⟨x,0,none⟩=some (.pointer (some ⟨p,0,none⟩)):=by rw[Lib.cell_of_heap (hx0.trans HX.out)];rfl
 have o1:(w.alloc (.cells #[.int .i64 1,.int .i64 a,.int .i64 b,.int .i64 c,.string S] 55)).cell? ⟨w.heap.size,1,none⟩=some (.int .i64 a):=by rw[Lib.cell_of_heap hC0];rfl
 have o2:(w.alloc (.cells #[.int .i64 1,.int .i64 a,.int .i64 b,.int .i64 c,.string S] 55)).cell? ⟨w.heap.size,2,none⟩=some (.int .i64 b):=by rw[Lib.cell_of_heap hC0];rfl
 have o4:(w.alloc (.cells #[.int .i64 1,.int .i64 a,.int .i64 b,.int .i64 c,.string S] 55)).cell? ⟨w.heap.size,4,none⟩=some (.string S):=by rw[Lib.cell_of_heap hC0];rfl
 have hsz:(w.alloc (.cells #[.int .i64 1,.int .i64 a,.int .i64 b,.int .i64 c,.string S] 55)).heap.size=w.heap.size+1:=World.size_alloc _ _
 have HC0:=Z1 hC0
 have HSZ:=Z1 hsz
 clear c0 hx0 hC0 hsz
 generalize w.alloc (.cells #[.int .i64 1,.int .i64 a,.int .i64 b,.int .i64 c,.string S] 55)=W0 at *
 refine wp_region_still_tail 10 hmo (by kernel_rfl) ?_
 simp only[List.take_succ_cons,List.take_zero,List.drop_succ_cons,List.drop_zero]
 repeat still_step
 refine wpStill_nil ?_
 go_wp2_with fail
 refine P.out.mono ?_
 rintro e w1 ⟨rfl,F1,he1,t1⟩
 have hx':=(HW.out.block x (Z4 HX.out)).trans HX.out
 obtain⟨hx1,hr1⟩:=px_one hx' (HE.out.low HW.out) (HR.out.low HW.out) t1
 have hC1:w1.heap[w.heap.size]?=some (.cells #[.int .i64 1,.int .i64 a,.int .i64 b,.int .i64 c,.string S] 55):=(t1.keep w.heap.size (by rw[World.size_drew,HSZ.out];omega) (fun q=>by have:=(HE.out.ty q).2.1;omega)).trans (HC0.out)
 have hd1:=(Below.refl w1.heap.size w1).drew
 have R1:=Z1 (R.out w1.drew (hr1.low hd1))
 have HX1:=Z1 hx1
 have HR1:=Z1 hr1
 have HE1:=Z1 he1
 have HT1:=Z1 t1
 have HD1:=Z1 (Turn.of_below (F:=G) hd1)
 clear hd1
 have HT0:=Z1 (Turn.of_below (F:=F) HW.out)
 have c1:w1.cell? ⟨x,1,none⟩=some (.pointer (some ⟨r,0,none⟩)):=by rw[Lib.cell_of_heap hx1];rfl
 have k0:w1.cell? ⟨w.heap.size,0,none⟩=some (.int .i64 1):=by rw[Lib.cell_of_heap hC1];rfl
 have k1:w1.cell? ⟨w.heap.size,1,none⟩=some (.int .i64 a):=by rw[Lib.cell_of_heap hC1];rfl
 have k2:w1.cell? ⟨w.heap.size,2,none⟩=some (.int .i64 b):=by rw[Lib.cell_of_heap hC1];rfl
 have k4:w1.cell? ⟨w.heap.size,4,none⟩=some (.string S):=by rw[Lib.cell_of_heap hC1];rfl
 have hz1:=Z3 c1
 have hz2:=Z3 k0
 clear P R HX HE HR HW hx' hx1 hr1 he1 t1 hC1 c0' o1 o2 o4 hz
 go_wp2_with fail
 refine wp_region_still_tail 10 hmo (by kernel_rfl) ?_
 simp only[List.take_succ_cons,List.take_zero,List.drop_succ_cons,List.drop_zero]
 repeat still_step
 refine wpStill_nil ?_
 go_wp2_with fail
 refine R1.out.mono ?_
 rintro e w2 ⟨rfl,G1,hr2,t2⟩
 have HF:=Z1 (px_two h5 HX1.out h2 HE1.out (HT0.out.trans HT1.out) HR1.out hr2 (HD1.out.trans t2))
 clear R1 HX1 HR1 HE1 HT1 HT0 c1 k0 k1 k2 k4 hz1 hz2 hr2 t2
 clear HD1 hmo
 go_wp2_with fail
 go_ret
 exact⟨rfl,HF.out⟩
theorem edit_mrk (B x:Nat) (s:St) (K:Nat->Prop) (M:Nat) (a b c:Int) (S:ByteArray) (w:World) (ht:TabA w) (h:PX B w x s K) (hg:s.Good M) (hM:M+S.size<=1000000000) :
  Calls Tryz.prog 84 #[.pointer (some ⟨x,0,none⟩),.agg #[.int .i64 2,.int .i64 a,.int .i64 b,.int .i64 c,.string S]] w fun e w'=>e=.returned (.bool true)/\∃K',PX B w' x (s.op 2 a b S).2 K'/\Turn K K' w w':=by
 have hop:s.op 2 a b S=(s.mrk (decide (0<a))):=by unfold St.op;rw[if_neg (by decide),if_pos rfl]
 rw[hop]
 obtain⟨p,r,F,G,h1,h2,h3,h4,h5⟩:=h
 have hw1:Below w.heap.size w (w.alloc (.cells #[.int .i64 2,.int .i64 a,.int .i64 b,.int .i64 c,.string S] 55)).drew:=((Below.refl _ _).alloc (Nat.le_refl _) _).drew
 have hmo:Tryz.prog.follows Departure.mixedOrders=true:=by kernel_rfl
 have P:=Z1 (eMrk B p s F M _ (decide (0<a)) (ht.below hw1) (h3.low hw1) hg (by omega))
 have R:=Z1 (fun W (h:RH B W r s G)=>rMrk B r s G M W (decide (0<a)) h hg (by omega))
 obtain⟨V,hV⟩:∃V,V=(s.mrk (decide (0<a))):=⟨_,rfl⟩
 rw[<-hV] at P R ⊢
 clear hV hop
 obtain⟨v1,s1⟩:=V
 simp only at P R
 have HX:=Z1 (show w.heap[x]?=_ from h1)
 have HE:=Z1 h3
 have HR:=Z1 h4
 have HW:=Z1 hw1
 have c0:w.cell? ⟨x,0,none⟩=some (.pointer (some ⟨p,0,none⟩)):=by rw[Lib.cell_of_heap h1];rfl
 have hz:=Z3 c0
 clear h1 h3 h4 hw1 ht
 go_enter Tryz.func84,Tryz.ntmps84
 go_wp2_with fail
 have hC0:=Go.Deep.blk_alloc_new w (.cells #[.int .i64 2,.int .i64 a,.int .i64 b,.int .i64 c,.string S] 55)
 have hx0:(w.alloc (.cells #[.int .i64 2,.int .i64 a,.int .i64 b,.int .i64 c,.string S] 55)).heap[x]?=w.heap[x]?:=Below.heap_alloc _ _ _ hz
 have c0':(w.alloc (.cells #[.int .i64 2,.int .i64 a,.int .i64 b,.int .i64 c,.string S] 55)).cell? ⟨x,0,none⟩=some (.pointer (some ⟨p,0,none⟩)):=by rw[Lib.cell_of_heap (hx0.trans HX.out)];rfl
 have o1:(w.alloc (.cells #[.int .i64 2,.int .i64 a,.int .i64 b,.int .i64 c,.string S] 55)).cell? ⟨w.heap.size,1,none⟩=some (.int .i64 a):=by rw[Lib.cell_of_heap hC0];rfl
 have o2:(w.alloc (.cells #[.int .i64 2,.int .i64 a,.int .i64 b,.int .i64 c,.string S] 55)).cell? ⟨w.heap.size,2,none⟩=some (.int .i64 b):=by rw[Lib.cell_of_heap hC0];rfl
 have o4:(w.alloc (.cells #[.int .i64 2,.int .i64 a,.int .i64 b,.int .i64 c,.string S] 55)).cell? ⟨w.heap.size,4,none⟩=some (.string S):=by rw[Lib.cell_of_heap hC0];rfl
 have hsz:(w.alloc (.cells #[.int .i64 2,.int .i64 a,.int .i64 b,.int .i64 c,.string S] 55)).heap.size=w.heap.size+1:=World.size_alloc _ _
 have HC0:=Z1 hC0
 have HSZ:=Z1 hsz
 clear c0 hx0 hC0 hsz
 generalize w.alloc (.cells #[.int .i64 2,.int .i64 a,.int .i64 b,.int .i64 c,.string S] 55)=W0 at *
 refine wp_region_still_tail 7 hmo (by kernel_rfl) ?_
 simp only[List.take_succ_cons,List.take_zero,List.drop_succ_cons,List.drop_zero]
 repeat still_step
 refine wpStill_nil ?_
 go_wp2_with fail
 refine P.out.mono ?_
 rintro e w1 ⟨rfl,F1,he1,t1⟩
 have hx':=(HW.out.block x (Z4 HX.out)).trans HX.out
 obtain⟨hx1,hr1⟩:=px_one hx' (HE.out.low HW.out) (HR.out.low HW.out) t1
 have hC1:w1.heap[w.heap.size]?=some (.cells #[.int .i64 2,.int .i64 a,.int .i64 b,.int .i64 c,.string S] 55):=(t1.keep w.heap.size (by rw[World.size_drew,HSZ.out];omega) (fun q=>by have:=(HE.out.ty q).2.1;omega)).trans (HC0.out)
 have hd1:=(Below.refl w1.heap.size w1).drew
 have R1:=Z1 (R.out w1.drew (hr1.low hd1))
 have HX1:=Z1 hx1
 have HR1:=Z1 hr1
 have HE1:=Z1 he1
 have HT1:=Z1 t1
 have HD1:=Z1 (Turn.of_below (F:=G) hd1)
 clear hd1
 have HT0:=Z1 (Turn.of_below (F:=F) HW.out)
 have c1:w1.cell? ⟨x,1,none⟩=some (.pointer (some ⟨r,0,none⟩)):=by rw[Lib.cell_of_heap hx1];rfl
 have k0:w1.cell? ⟨w.heap.size,0,none⟩=some (.int .i64 2):=by rw[Lib.cell_of_heap hC1];rfl
 have k1:w1.cell? ⟨w.heap.size,1,none⟩=some (.int .i64 a):=by rw[Lib.cell_of_heap hC1];rfl
 have k2:w1.cell? ⟨w.heap.size,2,none⟩=some (.int .i64 b):=by rw[Lib.cell_of_heap hC1];rfl
 have k4:w1.cell? ⟨w.heap.size,4,none⟩=some (.string S):=by rw[Lib.cell_of_heap hC1];rfl
 have hz1:=Z3 c1
 have hz2:=Z3 k0
 clear P R HX HE HR HW hx' hx1 hr1 he1 t1 hC1 c0' o1 o2 o4 hz
 go_wp2_with fail
 refine wp_region_still_tail 7 hmo (by kernel_rfl) ?_
 simp only[List.take_succ_cons,List.take_zero,List.drop_succ_cons,List.drop_zero]
 repeat still_step
 refine wpStill_nil ?_
 go_wp2_with fail
 refine R1.out.mono ?_
 rintro e w2 ⟨rfl,G1,hr2,t2⟩
 have HF:=Z1 (px_two h5 HX1.out h2 HE1.out (HT0.out.trans HT1.out) HR1.out hr2 (HD1.out.trans t2))
 clear R1 HX1 HR1 HE1 HT1 HT0 c1 k0 k1 k2 k4 hz1 hz2 hr2 t2
 clear HD1 hmo
 go_wp2_with fail
 go_ret
 exact⟨rfl,HF.out⟩
theorem edit_eds (B x:Nat) (s:St) (K:Nat->Prop) (M:Nat) (a b c:Int) (S:ByteArray) (w:World) (ht:TabA w) (h:PX B w x s K) (hg:s.Good M) (hM:M+S.size<=1000000000) :
  Calls Tryz.prog 84 #[.pointer (some ⟨x,0,none⟩),.agg #[.int .i64 3,.int .i64 a,.int .i64 b,.int .i64 c,.string S]] w fun e w'=>e=.returned (.bool true)/\∃K',PX B w' x (s.op 3 a b S).2 K'/\Turn K K' w w':=by
 have hop:s.op 3 a b S=(s.eds a):=by unfold St.op;rw[if_neg (by decide),if_neg (by decide),if_pos rfl]
 rw[hop]
 obtain⟨p,r,F,G,h1,h2,h3,h4,h5⟩:=h
 have hw1:Below w.heap.size w (w.alloc (.cells #[.int .i64 3,.int .i64 a,.int .i64 b,.int .i64 c,.string S] 55)).drew:=((Below.refl _ _).alloc (Nat.le_refl _) _).drew
 have hmo:Tryz.prog.follows Departure.mixedOrders=true:=by kernel_rfl
 have P:=Z1 (eEds B p s F M _ a (ht.below hw1) (h3.low hw1) hg (by omega))
 have R:=Z1 (fun W (h:RH B W r s G)=>rEds B r s G M W a h hg (by omega))
 obtain⟨V,hV⟩:∃V,V=(s.eds a):=⟨_,rfl⟩
 rw[<-hV] at P R ⊢
 clear hV hop
 obtain⟨v1,s1⟩:=V
 simp only at P R
 have HX:=Z1 (show w.heap[x]?=_ from h1)
 have HE:=Z1 h3
 have HR:=Z1 h4
 have HW:=Z1 hw1
 have c0:w.cell? ⟨x,0,none⟩=some (.pointer (some ⟨p,0,none⟩)):=by rw[Lib.cell_of_heap h1];rfl
 have hz:=Z3 c0
 clear h1 h3 h4 hw1 ht
 go_enter Tryz.func84,Tryz.ntmps84
 go_wp2_with fail
 have hC0:=Go.Deep.blk_alloc_new w (.cells #[.int .i64 3,.int .i64 a,.int .i64 b,.int .i64 c,.string S] 55)
 have hx0:(w.alloc (.cells #[.int .i64 3,.int .i64 a,.int .i64 b,.int .i64 c,.string S] 55)).heap[x]?=w.heap[x]?:=Below.heap_alloc _ _ _ hz
 have c0':(w.alloc (.cells #[.int .i64 3,.int .i64 a,.int .i64 b,.int .i64 c,.string S] 55)).cell? ⟨x,0,none⟩=some (.pointer (some ⟨p,0,none⟩)):=by rw[Lib.cell_of_heap (hx0.trans HX.out)];rfl
 have o1:(w.alloc (.cells #[.int .i64 3,.int .i64 a,.int .i64 b,.int .i64 c,.string S] 55)).cell? ⟨w.heap.size,1,none⟩=some (.int .i64 a):=by rw[Lib.cell_of_heap hC0];rfl
 have o2:(w.alloc (.cells #[.int .i64 3,.int .i64 a,.int .i64 b,.int .i64 c,.string S] 55)).cell? ⟨w.heap.size,2,none⟩=some (.int .i64 b):=by rw[Lib.cell_of_heap hC0];rfl
 have o4:(w.alloc (.cells #[.int .i64 3,.int .i64 a,.int .i64 b,.int .i64 c,.string S] 55)).cell? ⟨w.heap.size,4,none⟩=some (.string S):=by rw[Lib.cell_of_heap hC0];rfl
 have hsz:(w.alloc (.cells #[.int .i64 3,.int .i64 a,.int .i64 b,.int .i64 c,.string S] 55)).heap.size=w.heap.size+1:=World.size_alloc _ _
 have HC0:=Z1 hC0
 have HSZ:=Z1 hsz
 clear c0 hx0 hC0 hsz
 generalize w.alloc (.cells #[.int .i64 3,.int .i64 a,.int .i64 b,.int .i64 c,.string S] 55)=W0 at *
 refine wp_region_still_tail 6 hmo (by kernel_rfl) ?_
 simp only[List.take_succ_cons,List.take_zero,List.drop_succ_cons,List.drop_zero]
 repeat still_step
 refine wpStill_nil ?_
 go_wp2_with fail
 refine P.out.mono ?_
 rintro e w1 ⟨rfl,F1,he1,t1⟩
 have hx':=(HW.out.block x (Z4 HX.out)).trans HX.out
 obtain⟨hx1,hr1⟩:=px_one hx' (HE.out.low HW.out) (HR.out.low HW.out) t1
 have hC1:w1.heap[w.heap.size]?=some (.cells #[.int .i64 3,.int .i64 a,.int .i64 b,.int .i64 c,.string S] 55):=(t1.keep w.heap.size (by rw[World.size_drew,HSZ.out];omega) (fun q=>by have:=(HE.out.ty q).2.1;omega)).trans (HC0.out)
 have hd1:=(Below.refl w1.heap.size w1).drew
 have R1:=Z1 (R.out w1.drew (hr1.low hd1))
 have HX1:=Z1 hx1
 have HR1:=Z1 hr1
 have HE1:=Z1 he1
 have HT1:=Z1 t1
 have HD1:=Z1 (Turn.of_below (F:=G) hd1)
 clear hd1
 have HT0:=Z1 (Turn.of_below (F:=F) HW.out)
 have c1:w1.cell? ⟨x,1,none⟩=some (.pointer (some ⟨r,0,none⟩)):=by rw[Lib.cell_of_heap hx1];rfl
 have k0:w1.cell? ⟨w.heap.size,0,none⟩=some (.int .i64 3):=by rw[Lib.cell_of_heap hC1];rfl
 have k1:w1.cell? ⟨w.heap.size,1,none⟩=some (.int .i64 a):=by rw[Lib.cell_of_heap hC1];rfl
 have k2:w1.cell? ⟨w.heap.size,2,none⟩=some (.int .i64 b):=by rw[Lib.cell_of_heap hC1];rfl
 have k4:w1.cell? ⟨w.heap.size,4,none⟩=some (.string S):=by rw[Lib.cell_of_heap hC1];rfl
 have hz1:=Z3 c1
 have hz2:=Z3 k0
 clear P R HX HE HR HW hx' hx1 hr1 he1 t1 hC1 c0' o1 o2 o4 hz
 go_wp2_with fail
 refine wp_region_still_tail 6 hmo (by kernel_rfl) ?_
 simp only[List.take_succ_cons,List.take_zero,List.drop_succ_cons,List.drop_zero]
 repeat still_step
 refine wpStill_nil ?_
 go_wp2_with fail
 refine R1.out.mono ?_
 rintro e w2 ⟨rfl,G1,hr2,t2⟩
 have HF:=Z1 (px_two h5 HX1.out h2 HE1.out (HT0.out.trans HT1.out) HR1.out hr2 (HD1.out.trans t2))
 clear R1 HX1 HR1 HE1 HT1 HT0 c1 k0 k1 k2 k4 hz1 hz2 hr2 t2
 clear HD1 hmo
 go_wp2_with fail
 go_ret
 exact⟨rfl,HF.out⟩
theorem edit_cod (B x:Nat) (s:St) (K:Nat->Prop) (M:Nat) (a b c:Int) (S:ByteArray) (w:World) (ht:TabA w) (h:PX B w x s K) (hg:s.Good M) (hM:M+S.size<=1000000000) :
  Calls Tryz.prog 84 #[.pointer (some ⟨x,0,none⟩),.agg #[.int .i64 4,.int .i64 a,.int .i64 b,.int .i64 c,.string S]] w fun e w'=>e=.returned (.bool true)/\∃K',PX B w' x (s.op 4 a b S).2 K'/\Turn K K' w w':=by
 have hop:s.op 4 a b S=(s.cod a):=by unfold St.op;rw[if_neg (by decide),if_neg (by decide),if_neg (by decide),if_pos rfl]
 rw[hop]
 obtain⟨p,r,F,G,h1,h2,h3,h4,h5⟩:=h
 have hw1:Below w.heap.size w (w.alloc (.cells #[.int .i64 4,.int .i64 a,.int .i64 b,.int .i64 c,.string S] 55)).drew:=((Below.refl _ _).alloc (Nat.le_refl _) _).drew
 have hmo:Tryz.prog.follows Departure.mixedOrders=true:=by kernel_rfl
 have P:=Z1 (eCod B p s F M _ a (ht.below hw1) (h3.low hw1) hg (by omega))
 have R:=Z1 (fun W (h:RH B W r s G)=>rCod B r s G M W a h hg (by omega))
 obtain⟨V,hV⟩:∃V,V=(s.cod a):=⟨_,rfl⟩
 rw[<-hV] at P R ⊢
 clear hV hop
 obtain⟨v1,s1⟩:=V
 simp only at P R
 have HX:=Z1 (show w.heap[x]?=_ from h1)
 have HE:=Z1 h3
 have HR:=Z1 h4
 have HW:=Z1 hw1
 have c0:w.cell? ⟨x,0,none⟩=some (.pointer (some ⟨p,0,none⟩)):=by rw[Lib.cell_of_heap h1];rfl
 have hz:=Z3 c0
 clear h1 h3 h4 hw1 ht
 go_enter Tryz.func84,Tryz.ntmps84
 go_wp2_with fail
 have hC0:=Go.Deep.blk_alloc_new w (.cells #[.int .i64 4,.int .i64 a,.int .i64 b,.int .i64 c,.string S] 55)
 have hx0:(w.alloc (.cells #[.int .i64 4,.int .i64 a,.int .i64 b,.int .i64 c,.string S] 55)).heap[x]?=w.heap[x]?:=Below.heap_alloc _ _ _ hz
 have c0':(w.alloc (.cells #[.int .i64 4,.int .i64 a,.int .i64 b,.int .i64 c,.string S] 55)).cell? ⟨x,0,none⟩=some (.pointer (some ⟨p,0,none⟩)):=by rw[Lib.cell_of_heap (hx0.trans HX.out)];rfl
 have o1:(w.alloc (.cells #[.int .i64 4,.int .i64 a,.int .i64 b,.int .i64 c,.string S] 55)).cell? ⟨w.heap.size,1,none⟩=some (.int .i64 a):=by rw[Lib.cell_of_heap hC0];rfl
 have o2:(w.alloc (.cells #[.int .i64 4,.int .i64 a,.int .i64 b,.int .i64 c,.string S] 55)).cell? ⟨w.heap.size,2,none⟩=some (.int .i64 b):=by rw[Lib.cell_of_heap hC0];rfl
 have o4:(w.alloc (.cells #[.int .i64 4,.int .i64 a,.int .i64 b,.int .i64 c,.string S] 55)).cell? ⟨w.heap.size,4,none⟩=some (.string S):=by rw[Lib.cell_of_heap hC0];rfl
 have hsz:(w.alloc (.cells #[.int .i64 4,.int .i64 a,.int .i64 b,.int .i64 c,.string S] 55)).heap.size=w.heap.size+1:=World.size_alloc _ _
 have HC0:=Z1 hC0
 have HSZ:=Z1 hsz
 clear c0 hx0 hC0 hsz
 generalize w.alloc (.cells #[.int .i64 4,.int .i64 a,.int .i64 b,.int .i64 c,.string S] 55)=W0 at *
 refine wp_region_still_tail 6 hmo (by kernel_rfl) ?_
 simp only[List.take_succ_cons,List.take_zero,List.drop_succ_cons,List.drop_zero]
 repeat still_step
 refine wpStill_nil ?_
 go_wp2_with fail
 refine P.out.mono ?_
 rintro e w1 ⟨rfl,F1,he1,t1⟩
 have hx':=(HW.out.block x (Z4 HX.out)).trans HX.out
 obtain⟨hx1,hr1⟩:=px_one hx' (HE.out.low HW.out) (HR.out.low HW.out) t1
 have hC1:w1.heap[w.heap.size]?=some (.cells #[.int .i64 4,.int .i64 a,.int .i64 b,.int .i64 c,.string S] 55):=(t1.keep w.heap.size (by rw[World.size_drew,HSZ.out];omega) (fun q=>by have:=(HE.out.ty q).2.1;omega)).trans (HC0.out)
 have hd1:=(Below.refl w1.heap.size w1).drew
 have R1:=Z1 (R.out w1.drew (hr1.low hd1))
 have HX1:=Z1 hx1
 have HR1:=Z1 hr1
 have HE1:=Z1 he1
 have HT1:=Z1 t1
 have HD1:=Z1 (Turn.of_below (F:=G) hd1)
 clear hd1
 have HT0:=Z1 (Turn.of_below (F:=F) HW.out)
 have c1:w1.cell? ⟨x,1,none⟩=some (.pointer (some ⟨r,0,none⟩)):=by rw[Lib.cell_of_heap hx1];rfl
 have k0:w1.cell? ⟨w.heap.size,0,none⟩=some (.int .i64 4):=by rw[Lib.cell_of_heap hC1];rfl
 have k1:w1.cell? ⟨w.heap.size,1,none⟩=some (.int .i64 a):=by rw[Lib.cell_of_heap hC1];rfl
 have k2:w1.cell? ⟨w.heap.size,2,none⟩=some (.int .i64 b):=by rw[Lib.cell_of_heap hC1];rfl
 have k4:w1.cell? ⟨w.heap.size,4,none⟩=some (.string S):=by rw[Lib.cell_of_heap hC1];rfl
 have hz1:=Z3 c1
 have hz2:=Z3 k0
 clear P R HX HE HR HW hx' hx1 hr1 he1 t1 hC1 c0' o1 o2 o4 hz
 go_wp2_with fail
 refine wp_region_still_tail 6 hmo (by kernel_rfl) ?_
 simp only[List.take_succ_cons,List.take_zero,List.drop_succ_cons,List.drop_zero]
 repeat still_step
 refine wpStill_nil ?_
 go_wp2_with fail
 refine R1.out.mono ?_
 rintro e w2 ⟨rfl,G1,hr2,t2⟩
 have HF:=Z1 (px_two h5 HX1.out h2 HE1.out (HT0.out.trans HT1.out) HR1.out hr2 (HD1.out.trans t2))
 clear R1 HX1 HR1 HE1 HT1 HT0 c1 k0 k1 k2 k4 hz1 hz2 hr2 t2
 clear HD1 hmo
 go_wp2_with fail
 go_ret
 exact⟨rfl,HF.out⟩
theorem edit_und (B x:Nat) (s:St) (K:Nat->Prop) (M:Nat) (a b c:Int) (S:ByteArray) (w:World) (_ht:TabA w) (h:PX B w x s K) (hg:s.Good M) (_hM:M+S.size<=1000000000) :
  Calls Tryz.prog 84 #[.pointer (some ⟨x,0,none⟩),.agg #[.int .i64 5,.int .i64 a,.int .i64 b,.int .i64 c,.string S]] w fun e w'=>e=.returned (.bool true)/\∃K',PX B w' x (s.op 5 a b S).2 K'/\Turn K K' w w':=by
 have hop:s.op 5 a b S=s.und:=by unfold St.op;rw[if_neg (by decide),if_neg (by decide),if_neg (by decide),if_neg (by decide),if_pos rfl]
 rw[hop]
 obtain⟨p,r,F,G,h1,h2,h3,h4,h5⟩:=h
 have hw1:Below w.heap.size w (w.alloc (.cells #[.int .i64 5,.int .i64 a,.int .i64 b,.int .i64 c,.string S] 55)):=(Below.refl _ _).alloc (Nat.le_refl _) _
 have hmo:Tryz.prog.follows Departure.mixedOrders=true:=by kernel_rfl
 have P:=Z1 (eUnd B p s F M _ (h3.low hw1) hg)
 have R:=Z1 (fun W (h:RH B W r s G)=>rUnd B r s G M W h hg)
 obtain⟨V,hV⟩:∃V,V=s.und:=⟨_,rfl⟩
 rw[<-hV] at P R ⊢
 clear hV hop
 obtain⟨v1,s1⟩:=V
 simp only at P R
 have HX:=Z1 (show w.heap[x]?=_ from h1)
 have HE:=Z1 h3
 have HR:=Z1 h4
 have HW:=Z1 hw1
 have c0:w.cell? ⟨x,0,none⟩=some (.pointer (some ⟨p,0,none⟩)):=by rw[Lib.cell_of_heap h1];rfl
 have hz:=Z3 c0
 clear h1 h3 h4 hw1 _ht
 go_enter Tryz.func84,Tryz.ntmps84
 go_wp2_with fail
 refine P.out.mono ?_
 rintro e w1 ⟨rfl,F1,he1,t1⟩
 have hx':=(HW.out.block x (Z4 HX.out)).trans HX.out
 obtain⟨hx1,hr1⟩:=px_one hx' (HE.out.low HW.out) (HR.out.low HW.out) t1
 have hC1:w1.heap[w.heap.size]?=some (.cells #[.int .i64 5,.int .i64 a,.int .i64 b,.int .i64 c,.string S] 55):=(t1.keep w.heap.size (by rw[World.size_alloc];omega) (fun q=>by have:=(HE.out.ty q).2.1;omega)).trans (Go.Deep.blk_alloc_new _ _)
 have hd1:=(Below.refl w1.heap.size w1).drew
 have R1:=Z1 (R.out w1 hr1)
 have HX1:=Z1 hx1
 have HR1:=Z1 hr1
 have HE1:=Z1 he1
 have HT1:=Z1 t1
 have HD1:=Z1 (Turn.of_below (F:=G) hd1)
 clear hd1
 have HT0:=Z1 (Turn.of_below (F:=F) HW.out)
 have c1:w1.cell? ⟨x,1,none⟩=some (.pointer (some ⟨r,0,none⟩)):=by rw[Lib.cell_of_heap hx1];rfl
 have k0:w1.cell? ⟨w.heap.size,0,none⟩=some (.int .i64 5):=by rw[Lib.cell_of_heap hC1];rfl
 have k1:w1.cell? ⟨w.heap.size,1,none⟩=some (.int .i64 a):=by rw[Lib.cell_of_heap hC1];rfl
 have k2:w1.cell? ⟨w.heap.size,2,none⟩=some (.int .i64 b):=by rw[Lib.cell_of_heap hC1];rfl
 have k4:w1.cell? ⟨w.heap.size,4,none⟩=some (.string S):=by rw[Lib.cell_of_heap hC1];rfl
 have hz1:=Z3 c1
 have hz2:=Z3 k0
 clear P R HX HE HR HW hx' hx1 hr1 he1 t1 hC1 c0 hz
 go_wp2_with fail
 refine R1.out.mono ?_
 rintro e w2 ⟨rfl,G1,hr2,t2⟩
 have HF:=Z1 (px_two h5 HX1.out h2 HE1.out (HT0.out.trans HT1.out) HR1.out hr2 t2)
 clear R1 HX1 HR1 HE1 HT1 HT0 c1 k0 k1 k2 k4 hz1 hz2 hr2 t2
 clear HD1 hmo
 go_wp2_with fail
 go_ret
 exact⟨rfl,HF.out⟩
theorem edit_red (B x:Nat) (s:St) (K:Nat->Prop) (M:Nat) (a b c:Int) (S:ByteArray) (w:World) (_ht:TabA w) (h:PX B w x s K) (hg:s.Good M) (_hM:M+S.size<=1000000000) :
  Calls Tryz.prog 84 #[.pointer (some ⟨x,0,none⟩),.agg #[.int .i64 6,.int .i64 a,.int .i64 b,.int .i64 c,.string S]] w fun e w'=>e=.returned (.bool true)/\∃K',PX B w' x (s.op 6 a b S).2 K'/\Turn K K' w w':=by
 have hop:s.op 6 a b S=s.red:=by unfold St.op;rw[if_neg (by decide),if_neg (by decide),if_neg (by decide),if_neg (by decide),if_neg (by decide),if_pos rfl]
 rw[hop]
 obtain⟨p,r,F,G,h1,h2,h3,h4,h5⟩:=h
 have hw1:Below w.heap.size w (w.alloc (.cells #[.int .i64 6,.int .i64 a,.int .i64 b,.int .i64 c,.string S] 55)):=(Below.refl _ _).alloc (Nat.le_refl _) _
 have hmo:Tryz.prog.follows Departure.mixedOrders=true:=by kernel_rfl
 have P:=Z1 (eRed B p s F M _ (h3.low hw1) hg)
 have R:=Z1 (fun W (h:RH B W r s G)=>rRed B r s G M W h hg)
 obtain⟨V,hV⟩:∃V,V=s.red:=⟨_,rfl⟩
 rw[<-hV] at P R ⊢
 clear hV hop
 obtain⟨v1,s1⟩:=V
 simp only at P R
 have HX:=Z1 (show w.heap[x]?=_ from h1)
 have HE:=Z1 h3
 have HR:=Z1 h4
 have HW:=Z1 hw1
 have c0:w.cell? ⟨x,0,none⟩=some (.pointer (some ⟨p,0,none⟩)):=by rw[Lib.cell_of_heap h1];rfl
 have hz:=Z3 c0
 clear h1 h3 h4 hw1 _ht
 go_enter Tryz.func84,Tryz.ntmps84
 go_wp2_with fail
 refine P.out.mono ?_
 rintro e w1 ⟨rfl,F1,he1,t1⟩
 have hx':=(HW.out.block x (Z4 HX.out)).trans HX.out
 obtain⟨hx1,hr1⟩:=px_one hx' (HE.out.low HW.out) (HR.out.low HW.out) t1
 have hC1:w1.heap[w.heap.size]?=some (.cells #[.int .i64 6,.int .i64 a,.int .i64 b,.int .i64 c,.string S] 55):=(t1.keep w.heap.size (by rw[World.size_alloc];omega) (fun q=>by have:=(HE.out.ty q).2.1;omega)).trans (Go.Deep.blk_alloc_new _ _)
 have hd1:=(Below.refl w1.heap.size w1).drew
 have R1:=Z1 (R.out w1 hr1)
 have HX1:=Z1 hx1
 have HR1:=Z1 hr1
 have HE1:=Z1 he1
 have HT1:=Z1 t1
 have HD1:=Z1 (Turn.of_below (F:=G) hd1)
 clear hd1
 have HT0:=Z1 (Turn.of_below (F:=F) HW.out)
 have c1:w1.cell? ⟨x,1,none⟩=some (.pointer (some ⟨r,0,none⟩)):=by rw[Lib.cell_of_heap hx1];rfl
 have k0:w1.cell? ⟨w.heap.size,0,none⟩=some (.int .i64 6):=by rw[Lib.cell_of_heap hC1];rfl
 have k1:w1.cell? ⟨w.heap.size,1,none⟩=some (.int .i64 a):=by rw[Lib.cell_of_heap hC1];rfl
 have k2:w1.cell? ⟨w.heap.size,2,none⟩=some (.int .i64 b):=by rw[Lib.cell_of_heap hC1];rfl
 have k4:w1.cell? ⟨w.heap.size,4,none⟩=some (.string S):=by rw[Lib.cell_of_heap hC1];rfl
 have hz1:=Z3 c1
 have hz2:=Z3 k0
 clear P R HX HE HR HW hx' hx1 hr1 he1 t1 hC1 c0 hz
 go_wp2_with fail
 refine R1.out.mono ?_
 rintro e w2 ⟨rfl,G1,hr2,t2⟩
 have HF:=Z1 (px_two h5 HX1.out h2 HE1.out (HT0.out.trans HT1.out) HR1.out hr2 t2)
 clear R1 HX1 HR1 HE1 HT1 HT0 c1 k0 k1 k2 k4 hz1 hz2 hr2 t2
 clear HD1 hmo
 go_wp2_with fail
 go_ret
 exact⟨rfl,HF.out⟩
theorem edit_not (B x:Nat) (s:St) (K:Nat->Prop) (kind a b c:Int) (S:ByteArray) (w:World) (h:PX B w x s K) (h1:kind≠1) (h2:kind≠2) (h3:kind≠3) (h4:kind≠4) (h5:kind≠5) (h6:kind≠6) :
  Calls Tryz.prog 84 #[.pointer (some ⟨x,0,none⟩),.agg #[.int .i64 kind,.int .i64 a,.int .i64 b,.int .i64 c,.string S]] w fun e w'=>e=.returned (.bool true)/\∃K',PX B w' x (s.op kind a b S).2 K'/\Turn K K' w w':=by
 have hop:s.op kind a b S=(0,s):=by unfold St.op;rw[if_neg h1,if_neg h2,if_neg h3,if_neg h4,if_neg h5,if_neg h6]
 rw[hop]
 have b1:(kind==1)=false:=by simpa using h1
 have b2:(kind==2)=false:=by simpa using h2
 have b3:(kind==3)=false:=by simpa using h3
 have b4:(kind==4)=false:=by simpa using h4
 have b5:(kind==5)=false:=by simpa using h5
 have b6:(kind==6)=false:=by simpa using h6
 have HP:=Z1 h
 clear h
 go_enter Tryz.func84,Tryz.ntmps84
 go_wp2_with fail
 go_ret
 have hw1:Below w.heap.size w (w.alloc (.cells #[.int .i64 kind,.int .i64 a,.int .i64 b,.int .i64 c,.string S] 55)):=(Below.refl _ _).alloc (Nat.le_refl _) _
 exact⟨rfl,K,HP.out.low hw1,Turn.of_below hw1⟩
theorem edit_any (B x:Nat) (s:St) (K:Nat->Prop) (M:Nat) (kind a b c:Int) (S:ByteArray) (w:World) (ht:TabA w) (h:PX B w x s K) (hg:s.Good M) (hM:M+S.size<=1000000000) :
  Calls Tryz.prog 84 #[.pointer (some ⟨x,0,none⟩),.agg #[.int .i64 kind,.int .i64 a,.int .i64 b,.int .i64 c,.string S]] w fun e w'=>e=.returned (.bool true)/\∃K',PX B w' x (s.op kind a b S).2 K'/\Turn K K' w w':=by
 by_cases h1:kind=1
 ·subst h1;exact edit_rpl B x s K M a b c S w ht h hg hM
 by_cases h2:kind=2
 ·subst h2;exact edit_mrk B x s K M a b c S w ht h hg hM
 by_cases h3:kind=3
 ·subst h3;exact edit_eds B x s K M a b c S w ht h hg hM
 by_cases h4:kind=4
 ·subst h4;exact edit_cod B x s K M a b c S w ht h hg hM
 by_cases h5:kind=5
 ·subst h5;exact edit_und B x s K M a b c S w ht h hg hM
 by_cases h6:kind=6
 ·subst h6;exact edit_red B x s K M a b c S w ht h hg hM
 exact edit_not B x s K kind a b c S w h h1 h2 h3 h4 h5 h6
end Go.Proofs.YtoejbngihecafaaGreatDoor
namespace Go.Proofs.YtoejbngihecafaaGreatDoor
open Go.RowKit
theorem loadedX (B:Nat) (b:ByteArray) (mode:Int) (w:World) (ht:Tabs w) (hs:b.size<=1099511627000) (h0:0<=mode) (h7:mode<=7) (hB:B<=w.heap.size) :
  Calls Tryz.prog 19 #[.string b,.int .i64 mode] w fun e w'=>∃x K,e=.returned (.tuple #[.pointer (some ⟨x,0,none⟩),.bool true])/\PX B w' x ⟨ofK b (encOf b mode),[],[]⟩ K/\(∀i,K i->w.heap.size<=i)/\Below w.heap.size w w':=by
 have L:=Z2 (load_new b mode w ht (by omega) h0 h7)
 have R:=Z2 (fun w=>rload_new b mode w (by omega) h0 h7)
 go_enter Tryz.func19,Tryz.ntmps19
 go_wp2_with fail
 refine L.out.mono ?_
 rintro e w1 ⟨p,rfl,hp,hd,hb1⟩
 go_wp2_with fail
 refine (R.out w1).mono ?_
 rintro e w2 ⟨r,rfl,hr1,hrd,hb2⟩
 have HD:=Z2 (hd.low hb2)
 have HR:=Z2 hrd
 have hb12:=hb1.trans (hb2.mono hb1.size)
 have hz1:=hb1.size
 clear hd hrd L R
 go_wp2_with fail
 have hba:=(Below.refl w2.heap.size w2).alloc (Nat.le_refl _) (.cells #[.pointer (some ⟨p,0,none⟩),.pointer (some ⟨r,0,none⟩)] 46)
 go_ret2
 have hE:EH B w2 p ⟨ofK b (encOf b mode),[],[]⟩ (fun i=>i=p):=EH.new HD.out (by omega)
 have hR:RH B w2 r ⟨ofK b (encOf b mode),[],[]⟩ (fun i=>i=r):=RH.new HR.out (by omega)
 refine⟨w2.heap.size,fun i=>i=w2.heap.size\/i=p\/i=r,rfl,⟨p,r,_,_,Go.Deep.blk_alloc_new _ _,by have:=hb12.size;omega,hE.low hba,hR.low hba,fun i=>Iff.rfl⟩,fun i hi=>?_,hb12.trans (hba.mono hb12.size)⟩
 have:=hb12.size
 rcases hi with rfl|rfl|rfl<;>omega
structure Opr where
 kind:Int
 a:Int
 b:Int
 c:Int
 S:ByteArray
def Opr.val (o:Opr):Value:=.agg #[.int .i64 o.kind,.int .i64 o.a,.int .i64 o.b,.int .i64 o.c,.string o.S]
def OpsAt (w:World) (v:Value) (l:List Opr):Prop :=
 ∃q cap,v=.slice q l.length cap/\∀i o,l[i]?=some o->∃g f,q=some ⟨g,f,none⟩/\w.cell? ⟨g,f+i * 5,none⟩=some (.int .i64 o.kind)/\w.cell? ⟨g,f+i * 5+1,none⟩=some (.int .i64 o.a)/\w.cell? ⟨g,f+i * 5+2,none⟩=some (.int .i64 o.b)/\w.cell? ⟨g,f+i * 5+3,none⟩=some (.int .i64 o.c)/\w.cell? ⟨g,f+i * 5+4,none⟩=some (.string o.S)
theorem OpsAt.low {w w':World} {v:Value} {l:List Opr} (h:OpsAt w v l) (hb:Below w.heap.size w w'):OpsAt w' v l:=by
 obtain⟨q,cap,h1,h2⟩:=h
 refine⟨q,cap,h1,fun i o hi=>?_⟩
 obtain⟨g,f,a0,a1,a2,a3,a4,a5⟩:=h2 i o hi
 have z:=Z3 a1
 exact⟨g,f,a0,(hb.cell (p:=⟨g,f+i * 5,none⟩) z).trans a1,(hb.cell (p:=⟨g,f+i * 5+1,none⟩) z).trans a2,(hb.cell (p:=⟨g,f+i * 5+2,none⟩) z).trans a3,(hb.cell (p:=⟨g,f+i * 5+3,none⟩) z).trans a4,(hb.cell (p:=⟨g,f+i * 5+4,none⟩) z).trans a5⟩
def opsS (l:List Opr):Nat:=(l.map (fun o=>o.S.size)).sum
theorem opsS_step {l:List Opr} {j:Nat} {o:Opr} (h:l[j]?=some o):opsS (l.take (j+1))=opsS (l.take j)+o.S.size:=by
 unfold opsS
 rw[List.take_add_one,h];simp
theorem opsS_le (l:List Opr) (j:Nat):opsS (l.take j)<=opsS l:=by
 have g:∀X Y:List Opr,opsS (X++Y)=opsS X+opsS Y:=fun X Y=>by unfold opsS;simp
 have h:=g (l.take j) (l.drop j)
 rw[List.take_append_drop] at h
 omega
theorem play_any (B x:Nat) (s:St) (K:Nat->Prop) (M:Nat) (o:Opr) (w:World) (ht:TabA w) (h:PX B w x s K) (hg:s.Good M) (hM:M+o.S.size<=1000000000) :
  Calls Tryz.prog 50 #[.pointer (some ⟨x,0,none⟩),o.val] w fun e w'=>e=.returned (.bool true)/\∃s' K',PX B w' x s' K'/\s'.Good (M+8 * o.S.size)/\Turn K K' w w':=by
 obtain⟨kind,a,b,c,S⟩:=o
 unfold Opr.val
 simp only at hM ⊢
 have hw1:Below w.heap.size w (w.alloc (.cells #[.int .i64 kind,.int .i64 a,.int .i64 b,.int .i64 c,.string S] 55)):=(Below.refl _ _).alloc (Nat.le_refl _) _
 have hz:x<w.heap.size:=by
  obtain⟨p,r,F,G,h1,_⟩:=h
  exact Z4 h1
 have h':=h.low hw1
 have ht':=ht.below hw1
 have HG:=Z1 hg
 have HW:=Z1 hw1
 have HH:=Z1 h'
 by_cases h7:kind=7
 ·subst h7
  have P:=Z1 (h'.looked ht'.tw.tabs hg (by omega))
  clear h h' ht ht' hg hw1
  go_enter Tryz.func50,Tryz.ntmps50
  go_wp2_with fail
  refine P.out.mono ?_
  rintro e w1 ⟨rfl,hb1⟩
  have HF:=Z1 (show ∃s' K',PX B w1 x s' K'/\s'.Good (M+8 * S.size)/\Turn K K' w w1 from ⟨s,K,HH.out.low hb1,HG.out.mono (by omega),(Turn.of_below HW.out).trans (Turn.of_below hb1)⟩)
  clear P HH HG HW hb1
  go_wp2_with fail
  go_ret
  exact⟨rfl,HF.out⟩
 by_cases h8:kind=8
 ·subst h8
  have P:=Z1 (h'.placed ht'.tw.tabs hg (by omega) a a b)
  clear h h' ht ht' hg hw1 h7
  go_enter Tryz.func50,Tryz.ntmps50
  go_wp2_with fail
  refine P.out.mono ?_
  rintro e w1 ⟨rfl,hb1⟩
  have HF:=Z1 (show ∃s' K',PX B w1 x s' K'/\s'.Good (M+8 * S.size)/\Turn K K' w w1 from ⟨s,K,HH.out.low hb1,HG.out.mono (by omega),(Turn.of_below HW.out).trans (Turn.of_below hb1)⟩)
  clear P HH HG HW hb1
  go_wp2_with fail
  go_ret
  exact⟨rfl,HF.out⟩
 have b7:(kind==7)=false:=by simpa using h7
 have b8:(kind==8)=false:=by simpa using h8
 have P:=Z1 (edit_any B x s K M kind a b c S _ ht' h' hg hM)
 clear h h' ht ht' hg hw1 HH
 go_enter Tryz.func50,Tryz.ntmps50
 go_wp2_with fail
 refine P.out.mono ?_
 rintro e w1 ⟨rfl,K1,hx1,t1⟩
 have HF:=Z1 (show ∃s' K',PX B w1 x s' K'/\s'.Good (M+8 * S.size)/\Turn K K' w w1 from ⟨_,K1,hx1,HG.out.op,(Turn.of_below HW.out).trans t1⟩)
 clear P HG HW hx1 t1
 go_wp2_with fail
 go_ret
 exact⟨rfl,HF.out⟩
theorem plays_any (b:ByteArray) (mode:Int) (v:Value) (l:List Opr) (low high:Int) (w:World) (ht:TabA w) (hv:OpsAt w v l) (hs:b.size+9 * opsS l<=1000000000) (hl:l.length<=1000000000) :
  Calls Tryz.prog 18 #[.string b,.int .i64 mode,v,.int .i64 low,.int .i64 high] w fun e w'=>e=.returned (.bool true)/\Below w.heap.size w w':=by
 by_cases hm:0<=mode/\mode<=7
 ·obtain⟨h0,h7⟩:=hm
  have L:=Z2 (loadedX w.heap.size b mode w ht.tw.tabs (by omega) h0 h7 (Nat.le_refl _))
  have hG:St.Good b.size ⟨ofK b (encOf b mode),[],[]⟩:=ofK_good (encOf_bd b mode).1 (encOf_bd b mode).2
  have HG:=Z2 hG
  have HT:=Z2 ht
  have HV:=Z2 hv
  obtain⟨q,cap,rfl,_⟩:=hv
  clear ht hG
  go_enter Tryz.func18,Tryz.ntmps18
  go_wp2_with fail
  refine L.out.mono ?_
  rintro e w1 ⟨x,K,rfl,hx,hK,hb1⟩
  have c0:∃p,w1.cell? ⟨x,0,none⟩=some (.pointer (some ⟨p,0,none⟩)):=by
   obtain⟨p,r,F,G,g1,_⟩:=hx
   exact⟨p,by rw[Lib.cell_of_heap g1];rfl⟩
  obtain⟨p,c0⟩:=c0
  have hz:=Z3 c0
  have HX:=Z2 hx
  have HB:=Z2 hb1
  clear L hx hb1 hK
  go_wp2_with fail
  go_loopw [12,13] (fun ok i wx=>∃(j:Nat) (s:St) (K:Nat->Prop),j<=l.length/\ok=.bool true/\i=.int .i64 j/\PX w.heap.size wx x s K/\s.Good (b.size+8 * opsS (l.take j))/\Below w.heap.size w wx) (fun _ i _=>l.length - (intOf i).toNat)
  case atStart=>exact⟨0,_,_,Nat.zero_le _,rfl,rfl,HX.out,HG.out.mono (by omega),HB.out⟩
  case round =>
   clear HX HB HG c0 hz
   obtain⟨j,s,K,hj,rfl,rfl,hx,hg,hb⟩:=hrel
   have ht:=HT.out.below hb
   have hle:=opsS_le l j
   have HX:=Z2 hx
   have HB:=Z2 hb
   have HGJ:=Z2 hg
   have HTJ:=Z2 ht
   have HVJ:=Z2 (HV.out.low hb)
   have hz:x<wr.heap.size:=by
    obtain⟨p,r,F,G,g1,_⟩:=hx
    exact Z4 g1
   clear hx hb hg ht
   by_cases hlt:j<l.length
   ·have hltI:(j:Int)<(l.length:Int):=by omega
    obtain⟨o,ho⟩:∃o,l[j]?=some o:=⟨l[j],List.getElem?_eq_getElem hlt⟩
    have hst:=opsS_step ho
    have hle1:=opsS_le l (j+1)
    obtain⟨_,_,hq,hcs⟩:=HVJ.out
    obtain⟨g,f,hqe,o0,o1,o2,o3,o4⟩:=hcs j o ho
    injection hq with hq1 hq2 hq3
    subst hq1
    subst hqe
    clear hcs hq2 hq3 ho HVJ
    have hzo:=Z3 o0
    have P:=Z2 (play_any w.heap.size x s K _ o wr HTJ.out HX.out HGJ.out (by omega))
    unfold Opr.val at P
    obtain⟨kind,a,bb,c,S⟩:=o
    simp only at o0 o1 o2 o3 o4 P hst
    have HST:=Z2 hst
    clear hst
    by_cases hin:kind<low\/high<kind
    ·have hin':(decide (kind<low) || decide (high<kind))=true:=by simpa using hin
     go_wp2_with fail
     all_goals
      refine P.out.mono ?_
      rintro e w2 ⟨rfl,s2,K2,hx2,hg2,t2⟩
      have HX2:=Z2 hx2
      have HG2:=Z2 hg2
      have HB2:=Z2 (t2.below HB.out (fun i hi=>(HX.out.ty hi).1))
      clear P hx2 hg2 t2 o0 o1 o2 o3 o4 hzo HX HGJ HTJ HB
      go_wp2_with fail
      refine⟨⟨j+1,s2,K2,by omega,rfl,by go_num,HX2.out,HG2.out.mono (by rw[HST.out];omega),HB2.out⟩,by simp [intOf];omega⟩
    ·have hn1:¬kind<low:=fun q=>hin (.inl q)
     have hn2:¬high<kind:=fun q=>hin (.inr q)
     clear P
     go_wp2_with fail
     refine⟨⟨j+1,s,K,by omega,rfl,by go_num,HX.out,HGJ.out.mono (by rw[HST.out];omega),HB.out⟩,by simp [intOf];omega⟩
   ·obtain rfl:j=l.length:=by omega
    have P:=Z2 (HX.out.looked HTJ.out.tw.tabs HGJ.out (by omega))
    have HB':=Z2 HB.out
    clear HX HGJ HTJ HVJ hlt
    go_wp2_with fail
    refine P.out.mono ?_
    rintro e w2 ⟨rfl,hb2⟩
    have HF:=Z2 (HB.out.trans (hb2.mono HB.out.size))
    clear P hb2 HB HB'
    go_wp2_with fail
    go_ret
    exact⟨rfl,HF.out⟩
 ·have L:=Z2 (loaded_no api b mode w ht.tw.tabs (by omega))
  obtain⟨q,cap,rfl,_⟩:=hv
  clear ht
  go_enter Tryz.func18,Tryz.ntmps18
  go_wp2_with fail
  refine L.out.mono ?_
  rintro e w1 ⟨x,rfl,c0,hb1⟩
  have hz:=Z3 c0
  clear L
  go_wp2_with fail
  go_ret
  exact⟨rfl,hb1⟩
end Go.Proofs.YtoejbngihecafaaGreatDoor
namespace Go.Proofs.YtoejbngihecafaaGreatDoor
open Go.RowKit Go.Proofs Go.Lib
theorem gEnds : Tryz.prog.globalNamed "vellum/code.ends" = some 3 := by kernel_rfl
theorem tEnds:(Tryz.prog.globals[3]?).map (·.type)=some 229:=by kernel_rfl
theorem arr_str {P:Program} {w:World} {base:Nat} {sp:Nat->Bool} {held:Bool} {fuel n i:Nat} {t e:TypeId} {cs:List Value} {rows:List (DataW Unit)} {l:List UInt8} {p:List MemPlace}
  (ht:P.underlying t=some (.array n e)) (he:P.underlying e=some .string) (hce:P.cellsOf e=1) (h:DataW.trod (fun _=>()) P w base sp held fuel t cs=some (.agg rows,p)) (hi:i<n) (hr:rows[i]?=some (.lit (.string l))):cs[i]?=some (.string ⟨l.toArray⟩):=by
 obtain⟨xs,m,_,hx,_,hxl,hall⟩:=DataW.trod_array ht h
 have hx1:rows=xs.map (fun y=>y.1):=by
  have:=congrArg Prod.fst hx
  injection this
 rw[hx1,List.getElem?_map] at hr
 obtain⟨y,hy,hy2⟩:=Option.map_eq_some_iff.1 hr
 have h2:=hall i hi
 rw[hy] at h2
 obtain⟨y1,y2⟩:=y
 simp only at hy2
 subst hy2
 obtain⟨s,hc,hx2,_⟩:=DataW.trod_string he h2
 have hl:l=s.data.toList:=by
  have:=congrArg Prod.fst hx2
  simp only[DataW.lit.injEq,Lit.string.injEq] at this
  exact this
 subst hl
 rw[hce] at hc
 have h1:=congrArg (fun l=>l[0]?) hc
 simp only[List.getElem?_take,List.getElem?_drop,List.getElem?_cons_zero] at h1
 split at h1
 ·simpa using h1
 ·cases h1
theorem ends_of {W : World} {cs : Array Value} {fuel : Nat} {p : List MemPlace} (hv : W.var? Tryz.prog "vellum/code.ends" = some cs) (hd : DataW.trod (fun _ => ()) Tryz.prog W 0 (fun _ => true) false fuel 229 cs.toList = some (Rows.laid_vellum_code_ends, p)) : TabEnds W := by
 have hc:∀i v,cs.toList[i]?=some v->W.cell? ⟨3,i,none⟩=some v:=fun i v h=>(World.var?_cell gEnds hv i).trans (by rw[<-Array.getElem?_toList];exact h)
 have ce:Tryz.prog.cellsOf 9=1:=by kernel_rfl
 exact⟨hc 0 _ (arr_str (i:=0) Tryz.underlying229 Tryz.underlying9 ce hd (by decide) rfl),hc 1 _ (arr_str (i:=1) Tryz.underlying229 Tryz.underlying9 ce hd (by decide) rfl),hc 2 _ (arr_str (i:=2) Tryz.underlying229 Tryz.underlying9 ce hd (by decide) rfl)⟩
theorem u8x:U8Extra Tryz.prog ren3 where
 n3:=by kernel_rfl
 n4:=by kernel_rfl
 y3:=by kernel_rfl
 y4:=by kernel_rfl
 c5:=by kernel_rfl
 c119:=by kernel_rfl
 c138:=by kernel_rfl
theorem acc_eq:(Rows.laid_unicode_utf8_acceptRanges:DataW Unit)=acceptData:=by kernel_rfl
theorem taba_of {W : World} {l : List (String × DataW Unit)} {ps : List MemPlace} (h : DataW.LaidVars Tryz.prog W l ps) (m1 : ("unicode/utf8.acceptRanges", Rows.laid_unicode_utf8_acceptRanges) ∈ l) (m2 : ("vellum/code.encodings", Rows.laid_vellum_code_encodings) ∈ l) (m3 : ("vellum/code.sequences", Rows.laid_vellum_code_sequences) ∈ l) (m4 : ("vellum/code.halves", Rows.laid_vellum_code_halves) ∈ l) (m5 : ("vellum/code.ends", Rows.laid_vellum_code_ends) ∈ l) (m6 : ("unicode/utf8.first", Rows.laid_unicode_utf8_first) ∈ l) : TabA W := by
 have v1:=LaidVars_reads h _ _ m1
 have v6:=LaidVars_reads h _ _ m6
 obtain⟨g2,t2,cs2,f2,p2,hg2,ht2,hv2,hd2⟩:=LaidVars_reads h _ _ m2
 obtain⟨g3,t3,cs3,f3,p3,hg3,ht3,hv3,hd3⟩:=LaidVars_reads h _ _ m3
 obtain⟨g4,t4,cs4,f4,p4,hg4,ht4,hv4,hd4⟩:=LaidVars_reads h _ _ m4
 obtain⟨g5,t5,cs5,f5,p5,hg5,ht5,hv5,hd5⟩:=LaidVars_reads h _ _ m5
 obtain rfl:=Option.some.inj (gEnc.symm.trans hg2)
 obtain rfl:=Option.some.inj (gSeq.symm.trans hg3)
 obtain rfl:=Option.some.inj (gHalf.symm.trans hg4)
 obtain rfl:=Option.some.inj (gEnds.symm.trans hg5)
 obtain rfl:=Option.some.inj (tEnc.symm.trans ht2)
 obtain rfl:=Option.some.inj (tSeq.symm.trans ht3)
 obtain rfl:=Option.some.inj (tHalf.symm.trans ht4)
 obtain rfl:=Option.some.inj (tEnds.symm.trans ht5)
 refine⟨⟨⟨seq_of hv3 hd3,half_of hv4 hd4,enc_of hv2 hd2⟩,ends_of hv5 hd5⟩,?_⟩
 rw[acc_eq] at v1
 have e6:(Rows.laid_unicode_utf8_first:DataW Unit)=firstData:=Go.Pinned.utf8First_eq
 rw[e6] at v6
 exact utf8Tabs_of_readsT (U8Types.of196 lays196) u8x v6 v1
end Go.Proofs.YtoejbngihecafaaGreatDoor
namespace Go.Proofs.YtoejbngihecafaaGreatDoor
open Go.ChangeShapes Go.WideShapes Go.ChangeAt Go.RowKit
theorem op_open {H:Type} {enc:TypeId × Value->H} {W:World} {base:Nat} {sp:Nat->Bool} {held:Bool} {fuel:Nat} {cs:List Value} {x:DataW H × List MemPlace} (h:DataW.trod enc Tryz.prog W base sp held fuel 55 cs=some x) :
  ∃(k a b c:Int) (s:ByteArray),cs=[.int .i64 k,.int .i64 a,.int .i64 b,.int .i64 c,.string s]/\x.1=.agg [.lit (.int .i64 k),.lit (.int .i64 a),.lit (.int .i64 b),.lit (.int .i64 c),.lit (.string s.data.toList)]:=by
 obtain⟨xs,n,_,hx,hcl,hxl,hall⟩:=DataW.trod_struct Tryz.underlying55 h
 have c5:Tryz.prog.cellsOf 55=5:=by kernel_rfl
 have ci:Tryz.prog.cellsOf 3=1:=by kernel_rfl
 have cst:Tryz.prog.cellsOf 9=1:=by kernel_rfl
 rw[c5] at hcl
 match cs,hcl with
 |[v0,v1,v2,v3,v4],_ =>
  match xs,hxl with
  |[y0,y1,y2,y3,y4],_ =>
   have h0:DataW.trod enc Tryz.prog W base sp held n 3 (([v0,v1,v2,v3,v4].drop 0).take (Tryz.prog.cellsOf 3))=some y0:=hall 0 _ rfl
   have h1:DataW.trod enc Tryz.prog W base sp held n 3 (([v0,v1,v2,v3,v4].drop 1).take (Tryz.prog.cellsOf 3))=some y1:=hall 1 _ rfl
   have h2:DataW.trod enc Tryz.prog W base sp held n 3 (([v0,v1,v2,v3,v4].drop 2).take (Tryz.prog.cellsOf 3))=some y2:=hall 2 _ rfl
   have h3:DataW.trod enc Tryz.prog W base sp held n 3 (([v0,v1,v2,v3,v4].drop 3).take (Tryz.prog.cellsOf 3))=some y3:=hall 3 _ rfl
   have h4:DataW.trod enc Tryz.prog W base sp held n 9 (([v0,v1,v2,v3,v4].drop 4).take (Tryz.prog.cellsOf 9))=some y4:=hall 4 _ rfl
   rw[ci] at h0 h1 h2 h3
   rw[cst] at h4
   obtain⟨k,e0,z0,_⟩:=DataW.trod_int Tryz.underlying3 h0
   obtain⟨a,e1,z1,_⟩:=DataW.trod_int Tryz.underlying3 h1
   obtain⟨b,e2,z2,_⟩:=DataW.trod_int Tryz.underlying3 h2
   obtain⟨c,e3,z3,_⟩:=DataW.trod_int Tryz.underlying3 h3
   obtain⟨s,e4,z4,_⟩:=DataW.trod_string Tryz.underlying9 h4
   have g0:v0=.int .i64 k:=by simpa using e0
   have g1:v1=.int .i64 a:=by simpa using e1
   have g2:v2=.int .i64 b:=by simpa using e2
   have g3:v3=.int .i64 c:=by simpa using e3
   have g4:v4=.string s:=by simpa using e4
   clear e0 e1 e2 e3 e4 h0 h1 h2 h3 h4 hall h
   subst g0 g1 g2 g3 g4 z0 z1 z2 z3 z4
   exact⟨k,a,b,c,s,rfl,by rw[hx];rfl⟩
def dOp {H:Type}:DataW H->Opr
 |.agg [.lit (.int _ k),.lit (.int _ a),.lit (.int _ b),.lit (.int _ c),.lit (.string s)]=>⟨k,a,b,c,⟨s.toArray⟩⟩
 |_=>⟨0,0,0,0,⟨#[]⟩⟩
theorem bulk_ops {H:Type}:∀(L:List (DataW H)),(∀d∈L,∃(k a b c:Int) (s:ByteArray),d=.agg [.lit (.int .i64 k),.lit (.int .i64 a),.lit (.int .i64 b),.lit (.int .i64 c),.lit (.string s.data.toList)])->opsS (L.map dOp)+L.length<=Rows.uptoBulkAll L
 |[],_=>by simp [opsS]
 |d :: L,h=>by
  have ih:=bulk_ops L (fun x hx=>h x (by simp [hx]))
  obtain⟨k,a,b,c,s,rfl⟩:=h d (by simp)
  have e:opsS ((DataW.agg [.lit (.int .i64 k),.lit (.int .i64 a),.lit (.int .i64 b),.lit (.int .i64 c),.lit (.string s.data.toList)] :: L).map dOp)=s.size+opsS (L.map dOp):=by
   unfold opsS
   simp [dOp]
  have hs:s.data.toList.length=s.size:=rfl
  rw[e,List.length_cons]
  simp only[Rows.uptoBulkAll,Rows.uptoBulk]
  omega
theorem Tryz.laidOutK:laidOutB Tryz.prog=true:=by kernel_rfl
theorem arg_ops {H:Type} {enc:TypeId × Value->H} {W:World} {base:Nat} {v:Value} {d:DataW H} {ps:List MemPlace} (hval:Value.okWide Tryz.prog W .any base 41 v) (hd:DataW.Trod enc Tryz.prog W 0 (fun _=>true) true 41 v d ps) (hlt:∀p∈ps,p.block<W.heap.size) :
  ∃l:List Opr,OpsAt W v l/\opsS l+l.length<=Rows.uptoBulk d/\(∀W',Below W.heap.size W W'->∀sp:Nat->Bool,(∀p∈ps,sp p.block=true)->DataW.Trod enc Tryz.prog W' 0 sp true 41 v d ps):=by
 have hkeep:∀W',Below W.heap.size W W'->∀sp:Nat->Bool,(∀p∈ps,sp p.block=true)->DataW.Trod enc Tryz.prog W' 0 sp true 41 v d ps:=fun W' hb sp hsp =>
  WideElems.Trod_stays Tryz.laidOutK (by kernel_rfl) (of_decide_eq_true (by kernel_rfl)) hd (fun x hx=>hb.same (hlt x hx)) hsp
 obtain⟨a0,len0,cap0,rfl⟩:=okWide_slice Tryz.underlying41 hval
 have ce:Tryz.prog.cellsOf 55=5:=by kernel_rfl
 obtain⟨fuel,hf⟩:=hd
 rcases Go.Deep.open_slice Tryz.underlying41 hf with ⟨hcs,hx⟩|⟨a,len,cap,m,n,D,Pl,hcs,hb,hl,hm,hmm,hx,hcell⟩
 ·simp [Value.cells] at hcs
  obtain⟨rfl,rfl,rfl⟩:=hcs
  exact⟨[],⟨none,0,rfl,fun i o h=>by simp at h⟩,by simp [opsS],hkeep⟩
 ·simp [Value.cells] at hcs
  obtain⟨rfl,rfl,rfl⟩:=hcs
  injection hx with hx1 hx2
  simp only[if_true] at hmm
  have hD:∀i,i<m->∃(k a' b c:Int) (s:ByteArray),D i=.agg [.lit (.int .i64 k),.lit (.int .i64 a'),.lit (.int .i64 b),.lit (.int .i64 c),.lit (.string s.data.toList)]/\∀j,j<5->W.cell? ((a.add (i * 5)).add j)=[Value.int .i64 k,.int .i64 a',.int .i64 b,.int .i64 c,.string s][j]?:=fun i hi=>by
   obtain⟨cs',h1,h2⟩:=hcell i hi
   rw[ce] at h1
   obtain⟨k,a',b,c,s,e1,e2⟩:=op_open h2
   subst e1
   exact⟨k,a',b,c,s,e2,(World.cells?_some h1).2.2⟩
  refine⟨((List.range len0).map D).map dOp,⟨some a,cap0,by simp,fun i o hi=>?_⟩,?_,hkeep⟩
  ·have hil:i<len0:=by
    have:=(List.getElem?_eq_some_iff.1 hi).1
    simpa using this
   obtain⟨k,a',b,c,s,e1,e2⟩:=hD i (by omega)
   have ho:o=⟨k,a',b,c,s⟩:=by
    have:((List.range len0).map D).map dOp=(List.range len0).map (fun i=>dOp (D i)):=by simp
    rw[this,List.getElem?_map,List.getElem?_range hil] at hi
    have h2:=Option.some.inj hi
    rw[<-h2]
    show dOp (D i)=_
    rw[e1]
    rfl
   subst ho
   obtain⟨g,f,spot⟩:=a
   obtain⟨_,_,_,_,_,_,e0⟩:=hD 0 (by omega)
   have hsp:=World.cell?_spot (e0 0 (by decide))
   have hspot:spot=none:=by simpa [Addr.add] using hsp
   subst hspot
   simp only[Addr.add_lit] at e2
   exact⟨g,f,rfl,e2 0 (by decide),e2 1 (by decide),e2 2 (by decide),e2 3 (by decide),e2 4 (by decide)⟩
  ·rw[hx1]
   simp only[Rows.uptoBulk]
   have:=bulk_ops ((List.range len0).map D) (fun d hd=>by
    obtain⟨i,hi,rfl⟩:=List.mem_map.1 hd
    obtain⟨k,a',b,c,s,e1,_⟩:=hD i (by have:=List.mem_range.1 hi;omega)
    exact⟨k,a',b,c,s,e1⟩)
   have hlen:(((List.range len0).map D).map dOp).length=((List.range len0).map D).length:=by simp
   rw[hlen]
   omega
noncomputable def laidWorldE (os:Os):World :=
 { fin.laidWorld os with heap:=(((fin.laidWorld os).heap.modify 3 (fin.putCells #[.string ⟨#[10]⟩,.string ⟨#[13,10]⟩,.string ⟨#[13]⟩])).modify 0 (fin.putCells (Lib.firstTab.map fun z=>Value.int .u8 z).toArray)).modify 1 (fin.putCells ((List.range 16).flatMap fun i=>[Value.int .u8 (Lib.accLo i),.int .u8 (Lib.accHi i)]).toArray) }
end Go.Proofs.YtoejbngihecafaaGreatDoor
