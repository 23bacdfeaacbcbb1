import Derived.Deep.CutRange
import Derived.Test.YtoejbngihecafabGreatDoorB22
import Derived.Test.YtoejbngihecafabGreatDoorB4
import Derived.Test.YtoejbngihecafabGreatDoorB21
import Derived.Test.YtoejbngihecafabGreatDoorB20
set_option maxRecDepth 100000
set_option maxHeartbeats 1000000
namespace Go.Proofs.YtoejbngihecafabGreatDoor
open Go.RowKit
theorem fits_place (q:Nat) (o:Int) (w:World) (hq:w.cell? ⟨q,0,none⟩=some (.int .i64 o)):Fits w 65 #[.pointer (some ⟨q,0,none⟩)] (fun c=>decide ((c.bytes:Int)<=o)):=by
 refine⟨fun args W=>enters_of Tryz.func65 (by kernel_rfl) rfl args W,fun c W hW hsm=>?_⟩
 have hq':W.cell? ⟨q,0,none⟩=some (.int .i64 o):=(hW.cell (p:=⟨q,0,none⟩) (Z3 hq)).trans hq
 have hz:=Z3 hq'
 clear hW hq
 show Calls Tryz.prog 65 #[c.val,.pointer (some ⟨q,0,none⟩)] W _
 simp only[Cn.val]
 go_enter Tryz.func65,Tryz.ntmps65
 go_wp2_with fail
 go_ret
 exact⟨rfl,(Below.refl _ _).alloc (Nat.le_refl _) _⟩
end Go.Proofs.YtoejbngihecafabGreatDoor
namespace Go.Proofs.YtoejbngihecafabGreatDoor
open Go.RowKit
theorem field_bytes (v0 v1 v2 v3 v4 v5 v6 v7:Value) (w:World):(Instr.field 68 (.agg #[v0,v1,v2,v3,v4,v5,v6,v7]) 1).run Tryz.prog w=.ok v1 w:=by kernel_rfl
def plV (A:List Vm.At) (o:Int):Cn × Int:=if o<0\/(Vm.bytesA A:Int)<o then (cn0,2) else if (Vm.bytesA (A.take (Vm.plK A o)):Int)<o then (cn0,3) else (cnOf (A.take (Vm.plK A o)),0)
theorem aheadC_pl (A:List Vm.At) (o:Int):aheadC (fun c=>decide ((c.bytes:Int)<=o)) cn0 A=cnOf (A.take (Vm.plK A o)):=by
 unfold aheadC Vm.plK;rw[cn0_plus]
structure PlR (w0:World) (enc:Int) (mark:Bool) (n:Option Nd) (R:List (Cn × ByteArray)) (tail:ByteArray) (o:Int) (w:World):Prop where
 c:w.heap[w0.heap.size]?=some (.cells #[.int .i64 enc,.bool mark,trv n,.string tail] 53)
 o:w.cell? ⟨w0.heap.size+1,0,none⟩=some (.int .i64 o)
 r:CnAt w (w0.heap.size+1+1) cn0
 tabs:Tabs w
 tr:TrAt w enc n R
 low:Below w0.heap.size w0 w
theorem PlR.step {w0:World} {enc:Int} {mark:Bool} {n:Option Nd} {R:List (Cn × ByteArray)} {tail:ByteArray} {o:Int} {w w':World} (h:PlR w0 enc mark n R tail o w) (hb:Below w.heap.size w w'):PlR w0 enc mark n R tail o w' :=
 ⟨(hb.block _ (Z4 h.c)).trans h.c,(hb.cell (p:=⟨w0.heap.size+1,0,none⟩) (Z3 h.o)).trans h.o,h.r.below hb,h.tabs.below hb,h.tr.low hb,h.low.trans (hb.mono h.low.size)⟩
theorem PlR.at_ {w0:World} {enc:Int} {mark:Bool} {n:Option Nd} {R:List (Cn × ByteArray)} {tail:ByteArray} {o:Int} {w:World} (h:PlR w0 enc mark n R tail o w):w.cell? ⟨w0.heap.size,0,none⟩=some (.int .i64 enc)/\w.cell? ⟨w0.heap.size,2,none⟩=some (trv n) :=
 ⟨by rw[Lib.cell_of_heap h.c];rfl,by rw[Lib.cell_of_heap h.c];rfl⟩
theorem PlR.start (enc:Int) (mark:Bool) (n:Option Nd) (R:List (Cn × ByteArray)) (tail:ByteArray) (o:Int) (w:World) (ht:Tabs w) (hr:TrAt w enc n R):PlR w enc mark n R tail o (((w.alloc (.cells #[.int .i64 enc,.bool mark,trv n,.string tail] 53)).alloc (.cells #[.int .i64 o] 3)).alloc (.cells #[.int .i64 0,.int .i64 0,.int .i64 0,.int .i64 0,.int .i64 0,.int .i64 0,.int .i64 0,.int .i64 0] 68)):=by
 have hb:Below w.heap.size w (((w.alloc (.cells #[.int .i64 enc,.bool mark,trv n,.string tail] 53)).alloc (.cells #[.int .i64 o] 3)).alloc (.cells #[.int .i64 0,.int .i64 0,.int .i64 0,.int .i64 0,.int .i64 0,.int .i64 0,.int .i64 0,.int .i64 0] 68)):=(((Below.refl _ _).alloc (Nat.le_refl _) _).alloc (by simp) _).alloc (by simp;omega) _
 refine⟨?_,?_,?_,ht.below hb,hr.low hb,hb⟩
 ·rw[Below.heap_alloc _ _ _ (by simp;omega),Below.heap_alloc _ _ _ (by simp)];exact Go.Deep.blk_alloc_new _ _
 ·simp [go_sem]
 ·have:=CnAt.new ((w.alloc (.cells #[.int .i64 enc,.bool mark,trv n,.string tail] 53)).alloc (.cells #[.int .i64 o] 3)) 68
  rw[World.size_alloc,World.size_alloc] at this
  exact this
theorem place_any (enc:Int) (mark:Bool) (n:Option Nd) (R:List (Cn × ByteArray)) (tail:ByteArray) (o:Int) (w:World) (ht:Tabs w) (hr:TrAt w enc n R) (h0:0<=enc) (h3:enc<=3) (hl:(rowB R).length<=1099511627776) :
  Calls Tryz.prog 43 #[.agg #[.int .i64 enc,.bool mark,trv n,.string tail],.int .i64 o] w fun e w'=>e=.returned (.tuple #[(plV (rowA enc R) o).1.val,.int .i64 (plV (rowA enc R) o).2])/\Below w.heap.size w w':=by
 have hmo:Tryz.prog.follows Departure.mixedOrders=true:=by kernel_rfl
 have HC:=Z1 (fun w1 (h:TrAt w1 enc n R)=>h.counts)
 have H1:=Z1 (PlR.start enc mark n R tail o w ht hr)
 clear ht hr
 obtain⟨V,hV⟩:∃V,V=plV (rowA enc R) o:=⟨_,rfl⟩
 rw[<-hV]
 have HV:=Z1 hV
 clear hV
 simp only[cnOf,Cn.val] at HC ⊢
 generalize hA1:Vm.bytesA (rowA enc R)=a1 at *
 have HA1:=Z1 hA1
 clear hA1
 go_enter Tryz.func43,Tryz.ntmps43
 go_wp2_with fail
 have fb:=field_bytes
 generalize (((w.alloc (.cells #[.int .i64 enc,.bool mark,trv n,.string tail] 53)).alloc (.cells #[.int .i64 o] 3)).alloc (.cells #[.int .i64 0,.int .i64 0,.int .i64 0,.int .i64 0,.int .i64 0,.int .i64 0,.int .i64 0,.int .i64 0] 68))=W1 at *
 have q0:∀x:Bl W1,x.val.cell? ⟨w.heap.size,0,none⟩=some (.int .i64 enc):=fun x=>(H1.out.step x.2).at_.1
 have q2:∀x:Bl W1,x.val.cell? ⟨w.heap.size,2,none⟩=some (trv n):=fun x=>(H1.out.step x.2).at_.2
 have qo:∀x:Bl W1,x.val.cell? ⟨w.heap.size+1,0,none⟩=some (.int .i64 o):=fun x=>(H1.out.step x.2).o
 have HCX:=Z1 (fun (x:Bl W1)=>HC.out _ (H1.out.step x.2).tr)
 by_cases hneg:o<0
 ·refine wp_region_bl hmo (by kernel_rfl) ?_
  repeat (go_big_quiet_step (refine Calls.bl_of (HCX.out _)))
  refine wpQuiet_nil ?_
  intro _ hw'
  obtain⟨x5,hx5⟩:=hw'
  subst hx5
  have H5:=Z1 (H1.out.step x5.2)
  clear q0 q2 qo HCX
  obtain⟨y0,y1,y2,y3,y4,y5,y6,y7,yf⟩:=H5.out.r
  have yz:=Z3 y0
  go_wp2_with fail
  refine bodyPost_ret (v:=.tuple #[.agg #[.int .i64 0,.int .i64 0,.int .i64 0,.int .i64 0,.int .i64 0,.int .i64 0,.int .i64 0,.int .i64 0],.int .i64 2]) (by simp [results,Tryz.results43,go_sem,y0,y1,y2,y3,y4,y5,y6,y7]) rfl ⟨?_,?_⟩
  ·rw[HV.out]
   unfold plV
   rw[if_pos (.inl hneg)]
   rfl
  ·exact low8 H5.out.low (by omega) _ _ _ _ _ _ _ _
 ·by_cases hgt:(a1:Int)<o
  ·refine wp_region_bl hmo (by kernel_rfl) ?_
   repeat (go_big_quiet_step (refine Calls.bl_of (HCX.out _)))
   refine wpQuiet_nil ?_
   intro _ hw'
   obtain⟨x5,hx5⟩:=hw'
   subst hx5
   have H5:=Z1 (H1.out.step x5.2)
   clear q0 q2 qo HCX
   obtain⟨y0,y1,y2,y3,y4,y5,y6,y7,yf⟩:=H5.out.r
   have yz:=Z3 y0
   go_wp2_with fail
   refine bodyPost_ret (v:=.tuple #[.agg #[.int .i64 0,.int .i64 0,.int .i64 0,.int .i64 0,.int .i64 0,.int .i64 0,.int .i64 0,.int .i64 0],.int .i64 2]) (by simp [results,Tryz.results43,go_sem,y0,y1,y2,y3,y4,y5,y6,y7]) rfl ⟨?_,?_⟩
   ·rw[HV.out]
    unfold plV
    rw[if_pos (.inr (by rw[HA1.out];exact hgt))]
    rfl
   ·exact low8 H5.out.low (by omega) _ _ _ _ _ _ _ _
  ·refine wp_region_bl hmo (by kernel_rfl) ?_
   repeat (go_big_quiet_step (refine Calls.bl_of (HCX.out _)))
   refine wpQuiet_nil ?_
   intro _ hw'
   obtain⟨x5,hx5⟩:=hw'
   subst hx5
   have H5:=Z1 (H1.out.step x5.2)
   clear q0 q2 qo HCX
   obtain⟨q0,q2⟩:=H5.out.at_
   have qz:=Z3 q0
   have HX:=Z1 (tahead_any enc n R _ _ _ x5.val H5.out.tabs H5.out.tr h0 h3 hl (fits_place (w.heap.size+1) o x5.val H5.out.o) (Vm.mono_bytes _ _))
   rw[aheadC_pl] at HX
   generalize hk:(rowA enc R).take (Vm.plK (rowA enc R) o)=P at *
   have HK:=Z1 hk
   clear hk
   simp only[cnOf,Cn.val] at HX
   go_upto_region 3 with fail
   go_cut [6] from 7 to 29 (fun s6 wx=>∃M,s6=.pointer (some ⟨M,0,none⟩)/\PlR w enc mark n R tail o wx/\CnAt wx M (cnOf P)/\w.heap.size+1+1<M)
   case first =>
    go_wp2_with fail
    refine HX.out.mono ?_
    rintro e w6 ⟨rfl,hb6⟩
    go_wp2_with fail
    go_meet
    exact⟨_,rfl,(H5.out.step hb6).step ((Below.refl _ _).alloc (Nat.le_refl _) _),cn_new w6 (cnOf P) _,Z3 (H5.out.step hb6).r.c0⟩
   case rest =>
    obtain⟨M,rfl,hI,hM,hMz⟩:=hcut
    have H6:=Z1 hI
    clear hI HX q0 q2 qz H5
    obtain⟨y0,y1,y2,y3,y4,y5,y6,y7,yf⟩:=H6.out.r
    have yz:=Z3 y0
    have q1:=H6.out.o
    have qz:=Z3 q1
    obtain⟨m0,m1,m2,m3,m4,m5,m6,m7,_⟩:=hM
    have mz:=Z3 m0
    simp only[cnOf] at m0 m1 m2 m3 m4 m5 m6 m7
    by_cases hin:(Vm.bytesA P:Int)<o
    ·go_wp2_with fail
     refine bodyPost_ret (v:=.tuple #[.agg #[.int .i64 0,.int .i64 0,.int .i64 0,.int .i64 0,.int .i64 0,.int .i64 0,.int .i64 0,.int .i64 0],.int .i64 3]) (by simp [results,Tryz.results43,go_sem,y0,y1,y2,y3,y4,y5,y6,y7]) rfl ⟨?_,?_⟩
     ·rw[HV.out]
      unfold plV
      rw[if_neg (by rw[HA1.out];omega),if_pos (by rw[HK.out];exact hin)]
      rfl
     ·exact low8 H6.out.low (by omega) _ _ _ _ _ _ _ _
    ·go_wp2_with fail
     refine bodyPost_ret (v:=.tuple #[.agg #[.int .i64 (Vm.sizeA P),.int .i64 (Vm.bytesA P),.int .i64 P.length,.int .i64 (Vm.unitsA P),.int .i64 (Vm.cntK P 4),.int .i64 (Vm.cntK P 0),.int .i64 (Vm.cntK P 1),.int .i64 (Vm.cntK P 2)],.int .i64 0]) (by simp [results,Tryz.results43,go_sem,y0,y1,y2,y3,y4,y5,y6,y7]) rfl ⟨?_,?_⟩
     ·rw[HV.out]
      unfold plV
      rw[if_neg (by rw[HA1.out];omega),if_neg (by rw[HK.out];omega),HK.out]
      rfl
     ·exact low8 H6.out.low (by omega) _ _ _ _ _ _ _ _
end Go.Proofs.YtoejbngihecafabGreatDoor
namespace Go.Proofs.YtoejbngihecafabGreatDoor
open Go.RowKit
end Go.Proofs.YtoejbngihecafabGreatDoor
namespace Go.Proofs.YtoejbngihecafabGreatDoor
open Go.RowKit
end Go.Proofs.YtoejbngihecafabGreatDoor
namespace Go.Proofs.YtoejbngihecafabGreatDoor
open Go.RowKit
end Go.Proofs.YtoejbngihecafabGreatDoor
