import Derived.Deep.CutRange
import Derived.Test.YtoejbngihecafaaGreatDoorC22
import Derived.Test.YtoejbngihecafaaGreatDoorC4
import Derived.Test.YtoejbngihecafaaGreatDoorC21
import Derived.Test.YtoejbngihecafaaGreatDoorC20
import Derived.Test.YtoejbngihecafaaGreatDoorC0
set_option maxRecDepth 100000
set_option maxHeartbeats 1000000
open Go.Proofs.Tryz
namespace Go.Proofs.YtoejbngihecafaaGreatDoor
open Go.RowKit
variable {w0 w:World} {enc:Int} {mark:Bool} {n:Option Nd} {R:List (Cn × ByteArray)} {tail:ByteArray}
theorem QkI (q:Nat) (o:Int) (w:World) (hq:w.cell? ⟨q,0,none⟩=some (.int .i64 o)):Fits w 129 #[.pointer (some ⟨q,0,none⟩)] (fun c=>decide ((c.bytes:Int)<=o)):=by
 refine⟨fun args W=>enters_of func129 (by kernel_rfl) rfl args W,fun c W hW hsm=>?_⟩;have hq':W.cell? ⟨q,0,none⟩=some (.int .i64 o):=(hW.cell (p:=⟨q,0,none⟩) (Z3 hq)).trans hq;have hz:=Z3 hq';clear hW hq;show Calls prog 129 #[c.val,.pointer (some ⟨q,0,none⟩)] W _;simp only[Cn.val];go_enter func129,ntmps129;go_wp2_with fail;go_ret;exact⟨rfl,Z7 _ _⟩
theorem Qkr (q:Nat) (n:Int) (w:World) (hq:w.cell? ⟨q,0,none⟩=some (.int .i64 n)):Fits w 155 #[.pointer (some ⟨q,0,none⟩)] (fun c=>decide ((Vm.lnC c:Int)<n)):=by
 refine⟨fun args W=>enters_of func155 (by kernel_rfl) rfl args W,fun c W hW hsm=>?_⟩;have hq':W.cell? ⟨q,0,none⟩=some (.int .i64 n):=(hW.cell (p:=⟨q,0,none⟩) (Z3 hq)).trans hq;have hz:=Z3 hq';clear hW hq;show Calls prog 155 #[c.val,.pointer (some ⟨q,0,none⟩)] W _;have HL:=Z1 (fun w1=>Qa3 c w1 hsm);simp only[Cn.val] at HL ⊢;go_enter func155,ntmps155;go_wp2_with fail;have hmo:prog.follows Departure.mixedOrders=true:=by kernel_rfl
 have hba:Below W.heap.size W (W.alloc (.cells #[.int .i64 c.body,.int .i64 c.bytes,.int .i64 c.chars,.int .i64 c.units,.int .i64 c.esc,.int .i64 c.lf,.int .i64 c.crlf,.int .i64 c.cr] 119)):=Z7 _ _;have hc:=QeN W c 119;have kq:=(hba.cell (p:=⟨q,0,none⟩) (Z3 hq')).trans hq';generalize (W.alloc (.cells #[.int .i64 c.body,.int .i64 c.bytes,.int .i64 c.chars,.int .i64 c.units,.int .i64 c.esc,.int .i64 c.lf,.int .i64 c.crlf,.int .i64 c.cr] 119))=W1 at *;have c0:∀x:Bl W1,x.val.cell? ⟨W.heap.size,0,none⟩=some (.int .i64 c.body):=fun x=>(hc.below x.2).c0;have c1:∀x:Bl W1,x.val.cell? ⟨W.heap.size,1,none⟩=some (.int .i64 c.bytes):=fun x=>(hc.below x.2).c1;have c2:∀x:Bl W1,x.val.cell? ⟨W.heap.size,2,none⟩=some (.int .i64 c.chars):=fun x=>(hc.below x.2).c2;have c3:∀x:Bl W1,x.val.cell? ⟨W.heap.size,3,none⟩=some (.int .i64 c.units):=fun x=>(hc.below x.2).c3;have c4:∀x:Bl W1,x.val.cell? ⟨W.heap.size,4,none⟩=some (.int .i64 c.esc):=fun x=>(hc.below x.2).c4;have c5:∀x:Bl W1,x.val.cell? ⟨W.heap.size,5,none⟩=some (.int .i64 c.lf):=fun x=>(hc.below x.2).c5;have c6:∀x:Bl W1,x.val.cell? ⟨W.heap.size,6,none⟩=some (.int .i64 c.crlf):=fun x=>(hc.below x.2).c6;have c7:∀x:Bl W1,x.val.cell? ⟨W.heap.size,7,none⟩=some (.int .i64 c.cr):=fun x=>(hc.below x.2).c7;have mq:∀x:Bl W1,x.val.cell? ⟨q,0,none⟩=some (.int .i64 n):=fun x=>(x.2.cell (p:=⟨q,0,none⟩) (Z3 kq)).trans kq;have HB:=Z1 hba;clear hba hc kq hq';refine Qai hmo (by kernel_rfl) ?_
 repeat (go_big_quiet_step (refine Calls.bl_of (HL.o _)))
 refine wpQuiet_nil ?_;intro _ hw';obtain⟨x5,hx5⟩:=hw';subst hx5;go_wp2_with fail;go_ret;exact⟨rfl,HB.o.trans (x5.2.mono HB.o.size)⟩
theorem Qnu (q1 q2 q3:Nat) (line b col:Int) (w:World) (h1:w.cell? ⟨q1,0,none⟩=some (.int .i64 line)) (h2:w.cell? ⟨q2,0,none⟩=some (.int .i64 b)) (h3:w.cell? ⟨q3,0,none⟩=some (.int .i64 col)) (hb0:0<=b) (hb1:b<=1152921504606846976):Fits w 168 #[.pointer (some ⟨q1,0,none⟩),.pointer (some ⟨q2,0,none⟩),.pointer (some ⟨q3,0,none⟩)] (fun c=>decide ((Vm.lnC c:Int)<=line)&&decide ((c.units:Int) - b<=col)):=by
 refine⟨fun args W=>enters_of func168 (by kernel_rfl) rfl args W,fun c W hW hsm=>?_⟩;have g1:W.cell? ⟨q1,0,none⟩=some (.int .i64 line):=(hW.cell (p:=⟨q1,0,none⟩) (Z3 h1)).trans h1;have g2:W.cell? ⟨q2,0,none⟩=some (.int .i64 b):=(hW.cell (p:=⟨q2,0,none⟩) (Z3 h2)).trans h2;have g3:W.cell? ⟨q3,0,none⟩=some (.int .i64 col):=(hW.cell (p:=⟨q3,0,none⟩) (Z3 h3)).trans h3;have z1:=Z3 g1;have z2:=Z3 g2;have z3:=Z3 g3;clear hW h1 h2 h3;show Calls prog 168 #[c.val,.pointer (some ⟨q1,0,none⟩),.pointer (some ⟨q2,0,none⟩),.pointer (some ⟨q3,0,none⟩)] W _;have HL:=Z1 (fun w1=>Qa3 c w1 hsm);have hu:=hsm.h3;have hwr:IntKind.i64.wrap ((c.units:Int) - b)=(c.units:Int) - b:=by rw[IntKind.wrap_i64];omega
 have hln:Vm.lnC c=c.lf+c.crlf+c.cr:=rfl;rw[hln];generalize hN:c.lf+c.crlf+c.cr=N at *;have HNN:=Z1 hN;clear hln hN;simp only[Cn.val] at HL ⊢;go_enter func168,ntmps168;go_wp2_with fail;have hmo:prog.follows Departure.mixedOrders=true:=by kernel_rfl
 have hba:Below W.heap.size W (W.alloc (.cells #[.int .i64 c.body,.int .i64 c.bytes,.int .i64 c.chars,.int .i64 c.units,.int .i64 c.esc,.int .i64 c.lf,.int .i64 c.crlf,.int .i64 c.cr] 119)):=Z7 _ _;have hc:=QeN W c 119;have kq1:=(hba.cell (p:=⟨q1,0,none⟩) (Z3 g1)).trans g1;have kq2:=(hba.cell (p:=⟨q2,0,none⟩) (Z3 g2)).trans g2;have kq3:=(hba.cell (p:=⟨q3,0,none⟩) (Z3 g3)).trans g3;generalize (W.alloc (.cells #[.int .i64 c.body,.int .i64 c.bytes,.int .i64 c.chars,.int .i64 c.units,.int .i64 c.esc,.int .i64 c.lf,.int .i64 c.crlf,.int .i64 c.cr] 119))=W1 at *;have c0:∀x:Bl W1,x.val.cell? ⟨W.heap.size,0,none⟩=some (.int .i64 c.body):=fun x=>(hc.below x.2).c0;have c1:∀x:Bl W1,x.val.cell? ⟨W.heap.size,1,none⟩=some (.int .i64 c.bytes):=fun x=>(hc.below x.2).c1;have c2:∀x:Bl W1,x.val.cell? ⟨W.heap.size,2,none⟩=some (.int .i64 c.chars):=fun x=>(hc.below x.2).c2;have c3:∀x:Bl W1,x.val.cell? ⟨W.heap.size,3,none⟩=some (.int .i64 c.units):=fun x=>(hc.below x.2).c3;have c4:∀x:Bl W1,x.val.cell? ⟨W.heap.size,4,none⟩=some (.int .i64 c.esc):=fun x=>(hc.below x.2).c4;have c5:∀x:Bl W1,x.val.cell? ⟨W.heap.size,5,none⟩=some (.int .i64 c.lf):=fun x=>(hc.below x.2).c5;have c6:∀x:Bl W1,x.val.cell? ⟨W.heap.size,6,none⟩=some (.int .i64 c.crlf):=fun x=>(hc.below x.2).c6;have c7:∀x:Bl W1,x.val.cell? ⟨W.heap.size,7,none⟩=some (.int .i64 c.cr):=fun x=>(hc.below x.2).c7;have mq1:∀x:Bl W1,x.val.cell? ⟨q1,0,none⟩=some (.int .i64 line):=fun x=>(x.2.cell (p:=⟨q1,0,none⟩) (Z3 kq1)).trans kq1;have mq2:∀x:Bl W1,x.val.cell? ⟨q2,0,none⟩=some (.int .i64 b):=fun x=>(x.2.cell (p:=⟨q2,0,none⟩) (Z3 kq2)).trans kq2;have mq3:∀x:Bl W1,x.val.cell? ⟨q3,0,none⟩=some (.int .i64 col):=fun x=>(x.2.cell (p:=⟨q3,0,none⟩) (Z3 kq3)).trans kq3;have HB:=Z1 hba;clear hba hc kq1 kq2 kq3 g1 g2 g3;by_cases hle:(N:Int)<=line
 ·refine Qai hmo (by kernel_rfl) ?_
  repeat (go_big_quiet_step (refine Calls.bl_of (HL.o _)))
  refine wpQuiet_nil ?_;intro _ hw';obtain⟨x5,hx5⟩:=hw';subst hx5;go_wp2_with fail;go_ret;exact⟨by simp [hle],HB.o.trans (x5.2.mono HB.o.size)⟩
 refine Qai hmo (by kernel_rfl) ?_
 repeat (go_big_quiet_step (refine Calls.bl_of (HL.o _)))
 refine wpQuiet_nil ?_;intro _ hw';obtain⟨x5,hx5⟩:=hw';subst hx5;go_wp2_with fail;go_ret;exact⟨by simp;omega,HB.o.trans (x5.2.mono HB.o.size)⟩
theorem Qdn (v0 v1 v2 v3 v4 v5 v6 v7:Value) (w:World):(Instr.field 119 (.agg #[v0,v1,v2,v3,v4,v5,v6,v7]) 1).run prog w=.ok v1 w:=by kernel_rfl
def plV (A:List Vm.At) (o:Int):Cn × Int:=if o<0\/(Vm.bytesA A:Int)<o then (cn0,2) else if (Vm.bytesA (A.take (Vm.plK A o)):Int)<o then (cn0,3) else (cnOf (A.take (Vm.plK A o)),0)
theorem QmD (A:List Vm.At) (o:Int):aheadC (fun c=>decide ((c.bytes:Int)<=o)) cn0 A=cnOf (A.take (Vm.plK A o)):=by
 unfold aheadC Vm.plK;rw[QaW]
structure PlR (w0:World) (enc:Int) (mark:Bool) (n:Option Nd) (R:List (Cn × ByteArray)) (tail:ByteArray) (o:Int) (w:World):Prop where
 c:w.heap[w0.heap.size]?=some (.cells #[.int .i64 enc,.bool mark,trv n,.string tail] 91)
 o:w.cell? ⟨w0.heap.size+1,0,none⟩=some (.int .i64 o)
 r:CnAt w (w0.heap.size+1+1) cn0
 tabs:Tabs w
 tr:TrAt w enc n R
 low:Below w0.heap.size w0 w
theorem PlR.step {o:Int} {w':World} (h:PlR w0 enc mark n R tail o w) (hb:Below w.heap.size w w'):PlR w0 enc mark n R tail o w' :=
 ⟨(hb.block _ (Z4 h.c)).trans h.c,(hb.cell (p:=⟨w0.heap.size+1,0,none⟩) (Z3 h.o)).trans h.o,h.r.below hb,h.tabs.below hb,h.tr.low hb,h.low.trans (hb.mono h.low.size)⟩
theorem PlR.at_ {o:Int} (h:PlR w0 enc mark n R tail o w):w.cell? ⟨w0.heap.size,0,none⟩=some (.int .i64 enc)/\w.cell? ⟨w0.heap.size,2,none⟩=some (trv n) :=
 ⟨by rw[Lib.cell_of_heap h.c];rfl,by rw[Lib.cell_of_heap h.c];rfl⟩
theorem PlR.start (enc:Int) (mark:Bool) (n:Option Nd) (R:List (Cn × ByteArray)) (tail:ByteArray) (o:Int) (w:World) (ht:Tabs w) (hr:TrAt w enc n R):PlR w enc mark n R tail o (((w.alloc (.cells #[.int .i64 enc,.bool mark,trv n,.string tail] 91)).alloc (.cells #[.int .i64 o] 3)).alloc (.cells #[.int .i64 0,.int .i64 0,.int .i64 0,.int .i64 0,.int .i64 0,.int .i64 0,.int .i64 0,.int .i64 0] 119)):=by
 have hb:Below w.heap.size w (((w.alloc (.cells #[.int .i64 enc,.bool mark,trv n,.string tail] 91)).alloc (.cells #[.int .i64 o] 3)).alloc (.cells #[.int .i64 0,.int .i64 0,.int .i64 0,.int .i64 0,.int .i64 0,.int .i64 0,.int .i64 0,.int .i64 0] 119)):=((Z7 _ _).alloc (by simp) _).alloc (by simp;omega) _;refine⟨?_,?_,?_,ht.below hb,hr.low hb,hb⟩
 ·rw[Below.heap_alloc _ _ _ (by simp;omega),Below.heap_alloc _ _ _ (by simp)];exact Go.Deep.blk_alloc_new _ _
 ·simp [go_sem]
 have:=CnAt.new ((w.alloc (.cells #[.int .i64 enc,.bool mark,trv n,.string tail] 91)).alloc (.cells #[.int .i64 o] 3)) 119;rw[World.size_alloc,World.size_alloc] at this;exact this
theorem Qfl (enc:Int) (mark:Bool) (n:Option Nd) (R:List (Cn × ByteArray)) (tail:ByteArray) (o:Int) (w:World) (ht:Tabs w) (hr:TrAt w enc n R) (h0:0<=enc) (h3:enc<=3) (hl:(rowB R).length<=1099511627776) :
  Calls prog 91 #[.agg #[.int .i64 enc,.bool mark,trv n,.string tail],.int .i64 o] w fun e w'=>e=.returned (.tuple #[(plV (rowA enc R) o).1.val,.int .i64 (plV (rowA enc R) o).2])/\Below w.heap.size w w':=by
 have hmo:prog.follows Departure.mixedOrders=true:=by kernel_rfl
 have HC:=Z1 (fun w1 (h:TrAt w1 enc n R)=>h.counts)
 have H1:=Z1 (PlR.start enc mark n R tail o w ht hr)
 clear ht hr
 obtain⟨V,hV⟩:∃V,V=plV (rowA enc R) o:=⟨_,rfl⟩
 rw[<-hV]
 have HV:=Z1 hV
 clear hV
 simp only[cnOf,Cn.val] at HC ⊢
 generalize hA1:Vm.bytesA (rowA enc R)=a1 at *
 have HA1:=Z1 hA1
 clear hA1
 go_enter func91,ntmps91
 go_wp2_with fail
 have fb:=Qdn
 generalize (((w.alloc (.cells #[.int .i64 enc,.bool mark,trv n,.string tail] 91)).alloc (.cells #[.int .i64 o] 3)).alloc (.cells #[.int .i64 0,.int .i64 0,.int .i64 0,.int .i64 0,.int .i64 0,.int .i64 0,.int .i64 0,.int .i64 0] 119))=W1 at *
 have q0:∀x:Bl W1,x.val.cell? ⟨w.heap.size,0,none⟩=some (.int .i64 enc):=fun x=>(H1.o.step x.2).at_.1
 have q2:∀x:Bl W1,x.val.cell? ⟨w.heap.size,2,none⟩=some (trv n):=fun x=>(H1.o.step x.2).at_.2
 have qo:∀x:Bl W1,x.val.cell? ⟨w.heap.size+1,0,none⟩=some (.int .i64 o):=fun x=>(H1.o.step x.2).o
 have HCX:=Z1 (fun (x:Bl W1)=>HC.o _ (H1.o.step x.2).tr)
 by_cases hneg:o<0
 ·refine Qai hmo (by kernel_rfl) ?_
  repeat (go_big_quiet_step (refine Calls.bl_of (HCX.o _)))
  refine wpQuiet_nil ?_;intro _ hw';obtain⟨x5,hx5⟩:=hw';subst hx5;have H5:=Z1 (H1.o.step x5.2);clear q0 q2 qo HCX;obtain⟨y0,y1,y2,y3,y4,y5,y6,y7,yf⟩:=H5.o.r;have yz:=Z3 y0;go_wp2_with fail;refine bodyPost_ret (v:=.tuple #[.agg #[.int .i64 0,.int .i64 0,.int .i64 0,.int .i64 0,.int .i64 0,.int .i64 0,.int .i64 0,.int .i64 0],.int .i64 2]) (by simp [results,Tryz.results91,go_sem,y0,y1,y2,y3,y4,y5,y6,y7]) rfl ⟨?_,?_⟩
  ·rw[HV.o];unfold plV;rw[if_pos (.inl hneg)];rfl
  exact low8 H5.o.low (by omega) _ _ _ _ _ _ _ _
 by_cases hgt:(a1:Int)<o
 ·refine Qai hmo (by kernel_rfl) ?_
  repeat (go_big_quiet_step (refine Calls.bl_of (HCX.o _)))
  refine wpQuiet_nil ?_;intro _ hw';obtain⟨x5,hx5⟩:=hw';subst hx5;have H5:=Z1 (H1.o.step x5.2);clear q0 q2 qo HCX;obtain⟨y0,y1,y2,y3,y4,y5,y6,y7,yf⟩:=H5.o.r;have yz:=Z3 y0;go_wp2_with fail;refine bodyPost_ret (v:=.tuple #[.agg #[.int .i64 0,.int .i64 0,.int .i64 0,.int .i64 0,.int .i64 0,.int .i64 0,.int .i64 0,.int .i64 0],.int .i64 2]) (by simp [results,Tryz.results91,go_sem,y0,y1,y2,y3,y4,y5,y6,y7]) rfl ⟨?_,?_⟩
  ·rw[HV.o];unfold plV;rw[if_pos (.inr (by rw[HA1.o];exact hgt))];rfl
  exact low8 H5.o.low (by omega) _ _ _ _ _ _ _ _
 refine Qai hmo (by kernel_rfl) ?_
 repeat (go_big_quiet_step (refine Calls.bl_of (HCX.o _)))
 refine wpQuiet_nil ?_
 intro _ hw'
 obtain⟨x5,hx5⟩:=hw'
 subst hx5
 have H5:=Z1 (H1.o.step x5.2)
 clear q0 q2 qo HCX
 obtain⟨q0,q2⟩:=H5.o.at_
 have qz:=Z3 q0
 have HX:=Z1 (QeD enc n R _ _ _ x5.val H5.o.tabs H5.o.tr h0 h3 hl (QkI (w.heap.size+1) o x5.val H5.o.o) (Vm.QkO _ _))
 rw[QmD] at HX
 generalize hk:(rowA enc R).take (Vm.plK (rowA enc R) o)=P at *
 have HK:=Z1 hk
 clear hk
 simp only[cnOf,Cn.val] at HX
 go_upto_region 3 with fail
 go_cut [6] from 7 to 29 (fun s6 wx=>∃M,s6=.pointer (some ⟨M,0,none⟩)/\PlR w enc mark n R tail o wx/\CnAt wx M (cnOf P)/\w.heap.size+1+1<M)
 case first =>
  go_wp2_with fail;refine HX.o.mono ?_;rintro e w6 ⟨rfl,hb6⟩;go_wp2_with fail;go_meet;exact⟨_,rfl,(H5.o.step hb6).step (Z7 _ _),QeN w6 (cnOf P) _,Z3 (H5.o.step hb6).r.c0⟩
 case rest =>
  obtain⟨M,rfl,hI,hM,hMz⟩:=hcut;have H6:=Z1 hI;clear hI HX q0 q2 qz H5;obtain⟨y0,y1,y2,y3,y4,y5,y6,y7,yf⟩:=H6.o.r;have yz:=Z3 y0;have q1:=H6.o.o;have qz:=Z3 q1;obtain⟨m0,m1,m2,m3,m4,m5,m6,m7,_⟩:=hM;have mz:=Z3 m0;simp only[cnOf] at m0 m1 m2 m3 m4 m5 m6 m7;by_cases hin:(Vm.bytesA P:Int)<o
  ·go_wp2_with fail;refine bodyPost_ret (v:=.tuple #[.agg #[.int .i64 0,.int .i64 0,.int .i64 0,.int .i64 0,.int .i64 0,.int .i64 0,.int .i64 0,.int .i64 0],.int .i64 3]) (by simp [results,Tryz.results91,go_sem,y0,y1,y2,y3,y4,y5,y6,y7]) rfl ⟨?_,?_⟩
   ·rw[HV.o];unfold plV;rw[if_neg (by rw[HA1.o];omega),if_pos (by rw[HK.o];exact hin)];rfl
   exact low8 H6.o.low (by omega) _ _ _ _ _ _ _ _
  go_wp2_with fail;refine bodyPost_ret (v:=.tuple #[.agg #[.int .i64 (Vm.sizeA P),.int .i64 (Vm.bytesA P),.int .i64 P.length,.int .i64 (Vm.unitsA P),.int .i64 (Vm.cntK P 4),.int .i64 (Vm.cntK P 0),.int .i64 (Vm.cntK P 1),.int .i64 (Vm.cntK P 2)],.int .i64 0]) (by simp [results,Tryz.results91,go_sem,y0,y1,y2,y3,y4,y5,y6,y7]) rfl ⟨?_,?_⟩
  ·rw[HV.o];unfold plV;rw[if_neg (by rw[HA1.o];omega),if_neg (by rw[HK.o];omega),HK.o];rfl
  exact low8 H6.o.low (by omega) _ _ _ _ _ _ _ _
theorem QhO (A:List Vm.At) (n:Int):aheadC (fun c=>decide ((Vm.lnC c:Int)<n)) cn0 A=cnOf (A.take (Vm.begK A n)):=by
 unfold aheadC Vm.begK;rw[QaW]
theorem QkA (A:List Vm.At) (line col:Int):aheadC (fun c=>decide ((Vm.lnC c:Int)<=line)&&decide ((c.units:Int) - (Vm.begA A line:Int)<=col)) cn0 A=cnOf (A.take (Vm.offK A line col)):=by
 unfold aheadC Vm.offK;rw[QaW]
theorem QiM (v0 v1 v2 v3 v4 v5 v6 v7:Value) (w:World):(Instr.field 119 (.agg #[v0,v1,v2,v3,v4,v5,v6,v7]) 3).run prog w=.ok v3 w:=by kernel_rfl
theorem Qek (A:List Vm.At) (k:Nat) (h:A.length<=1099511627776):Vm.unitsA (A.take k)<=2199023255552:=by
 have h1:=Vm.Qc4 (A.take k);have h2:(A.take k).length<=A.length:=List.length_take_le' _ _;omega
theorem Qdh (enc:Int) (mark:Bool) (n:Option Nd) (R:List (Cn × ByteArray)) (tail:ByteArray) (line:Int) (w:World) (ht:Tabs w) (hr:TrAt w enc n R) (h0:0<=enc) (h3:enc<=3) (hl:(rowB R).length<=1099511627776) :
  Calls prog 130 #[.agg #[.int .i64 enc,.bool mark,trv n,.string tail],.int .i64 line] w fun e w'=>e=.returned (.int .i64 (Vm.begA (rowA enc R) line))/\Below w.heap.size w w':=by
 have hsz:=Qae hr.ok
 have hlen:=Vm.Qau (Qa4 enc R)
 have hu:=Qek (rowA enc R) (Vm.begK (rowA enc R) line) (by omega)
 have hb0:Below w.heap.size w ((w.alloc (.cells #[.int .i64 enc,.bool mark,trv n,.string tail] 91)).alloc (.cells #[.int .i64 line] 3)):=(Z7 _ _).alloc (by simp) _
 have hq:((w.alloc (.cells #[.int .i64 enc,.bool mark,trv n,.string tail] 91)).alloc (.cells #[.int .i64 line] 3)).cell? ⟨w.heap.size+1,0,none⟩=some (.int .i64 line):=by simp [go_sem]
 have HX:=Z1 (QeD enc n R _ _ _ _ (ht.below hb0) (hr.low hb0) h0 h3 hl (Qkr (w.heap.size+1) line _ hq) (Vm.Qks (Qa4 enc R) line))
 have HB0:=Z1 hb0
 have fu:=QiM
 rw[QhO] at HX
 clear hr ht hb0 hq hsz hlen
 unfold Vm.begA
 generalize (rowA enc R).take (Vm.begK (rowA enc R) line)=P at *
 simp only[cnOf,Cn.val] at HX
 by_cases hz:line=0
 ·rw[if_pos hz];subst hz;go_enter func130,ntmps130;go_wp2_with fail;go_ret;exact⟨rfl,HB0.o⟩
 rw[if_neg hz]
 have hw1:IntKind.i64.wrap ((Vm.unitsA P:Int)+1)=((Vm.unitsA P+1:Nat):Int):=by rw[IntKind.wrap_i64];omega
 go_enter func130,ntmps130
 go_wp2_with fail
 refine HX.o.mono ?_
 rintro e w6 ⟨rfl,hb6⟩
 have HB6:=Z1 (HB0.o.trans (hb6.mono HB0.o.size))
 clear hb6 HX
 go_wp2_with fail
 go_ret
 exact⟨rfl,HB6.o.alloc HB6.o.size _⟩
theorem Qid (enc:Int) (mark:Bool) (n:Option Nd) (R:List (Cn × ByteArray)) (tail:ByteArray) (c:Cn) (w:World) (ht:Tabs w) (hr:TrAt w enc n R) (h0:0<=enc) (h3:enc<=3) (hl:(rowB R).length<=1099511627776) (hc:c.Small) :
  Calls prog 92 #[.agg #[.int .i64 enc,.bool mark,trv n,.string tail],c.val] w fun e w'=>e=.returned (.tuple #[.int .i64 (Vm.lnC c),.int .i64 ((c.units:Int) - (Vm.begA (rowA enc R) (Vm.lnC c):Int))])/\Below w.heap.size w w':=by
 have hmo:prog.follows Departure.mixedOrders=true:=by kernel_rfl
 have hsz:=Qae hr.ok
 have hlen:=Vm.Qau (Qa4 enc R)
 have hu:Vm.begA (rowA enc R) (Vm.lnC c)<=2199023255553:=by
  have:=Qek (rowA enc R) (Vm.begK (rowA enc R) (Vm.lnC c)) (by omega);unfold Vm.begA;split<;>omega
 have hcu:=hc.h3
 have HL:=Z1 (fun w1=>Qa3 c w1 hc)
 have hb0:Below w.heap.size w ((w.alloc (.cells #[.int .i64 enc,.bool mark,trv n,.string tail] 91)).alloc (.cells #[.int .i64 c.body,.int .i64 c.bytes,.int .i64 c.chars,.int .i64 c.units,.int .i64 c.esc,.int .i64 c.lf,.int .i64 c.crlf,.int .i64 c.cr] 119)):=(Z7 _ _).alloc (by simp) _
 have HB0:=Z1 hb0
 have HR:=Z1 hr
 have HT:=Z1 ht
 have hln:Vm.lnC c=c.lf+c.crlf+c.cr:=rfl
 rw[hln] at hu ⊢
 generalize hN:c.lf+c.crlf+c.cr=N at *
 have HU:=Z1 (fun w1 (h1:Tabs w1) (h2:TrAt w1 enc n R)=>Qdh enc mark n R tail N w1 h1 h2 h0 h3 hl)
 clear hr ht hb0 hln hN hsz hlen
 generalize Vm.begA (rowA enc R) (N:Int)=bg at *
 have hwr:IntKind.i64.wrap ((c.units:Int) - (bg:Int))=(c.units:Int) - (bg:Int):=by rw[IntKind.wrap_i64];omega
 simp only[Cn.val] at HL ⊢
 go_enter func92,ntmps92
 go_wp2_with fail
 refine (HL.o _).mono ?_
 rintro e w1 ⟨rfl,hb1⟩
 have HB1:=Z1 (HB0.o.trans (hb1.mono HB0.o.size))
 have k0:w1.heap[w.heap.size]?=some (.cells #[.int .i64 enc,.bool mark,trv n,.string tail] 91):=by
  rw[hb1.block _ (by simp;omega),Below.heap_alloc _ _ _ (by simp)];exact Go.Deep.blk_alloc_new _ _
 have k1:CnAt w1 (w.heap.size+1) c:=by
  have:=(QeN (w.alloc (.cells #[.int .i64 enc,.bool mark,trv n,.string tail] 91)) c 119).below hb1;rwa [World.size_alloc] at this
 clear hb1 HL
 have q0:∀x:Bl w1,x.val.cell? ⟨w.heap.size,0,none⟩=some (.int .i64 enc):=fun x=>by rw[Lib.cell_of_heap ((x.2.block _ (Z4 k0)).trans k0)];rfl
 have q1:∀x:Bl w1,x.val.cell? ⟨w.heap.size,1,none⟩=some (.bool mark):=fun x=>by rw[Lib.cell_of_heap ((x.2.block _ (Z4 k0)).trans k0)];rfl
 have q2:∀x:Bl w1,x.val.cell? ⟨w.heap.size,2,none⟩=some (trv n):=fun x=>by rw[Lib.cell_of_heap ((x.2.block _ (Z4 k0)).trans k0)];rfl
 have q3:∀x:Bl w1,x.val.cell? ⟨w.heap.size,3,none⟩=some (.string tail):=fun x=>by rw[Lib.cell_of_heap ((x.2.block _ (Z4 k0)).trans k0)];rfl
 have u3:∀x:Bl w1,x.val.cell? ⟨w.heap.size+1,3,none⟩=some (.int .i64 c.units):=fun x=>(k1.below x.2).c3
 have HUX:=Z1 (fun (x:Bl w1)=>HU.o x.val (HT.o.below (HB1.o.trans (x.2.mono HB1.o.size))) (HR.o.low (HB1.o.trans (x.2.mono HB1.o.size))))
 clear HU k0 k1
 go_wp2_with fail
 refine Qai hmo (by kernel_rfl) ?_
 repeat (go_big_quiet_step (refine Calls.bl_of (HUX.o _)))
 refine wpQuiet_nil ?_
 intro _ hw'
 obtain⟨x5,hx5⟩:=hw'
 subst hx5
 go_wp2_with fail
 go_ret2
 exact⟨rfl,HB1.o.trans (x5.2.mono HB1.o.size)⟩
theorem QkT (enc:Int) (mark:Bool) (n:Option Nd) (R:List (Cn × ByteArray)) (tail:ByteArray) (line col:Int) (w:World) (ht:Tabs w) (hr:TrAt w enc n R) (h0:0<=enc) (h3:enc<=3) (hl:(rowB R).length<=1099511627776) :
  Calls prog 147 #[.agg #[.int .i64 enc,.bool mark,trv n,.string tail],.int .i64 line,.int .i64 col] w fun e w'=>e=.returned (.int .i64 (Vm.bytesA ((rowA enc R).take (Vm.offK (rowA enc R) line col))))/\Below w.heap.size w w':=by
 have hsz:=Qae hr.ok
 have hlen:=Vm.Qau (Qa4 enc R)
 have hu:Vm.begA (rowA enc R) line<=2199023255553:=by
  have:=Qek (rowA enc R) (Vm.begK (rowA enc R) line) (by omega);unfold Vm.begA;split<;>omega
 have HU:=Z1 (fun w1 (h1:Tabs w1) (h2:TrAt w1 enc n R)=>Qdh enc mark n R tail line w1 h1 h2 h0 h3 hl)
 have HX:=Z1 (fun w1 (h1:Tabs w1) (h2:TrAt w1 enc n R) q1 q2 q3 g1 g2 g3=>QeD enc n R _ _ _ w1 h1 h2 h0 h3 hl (Qnu q1 q2 q3 line (Vm.begA (rowA enc R) line) col w1 g1 g2 g3 (by omega) (by omega)) (Vm.Qno (Qa4 enc R) line (Vm.begA (rowA enc R) line) col))
 rw[QkA] at HX
 generalize (rowA enc R).take (Vm.offK (rowA enc R) line col)=P at *
 generalize Vm.begA (rowA enc R) line=bg at *
 simp only[cnOf,Cn.val] at HX
 have HT:=Z1 ht
 have HR:=Z1 hr
 have fb:=Qdn
 clear hr ht hsz hlen
 go_enter func147,ntmps147
 go_wp2_with fail
 have hb0:Below w.heap.size w (((w.alloc (.cells #[.int .i64 enc,.bool mark,trv n,.string tail] 91)).alloc (.cells #[.int .i64 line] 3)).alloc (.cells #[.int .i64 col] 3)):=((Z7 _ _).alloc (by simp) _).alloc (by simp;omega) _
 have c0:(((w.alloc (.cells #[.int .i64 enc,.bool mark,trv n,.string tail] 91)).alloc (.cells #[.int .i64 line] 3)).alloc (.cells #[.int .i64 col] 3)).cell? ⟨w.heap.size,0,none⟩=some (.int .i64 enc):=by simp [go_sem]
 have c2:(((w.alloc (.cells #[.int .i64 enc,.bool mark,trv n,.string tail] 91)).alloc (.cells #[.int .i64 line] 3)).alloc (.cells #[.int .i64 col] 3)).cell? ⟨w.heap.size,2,none⟩=some (trv n):=by simp [go_sem]
 have cl:(((w.alloc (.cells #[.int .i64 enc,.bool mark,trv n,.string tail] 91)).alloc (.cells #[.int .i64 line] 3)).alloc (.cells #[.int .i64 col] 3)).cell? ⟨w.heap.size+1,0,none⟩=some (.int .i64 line):=by simp [go_sem]
 have cc:(((w.alloc (.cells #[.int .i64 enc,.bool mark,trv n,.string tail] 91)).alloc (.cells #[.int .i64 line] 3)).alloc (.cells #[.int .i64 col] 3)).cell? ⟨w.heap.size+1+1,0,none⟩=some (.int .i64 col):=by simp [go_sem]
 refine (HU.o _ (HT.o.below hb0) (HR.o.low hb0)).mono ?_
 rintro e w1 ⟨rfl,hb1⟩
 have d0:=(hb1.cell (p:=⟨w.heap.size,0,none⟩) (Z3 c0)).trans c0
 have d2:=(hb1.cell (p:=⟨w.heap.size,2,none⟩) (Z3 c2)).trans c2
 have dl:=(hb1.cell (p:=⟨w.heap.size+1,0,none⟩) (Z3 cl)).trans cl
 have dc:=(hb1.cell (p:=⟨w.heap.size+1+1,0,none⟩) (Z3 cc)).trans cc
 have HB1:=Z1 (hb0.trans (hb1.mono hb0.size))
 clear hb0 hb1 c0 c2 cl cc HU
 have z0:=Z3 d0
 have zc:=Z3 dc
 have hbb:=Z7 w1 (.cells #[.int .i64 bg] 3)
 have e1:=(hbb.cell (p:=⟨w.heap.size+1,0,none⟩) (Z3 dl)).trans dl
 have e3:=(hbb.cell (p:=⟨w.heap.size+1+1,0,none⟩) (Z3 dc)).trans dc
 have e2:(w1.alloc (.cells #[.int .i64 bg] 3)).cell? ⟨w1.heap.size,0,none⟩=some (.int .i64 bg):=by simp [go_sem]
 have HB2:=Z1 (HB1.o.trans (hbb.mono HB1.o.size))
 have HY:=Z1 (HX.o _ (HT.o.below HB2.o) (HR.o.low HB2.o) _ _ _ e1 e2 e3)
 clear e1 e2 e3 hbb HX
 go_wp2_with fail
 refine HY.o.mono ?_
 rintro e w6 ⟨rfl,hb6⟩
 have HB6:=Z1 (HB2.o.trans (hb6.mono HB2.o.size))
 clear hb6 HY d0 d2 dl dc
 go_wp2_with fail
 go_ret
 exact⟨rfl,HB6.o⟩
theorem docPosition (p:Nat) (enc:Int) (mark:Bool) (body:ByteArray) (o:Int) (w:World) (ht:Tabs w) (hd:DD w p enc mark body) :
  Calls prog 58 #[.pointer (some ⟨p,0,none⟩),.int .i64 o] w fun e w'=>e=.returned (.tuple #[.int .i64 (Vm.posV (Vm.atoms enc body.data.toList) o).1,.int .i64 (Vm.posV (Vm.atoms enc body.data.toList) o).2.1,.int .i64 (Vm.posV (Vm.atoms enc body.data.toList) o).2.2])/\Below w.heap.size w w':=by
 have hmo:prog.follows Departure.mixedOrders=true:=by kernel_rfl
 obtain⟨n,R,tail,h⟩:=hd
 have hl:=h.lens
 have hs:=h.size
 have hsz:=Qae h.tr.ok
 rw[h.atoms]
 have hA:=Qa4 enc R
 have HD:=Z1 (⟨ht,h,Below.refl _ _⟩:DcR w p enc mark body n R tail w)
 have HP:=Z1 (fun w1 (hq:DcR w p enc mark body n R tail w1)=>Qfl enc mark n R tail o w1 hq.tabs hq.doc.tr h.h0 h.h3 (by omega))
 have HQ:=Z1 (fun c (hc:c.Small) w1 (hq:DcR w p enc mark body n R tail w1)=>Qid enc mark n R tail c w1 hq.tabs hq.doc.tr h.h0 h.h3 (by omega) hc)
 have hlen:=Vm.Qau hA
 have hall:(cnOf (rowA enc R)).Small:=Qbr (by omega) (by omega)
 clear h ht hl hs
 generalize rowA enc R=A at *
 obtain⟨p0,p1,p2,p3,_⟩:=QaF HD.o
 have hz:=Z3 p0
 unfold Vm.posV
 by_cases h1:o<0\/(Vm.bytesA A:Int)<o
 ·rw[if_pos h1];have hv:plV A o=(cn0,2):=by unfold plV;rw[if_pos h1]
  rw[hv] at HP;simp only[cn0,Cn.val] at HP;clear HQ;go_enter func58,ntmps58;go_wp2_with fail;refine (HP.o _ HD.o).mono ?_;rintro e w1 ⟨rfl,hb1⟩;go_wp2_with fail;refine bodyPost_ret (v:=.tuple #[.int .i64 0,.int .i64 0,.int .i64 2]) (by simp [results,Tryz.results58,go_sem]) rfl ⟨rfl,hb1.alloc hb1.size _⟩
 rw[if_neg h1]
 by_cases h2:(Vm.bytesA (A.take (Vm.plK A o)):Int)<o
 ·rw[if_pos h2];have hv:plV A o=(cn0,3):=by unfold plV;rw[if_neg h1,if_pos h2]
  rw[hv] at HP;simp only[cn0,Cn.val] at HP;clear HQ;go_enter func58,ntmps58;go_wp2_with fail;refine (HP.o _ HD.o).mono ?_;rintro e w1 ⟨rfl,hb1⟩;go_wp2_with fail;refine bodyPost_ret (v:=.tuple #[.int .i64 0,.int .i64 0,.int .i64 3]) (by simp [results,Tryz.results58,go_sem]) rfl ⟨rfl,hb1.alloc hb1.size _⟩
 rw[if_neg h2]
 have hv:plV A o=(cnOf (A.take (Vm.plK A o)),0):=by unfold plV;rw[if_neg h1,if_neg h2]
 rw[hv] at HP
 have hk:=(Vm.Qc7 A o (by omega)).1
 have hU:=Vm.QbW hA _ hk
 have hL:=Vm.Qdc A hA (Vm.plK A o)
 have hsm:(cnOf (A.take (Vm.plK A o))).Small:=by
  have h:=hall;rw[<-List.take_append_drop (Vm.plK A o) A,Qa2] at h;exact h.left
 generalize A.take (Vm.plK A o)=P at *
 have HQ1:=Z1 (HQ.o (cnOf P) hsm)
 rw[hL] at HQ1
 have hcol:((cnOf P).units:Int) - (Vm.begA A (Vm.linesA P):Int)=(Vm.colA P:Int):=by show (Vm.unitsA P:Int) - _=_;omega
 rw[hcol] at HQ1
 simp only[cnOf,Cn.val] at HP HQ1
 clear HQ hcol hL hU hsm hv
 go_enter func58,ntmps58
 go_wp2_with fail
 refine (HP.o _ HD.o).mono ?_
 rintro e w1 ⟨rfl,hb1⟩
 have hba:=Z7 w1 (.cells #[.int .i64 (Vm.sizeA P),.int .i64 (Vm.bytesA P),.int .i64 P.length,.int .i64 (Vm.unitsA P),.int .i64 (Vm.cntK P 4),.int .i64 (Vm.cntK P 0),.int .i64 (Vm.cntK P 1),.int .i64 (Vm.cntK P 2)] 119)
 have H2:=Z1 ((HD.o.step hb1).step hba)
 obtain⟨e0,e1,e2,e3,_⟩:=QaF (HD.o.step hb1)
 have ez:=Z3 e0
 clear p0 p1 p2 p3 hb1 hba HP
 go_wp2_with fail
 have hcn:=QeN w1 (cnOf P) 119
 simp only[cnOf] at hcn
 generalize w1.alloc (.cells #[.int .i64 (Vm.sizeA P),.int .i64 (Vm.bytesA P),.int .i64 P.length,.int .i64 (Vm.unitsA P),.int .i64 (Vm.cntK P 4),.int .i64 (Vm.cntK P 0),.int .i64 (Vm.cntK P 1),.int .i64 (Vm.cntK P 2)] 119)=W2 at *
 have q0:∀x:Bl W2,x.val.cell? ⟨p,0,none⟩=some (.int .i64 enc):=fun x=>(QaF (H2.o.step x.2)).1
 have q1:∀x:Bl W2,x.val.cell? ⟨p,1,none⟩=some (.bool mark):=fun x=>(QaF (H2.o.step x.2)).2.1
 have q2:∀x:Bl W2,x.val.cell? ⟨p,2,none⟩=some (trv n):=fun x=>(QaF (H2.o.step x.2)).2.2.1
 have q3:∀x:Bl W2,x.val.cell? ⟨p,3,none⟩=some (.string tail):=fun x=>(QaF (H2.o.step x.2)).2.2.2.1
 have c0:∀x:Bl W2,x.val.cell? ⟨w1.heap.size,0,none⟩=some (.int .i64 (Vm.sizeA P)):=fun x=>(hcn.below x.2).c0
 have c1:∀x:Bl W2,x.val.cell? ⟨w1.heap.size,1,none⟩=some (.int .i64 (Vm.bytesA P)):=fun x=>(hcn.below x.2).c1
 have c2:∀x:Bl W2,x.val.cell? ⟨w1.heap.size,2,none⟩=some (.int .i64 (P.length)):=fun x=>(hcn.below x.2).c2
 have c3:∀x:Bl W2,x.val.cell? ⟨w1.heap.size,3,none⟩=some (.int .i64 (Vm.unitsA P)):=fun x=>(hcn.below x.2).c3
 have c4:∀x:Bl W2,x.val.cell? ⟨w1.heap.size,4,none⟩=some (.int .i64 (Vm.cntK P 4)):=fun x=>(hcn.below x.2).c4
 have c5:∀x:Bl W2,x.val.cell? ⟨w1.heap.size,5,none⟩=some (.int .i64 (Vm.cntK P 0)):=fun x=>(hcn.below x.2).c5
 have c6:∀x:Bl W2,x.val.cell? ⟨w1.heap.size,6,none⟩=some (.int .i64 (Vm.cntK P 1)):=fun x=>(hcn.below x.2).c6
 have c7:∀x:Bl W2,x.val.cell? ⟨w1.heap.size,7,none⟩=some (.int .i64 (Vm.cntK P 2)):=fun x=>(hcn.below x.2).c7
 have HQX:=Z1 (fun (x:Bl W2)=>HQ1.o x.val (H2.o.step x.2))
 clear HQ1 hcn e0 e1 e2 e3
 refine Qai hmo (by kernel_rfl) ?_
 repeat (go_big_quiet_step (refine Calls.bl_of (HQX.o _)))
 refine wpQuiet_nil ?_
 intro _ hw'
 obtain⟨x5,hx5⟩:=hw'
 subst hx5
 have HL:=Z1 (H2.o.step x5.2).low
 clear q0 q1 q2 q3 c0 c1 c2 c3 c4 c5 c6 c7
 go_wp2_with fail
 refine bodyPost_ret (v:=.tuple #[.int .i64 (Vm.linesA P),.int .i64 (Vm.colA P),.int .i64 0]) (by simp [results,Tryz.results58,go_sem]) rfl ⟨rfl,HL.o⟩
theorem docOffset (p:Nat) (enc:Int) (mark:Bool) (body:ByteArray) (line col:Int) (w:World) (ht:Tabs w) (hd:DD w p enc mark body) :
  Calls prog 118 #[.pointer (some ⟨p,0,none⟩),.int .i64 line,.int .i64 col] w fun e w'=>e=.returned (.tuple #[.int .i64 (Vm.offV (Vm.atoms enc body.data.toList) line col).1,.int .i64 (Vm.offV (Vm.atoms enc body.data.toList) line col).2])/\Below w.heap.size w w':=by
 obtain⟨n,R,tail,h⟩:=hd
 have hl:=h.lens
 have hs:=h.size
 have hsz:=Qae h.tr.ok
 rw[h.atoms]
 have hA:=Qa4 enc R
 have HD:=Z1 (⟨ht,h,Below.refl _ _⟩:DcR w p enc mark body n R tail w)
 have HO:=Z1 (fun w1 (hq:DcR w p enc mark body n R tail w1)=>QkT enc mark n R tail line col w1 hq.tabs hq.doc.tr h.h0 h.h3 (by omega))
 have HC:=Z1 (fun w1 (hq:DcR w p enc mark body n R tail w1)=>hq.doc.tr.counts)
 have hlen:=Vm.Qau hA
 have hall:(cnOf (rowA enc R)).Small:=Qbr (by omega) (by omega)
 have HL:=Z1 (fun w1=>Qa3 (cnOf (rowA enc R)) w1 hall)
 have hln:=Vm.Qei (rowA enc R) hA
 have hle:(cnOf (rowA enc R)).lf+(cnOf (rowA enc R)).crlf+(cnOf (rowA enc R)).cr=Vm.linesA (rowA enc R):=hln.symm
 rw[hle] at HL
 clear h ht hl hs hsz hlen hall hln hle
 generalize rowA enc R=A at *
 unfold Vm.offV
 generalize Vm.linesA A=N at *
 generalize A.take (Vm.offK A line col)=P at *
 simp only[cnOf,Cn.val] at HC HL
 obtain⟨p0,p1,p2,p3,_⟩:=QaF HD.o
 have hz:=Z3 p0
 by_cases h1:line<0
 ·rw[if_pos (.inl h1)];go_enter func118,ntmps118;go_wp2_with fail;go_ret2;exact⟨rfl,Below.refl _ _⟩
 by_cases h2:(N:Int)<line
 ·rw[if_pos (.inr h2)];go_enter func118,ntmps118;go_wp2_with fail;refine (HC.o _ HD.o).mono ?_;rintro e w1 ⟨rfl,hb1⟩;have H1:=Z1 (HD.o.step hb1);clear hb1 p0 p1 p2 p3 HC HD;obtain⟨p0,p1,p2,p3,_⟩:=QaF H1.o;have hz1:=Z3 p0;go_wp2_with fail;refine (HL.o _).mono ?_;rintro e w2 ⟨rfl,hb2⟩;have H2:=Z1 (H1.o.step hb2);clear hb2 p0 p1 p2 p3 HL H1;obtain⟨p0,p1,p2,p3,_⟩:=QaF H2.o;have hz2:=Z3 p0;go_wp2_with fail;go_ret2;exact⟨rfl,H2.o.low⟩
 rw[if_neg (by omega)]
 by_cases h3:col<0
 ·rw[if_pos h3];go_enter func118,ntmps118;go_wp2_with fail;refine (HC.o _ HD.o).mono ?_;rintro e w1 ⟨rfl,hb1⟩;have H1:=Z1 (HD.o.step hb1);clear hb1 p0 p1 p2 p3 HC HD;obtain⟨p0,p1,p2,p3,_⟩:=QaF H1.o;have hz1:=Z3 p0;go_wp2_with fail;refine (HL.o _).mono ?_;rintro e w2 ⟨rfl,hb2⟩;have H2:=Z1 (H1.o.step hb2);clear hb2 p0 p1 p2 p3 HL H1;obtain⟨p0,p1,p2,p3,_⟩:=QaF H2.o;have hz2:=Z3 p0;go_wp2_with fail;go_ret2;exact⟨rfl,H2.o.low⟩
 rw[if_neg h3]
 go_enter func118,ntmps118
 go_wp2_with fail
 refine (HC.o _ HD.o).mono ?_
 rintro e w1 ⟨rfl,hb1⟩
 have H1:=Z1 (HD.o.step hb1)
 clear hb1 p0 p1 p2 p3 HC HD
 obtain⟨p0,p1,p2,p3,_⟩:=QaF H1.o
 have hz1:=Z3 p0
 go_wp2_with fail
 refine (HL.o _).mono ?_
 rintro e w2 ⟨rfl,hb2⟩
 have H2:=Z1 (H1.o.step hb2)
 clear hb2 p0 p1 p2 p3 HL H1
 obtain⟨p0,p1,p2,p3,_⟩:=QaF H2.o
 have hz2:=Z3 p0
 go_wp2_with fail
 refine (HO.o _ H2.o).mono ?_
 rintro e w3 ⟨rfl,hb3⟩
 have HB3:=Z1 (H2.o.step hb3).low
 clear hb3 p0 p1 p2 p3 HO
 go_wp2_with fail
 go_ret2
 exact⟨rfl,HB3.o⟩
end Go.Proofs.YtoejbngihecafaaGreatDoor
