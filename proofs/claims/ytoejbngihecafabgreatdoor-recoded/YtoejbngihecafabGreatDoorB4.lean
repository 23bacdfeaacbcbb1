import Derived.Deep.CutRange
import Derived.BigQuiet
import Derived.Test.YtoejbngihecafabGreatDoorB3
set_option maxRecDepth 100000
set_option maxHeartbeats 400000
namespace Vm
def pick (c n:Int):Int:=(if c<0 then -(c+1) else c)%n
theorem pick_bd (c n:Int) (h:0<n):0<=pick c n/\pick c n<n:=⟨Int.emod_nonneg _ (by omega),Int.emod_lt_of_pos _ h⟩
end Vm
namespace Go.Proofs.YtoejbngihecafabGreatDoor
open Go.RowKit
theorem wraps_i64x (n:Int) (h₀:0<=n) (h₁:n<2 ^ 62):IntKind.i64.wrap n=n:=by rw[IntKind.wrap_i64];omega
theorem i64_and63 (x:Int) (h₀:0<=x) (h₁:x<=2097151):bits .and .i64 x 63=x%64:=bits_mask .i64 62 (by decide) wraps_i64x 6 (by decide) x h₀ (by omega)
theorem i64_or (i:Nat) (x y:Int) (h0:0<=x) (h1:x%2 ^ i=0) (h2:x<=4294967296) (h3:0<=y) (h4:y<2 ^ i) (h5:y<=4294967296):bits .or .i64 x y=x+y :=
 bits_join .i64 62 (by decide) wraps_i64x i x y h0 h1 (by omega) h3 h4 (by omega)
theorem nums_eq {a b:List Int} (h:a=b):Ending.returned (.string (strOfNums a))=.returned (.string (strOfNums b)):=by rw[h]
theorem low6 (x:Int) (h0:0<=x) (h1:x<=2097151):bits .or .i64 128 (bits .and .i64 x 63)%256=128+x%64:=by
 rw[i64_and63 x h0 h1,i64_or 6 128 (x%64) (by decide) (by decide) (by decide) (by omega) (by omega) (by omega)];omega
theorem kutf_any (n:Int) (w:World) (h0:0<=n) (hx:n<=2097151) :
  Calls Tryz.prog 18 #[.int .i64 n] w fun e w'=>e=.returned (.string (strOfNums (Vm.utfL n)))/\Below w.heap.size w w':=by
 have k1:=conv1
 have k2:=conv2
 have k3:=conv3
 have k4:=conv4
 by_cases h1:n<128
 ·go_enter Tryz.func18,Tryz.ntmps18
  go_wp2
  go_ret
  exact⟨ret_str (by unfold Vm.utfL;rw[if_pos h1]),(Below.refl _ _).alloc (Nat.le_refl _) _⟩
 ·by_cases h2:n<2048
  ·have e:Vm.utfL n=[192+n / 64,128+n%64]:=by unfold Vm.utfL;rw[if_neg h1,if_pos h2]
   rw[e];clear e
   go_enter Tryz.func18,Tryz.ntmps18
   go_wp2
   go_ret
   refine⟨nums_eq ?_,(Below.refl _ _).alloc (Nat.le_refl _) _⟩
   rw[low6 n h0 hx,i64_or 5 192 (n / 64) (by decide) (by decide) (by decide) (by omega) (by omega) (by omega)]
   congr 1;omega
  ·by_cases h3:n<65536
   ·have e:Vm.utfL n=[224+n / 4096,128+n / 64%64,128+n%64]:=by unfold Vm.utfL;rw[if_neg h1,if_neg h2,if_pos h3]
    rw[e];clear e
    go_enter Tryz.func18,Tryz.ntmps18
    go_wp2
    go_ret
    refine⟨nums_eq ?_,(Below.refl _ _).alloc (Nat.le_refl _) _⟩
    rw[low6 n h0 hx,low6 (n / 64) (by omega) (by omega),i64_or 4 224 (n / 4096) (by decide) (by decide) (by decide) (by omega) (by omega) (by omega)]
    congr 1;omega
   ·have e:Vm.utfL n=[240+n / 262144,128+n / 4096%64,128+n / 64%64,128+n%64]:=by unfold Vm.utfL;rw[if_neg h1,if_neg h2,if_neg h3]
    rw[e];clear e
    go_enter Tryz.func18,Tryz.ntmps18
    go_wp2
    go_ret
    refine⟨nums_eq ?_,(Below.refl _ _).alloc (Nat.le_refl _) _⟩
    rw[low6 n h0 hx,low6 (n / 64) (by omega) (by omega),low6 (n / 4096) (by omega) (by omega),i64_or 3 240 (n / 262144) (by decide) (by decide) (by decide) (by omega) (by omega) (by omega)]
    congr 1;omega
theorem emod_tmod (c n:Int) (h:0<=c):c.tmod n=c%n:=Int.tmod_eq_emod_of_nonneg h
theorem kpick_any (c n:Int) (w:World) (h1:-9223372036854775808<=c) (h2:c<=9223372036854775807) (hn:0<n) (hx:n<=9223372036854775807) :
  Calls Tryz.prog 4 #[.int .i64 c,.int .i64 n] w fun e w'=>e=.returned (.int .i64 (Vm.pick c n))/\w'=w:=by
 have hb:=Vm.pick_bd c n hn
 have hn0:¬n=0:=by omega
 by_cases h:c<0
 ·have e:Vm.pick c n=(-(c+1)).tmod n:=by unfold Vm.pick;rw[if_pos h,emod_tmod _ _ (by omega)]
  have e2:(-(c+1)).tmod n = -((c+1).tmod n):=Int.neg_tmod _ _
  rw[e,e2] at hb ⊢;clear e e2
  go_enter Tryz.func4,Tryz.ntmps4
  go_wp2
  go_ret
  exact⟨rfl,rfl⟩
 ·have e:Vm.pick c n=c%n:=by unfold Vm.pick;rw[if_neg h]
  rw[e] at hb ⊢;clear e
  go_enter Tryz.func4,Tryz.ntmps4
  go_wp2
  go_ret
  exact⟨rfl,rfl⟩
end Go.Proofs.YtoejbngihecafabGreatDoor
namespace Go.Proofs.YtoejbngihecafabGreatDoor
open Go.RowKit
end Go.Proofs.YtoejbngihecafabGreatDoor
namespace Go.Proofs.YtoejbngihecafabGreatDoor
open Go.RowKit
def shown (enc:Int) (mark:Bool) (body:ByteArray):Value :=
 .agg #[.int .i64 enc,.bool mark,.int .i64 (Vm.bytesA (Vm.atoms enc body.data.toList)),.int .i64 (Vm.atoms enc body.data.toList).length,.int .i64 (Vm.unitsA (Vm.atoms enc body.data.toList)),
  .int .i64 ((Vm.linesA (Vm.atoms enc body.data.toList):Int)+1),.int .i64 (Vm.cntK (Vm.atoms enc body.data.toList) 4),.bool (decide (Vm.sizeA (Vm.atoms enc body.data.toList)<body.size)),
  .int .i64 (Vm.endingOf (Vm.cntK (Vm.atoms enc body.data.toList) 0) (Vm.cntK (Vm.atoms enc body.data.toList) 1) (Vm.cntK (Vm.atoms enc body.data.toList) 2))]
def ex1:ByteArray:=⟨#[97,13,10,98,255,99,13]⟩
theorem ex1_enc:encOf ex1 0=0:=by decide
theorem ex1_mark:ofMark ex1 0=false:=by decide
theorem ex1_body:ofBody ex1 0=ex1:=by unfold ofBody;rw[ex1_mark];rfl
theorem ex1_atoms:Vm.atoms 0 ex1.data.toList=[(3,97,1),(1,10,2),(3,98,1),(4,65533,1),(3,99,1),(2,10,1)]:=by decide
theorem ex1_text:strOfNums (Vm.textL (Vm.atoms 0 ex1.data.toList))=⟨#[97,10,98,239,191,189,99,10]⟩:=by rw[ex1_atoms];decide
theorem ex1_save:bytesOf 0 false ex1=ex1:=rfl
theorem ex1_shown:shown 0 false ex1=.agg #[.int .i64 0,.bool false,.int .i64 8,.int .i64 6,.int .i64 6,.int .i64 3,.int .i64 1,.bool false,.int .i64 1]:=by
 unfold shown;rw[ex1_atoms];rfl
variable {T:World->Prop} {D:World->Nat->Int->Bool->ByteArray->Prop}
end Go.Proofs.YtoejbngihecafabGreatDoor
namespace Go.Proofs.YtoejbngihecafabGreatDoor
open Go.RowKit
def Bl (w:World):Type:={w':World // Below w.heap.size w w'}
instance (w:World):Nonempty (Bl w):=⟨⟨w,Below.refl _ _⟩⟩
theorem wp_region_bl {P:Program} {id:Nat} {Q:Exit->Act->World->Prop} {a:Act} {w:World} {l:List Oper} (hm:P.follows .mixedOrders=true) (hB:Region.lexB .any l.toArray=true)
  (h:wpQuiet P l.toArray (fun w'=>∃x:Bl w,w'=x.val) (fun a'=>∀w',(∃x:Bl w,w'=x.val)->Q .normal a' w') l a):(Code.region id l.toArray true).wp P Q a w :=
 wp_region_quiet (C:=fun w'=>∃x:Bl w,w'=x.val) hm hB ⟨⟨w.drew,(Below.refl _ _).drew⟩,rfl⟩ (by simpa using h)
theorem Calls.bl_of {P:Program} {f:FuncId} {args:Array Value} {w:World} {x:Bl w} {v:Value}
  (h:Calls P f args x.val fun e w'=>e=.returned v/\Below x.val.heap.size x.val w'):Calls P f args x.val fun e w''=>e=.returned v/\∃y:Bl w,w''=y.val :=
 h.mono fun _ w' ⟨he,hm⟩=>⟨he,⟨w',x.2.trans (hm.mono x.2.size)⟩,rfl⟩
end Go.Proofs.YtoejbngihecafabGreatDoor
namespace Go.Proofs.YtoejbngihecafabGreatDoor
open Go.RowKit
def IntsAt (w:World) (v:Value) (zs:List Int):Prop:=(v=.slice none 0 0/\zs=[])\/∃(a:Addr) (cap:Nat),v=.slice (some a) zs.length cap/\(∀i,i<zs.length->w.cell? (a.add i)=some (.int .i64 (zs.getD i 0)))
theorem cell_lt {w:World} {a:Addr} {v:Value} (h:w.cell? a=some v):a.block<w.heap.size:=by
 unfold World.cell? at h
 by_cases hb:a.block<w.heap.size
 ·exact hb
 ·rw[Array.getElem?_eq_none (by omega)] at h;cases h
theorem IntsAt.val {w:World} {v:Value} {zs:List Int} (h:IntsAt w v zs):∃p cap,v=.slice p zs.length cap:=by
 rcases h with ⟨rfl,rfl⟩|⟨a,cap,rfl,_⟩
 ·exact⟨none,0,rfl⟩
 ·exact⟨_,cap,rfl⟩
theorem IntsAt.at_ {w:World} {p:Option Addr} {n cap:Nat} {zs:List Int} (h:IntsAt w (.slice p n cap) zs) (i:Nat) (hi:i<zs.length):∃a,p=some a/\w.cell? (a.add i)=some (.int .i64 (zs.getD i 0)):=by
 rcases h with ⟨hv,rfl⟩|⟨a,cap',hv,hc⟩
 ·simp at hi
 ·injection hv with h1 h2 h3
  exact⟨a,h1,hc i hi⟩
theorem IntsAt.low {w w':World} {v:Value} {zs:List Int} (h:IntsAt w v zs) (hb:Below w.heap.size w w'):IntsAt w' v zs:=by
 rcases h with ⟨rfl,rfl⟩|⟨a,cap,rfl,hc⟩
 ·exact .inl ⟨rfl,rfl⟩
 ·exact .inr ⟨a,cap,rfl,fun i hi=>(hb.cell (p:=a.add i) (cell_lt (hc i hi))).trans (hc i hi)⟩
end Go.Proofs.YtoejbngihecafabGreatDoor
