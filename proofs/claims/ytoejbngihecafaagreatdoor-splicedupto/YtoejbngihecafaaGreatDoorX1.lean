import Derived.Test.YtoejbngihecafaaGreatDoorB4
import Derived.Test.YtoejbngihecafaaGreatDoorB7
import Derived.Test.YtoejbngihecafaaGreatDoorB32
import Derived.Test.YtoejbngihecafaaGreatDoorB45
import Derived.Test.YtoejbngihecafaaGreatDoorB46
import Derived.Test.YtoejbngihecafaaGreatDoorB48
set_option maxRecDepth 100000
set_option maxHeartbeats 1000000
namespace Vm
end Vm
namespace Go.Proofs.YtoejbngihecafaaGreatDoor
open Go.RowKit
end Go.Proofs.YtoejbngihecafaaGreatDoor
namespace Go.Proofs.YtoejbngihecafaaGreatDoor
open Go.RowKit
end Go.Proofs.YtoejbngihecafaaGreatDoor
namespace Go.Proofs.YtoejbngihecafaaGreatDoor
open Go.RowKit
variable {T:World->Prop} {D:World->Nat->Int->Bool->ByteArray->Prop}
end Go.Proofs.YtoejbngihecafaaGreatDoor
namespace Go.Proofs.YtoejbngihecafaaGreatDoor
open Go.RowKit
end Go.Proofs.YtoejbngihecafaaGreatDoor
namespace Go.Proofs.YtoejbngihecafaaGreatDoor
open Go.RowKit
theorem ext_take (r:ByteArray) (n:Nat):(r.extract 0 n).data.toList=r.data.toList.take n:=by
 rw[ByteArray.data_extract,Array.toList_extract,List.extract_eq_take_drop,List.drop_zero,Nat.sub_zero]
end Go.Proofs.YtoejbngihecafaaGreatDoor
set_option maxRecDepth 100000
set_option maxHeartbeats 200000
namespace Go.Proofs.YtoejbngihecafaaGreatDoor
open Go.RowKit
end Go.Proofs.YtoejbngihecafaaGreatDoor
namespace Go.Proofs.YtoejbngihecafaaGreatDoor.fin
open Go.ChangeShapes Go.WideShapes Go.ChangeAt Go.RowKit
end Go.Proofs.YtoejbngihecafaaGreatDoor.fin
namespace Go.Proofs.YtoejbngihecafaaGreatDoor
open Go.ChangeShapes Go.WideShapes Go.ChangeAt Go.RowKit
theorem arg_ints {H:Type} {enc:TypeId × Value->H} {P:Program} {W:World} {base:Nat} {t e:TypeId} {v:Value} {d:DataW H} {ps:List MemPlace} (ht:P.underlying t=some (.slice e)) (he:P.underlying e=some (.int .i64)) (hc:P.cellsOf e=1) (hval:Value.okWide P W .any base t v) (hd:DataW.Trod enc P W 0 (fun _=>true) true t v d ps) :
  ∃zs:List Int,IntsAt W v zs/\(∀z∈zs,(Lit.int .i64 z).wf=true)/\zs.length<=Rows.uptoBulk d/\(∀W',Below W.heap.size W W'->∀sp:Nat->Bool,(∀p∈ps,sp p.block=true)->DataW.Trod enc P W' 0 sp true t v d ps):=by
 obtain⟨a0,len0,cap0,rfl⟩:=okWide_slice ht hval
 obtain⟨fuel,hf⟩:=hd
 rcases open_ints ht he hc hf with ⟨hcs,hx⟩|⟨a,len,cap,zs,hcs,hb,hl,hm,hz,hx,hcell,hw⟩
 ·simp [Value.cells] at hcs
  obtain⟨rfl,rfl,rfl⟩:=hcs
  injection hx with hx1 hx2
  subst hx1 hx2
  refine⟨[],.inl ⟨rfl,rfl⟩,fun z hz=>(by cases hz),Nat.zero_le _,fun W' _ sp _=>⟨1,?_⟩⟩
  rw[DataW.trod_step]
  unfold DataW.trodStep
  simp [ht,Value.cells]
 ·simp [Value.cells] at hcs
  obtain⟨rfl,rfl,rfl⟩:=hcs
  injection hx with hx1 hx2
  subst hx1 hx2
  simp only[if_true] at hz
  have htl:(zs.take len0).length=len0:=by rw[List.length_take];omega
  refine⟨zs.take len0,.inr ⟨a,cap0,by rw[htl],fun i hi=>?_⟩,fun z hz'=>hw z (List.mem_of_mem_take hz'),?_,fun W' hbl sp hsp=>⟨2,?_⟩⟩
  ·rw[htl] at hi
   rw[hcell i (by omega)]
   simp [List.getD,hi]
  ·simp only[Rows.uptoBulk]
   have:=bulk_lits (H:=H) (zs.take len0)
   omega
  ·have hs:DataW.trod enc P W' 0 sp true (0+2) t [.slice (some a) len0 cap0]=some (.slice (lits .i64 (zs.take len0)) (lits .i64 (zs.drop len0)),MemPlace.row a zs.length):=by
    refine shut_ints 0 ht he hc hb hl hm ?_ (fun i hi=>(hbl.cell (p:=a.add i) (cell_lt (hcell i hi))).trans (hcell i hi)) hw
    by_cases h0:zs.length=0
    ·have:cap0=0:=by omega
     split<;>omega
    ·have hsa:sp a.block=true:=hsp (.cell a.block (a.off+0)) (List.mem_map.2 ⟨0,List.mem_range.2 (by omega),rfl⟩)
     rw[hsa];simpa using hz
   simpa [Value.cells] using hs
end Go.Proofs.YtoejbngihecafaaGreatDoor
namespace Go.Proofs.YtoejbngihecafaaGreatDoor
theorem Kp.L_len (k:Kp):k.L.length=k.body.size:=rfl
end Go.Proofs.YtoejbngihecafaaGreatDoor
set_option maxRecDepth 100000
set_option maxHeartbeats 2000000
namespace Go.Proofs.YtoejbngihecafaaGreatDoor
open Go.RowKit
variable {T:World->Prop} {D:World->Nat->Int->Bool->ByteArray->Prop}
end Go.Proofs.YtoejbngihecafaaGreatDoor
namespace Go.Proofs.YtoejbngihecafaaGreatDoor
open Go.RowKit
variable {T:World->Prop} {D:World->Nat->Int->Bool->ByteArray->Prop}
end Go.Proofs.YtoejbngihecafaaGreatDoor
namespace Go.Proofs.YtoejbngihecafaaGreatDoor
open Go.RowKit
theorem rplV_at {A:List Vm.At} {k:Nat} {o:Int} (hk:k<=A.length) (ho:(Vm.bytesA (A.take k):Int)=o):rplV A o=((k:Int),0):=by
 subst ho
 have h1:Vm.plK A (Vm.bytesA (A.take k))=k:=Vm.plK_eq hk (Int.le_refl _) (fun hl=>by have:=Vm.bytesA_lt A k (k+1) (by omega) hl;omega)
 have h2:Vm.bytesA (A.take k)<=Vm.bytesA A:=by have:=Vm.bytesA_mono A k A.length hk;rwa [List.take_length] at this
 unfold rplV
 rw[h1,if_neg (by omega),if_neg (by omega)]
end Go.Proofs.YtoejbngihecafaaGreatDoor
namespace Go.Proofs.YtoejbngihecafaaGreatDoor
open Go.RowKit
end Go.Proofs.YtoejbngihecafaaGreatDoor
namespace Vm
open Go.Proofs.YtoejbngihecafaaGreatDoor
end Vm
namespace Go.Proofs.YtoejbngihecafaaGreatDoor
open Go.RowKit
end Go.Proofs.YtoejbngihecafaaGreatDoor
namespace Go.Proofs.YtoejbngihecafaaGreatDoor
open Go.RowKit
variable {T:World->Prop} {D:World->Nat->Int->Bool->ByteArray->Prop}
end Go.Proofs.YtoejbngihecafaaGreatDoor
namespace Go.Proofs.YtoejbngihecafaaGreatDoor
open Go.RowKit
variable {T:World->Prop} {D:World->Nat->Int->Bool->ByteArray->Prop}
end Go.Proofs.YtoejbngihecafaaGreatDoor
namespace Vm
open Go.Proofs.YtoejbngihecafaaGreatDoor
end Vm
namespace Go.Proofs.YtoejbngihecafaaGreatDoor
open Go.RowKit
variable {T:World->Prop} {D:World->Nat->Int->Bool->ByteArray->Prop}
end Go.Proofs.YtoejbngihecafaaGreatDoor
namespace Go.Proofs.YtoejbngihecafaaGreatDoor
open Go.RowKit
theorem EH.nd {B:Nat} {w:World} {p:Nat} {s:St} {F:Nat->Prop} (h:EH B w p s F) {i:Nat} (hi:F i):NoNd w i:=by
 rcases (h.ty hi).2.2 with q|q<;>(unfold NoNd;rw[q];exact⟨fun e=>absurd (Option.some.inj e) (by decide),fun e=>absurd (Option.some.inj e) (by decide)⟩)
section
variable (B p:Nat) (s:St) (F:Nat->Prop) (M:Nat) (w:World)
end
end Go.Proofs.YtoejbngihecafaaGreatDoor
namespace Go.Proofs.YtoejbngihecafaaGreatDoor
open Go.RowKit
end Go.Proofs.YtoejbngihecafaaGreatDoor
set_option maxRecDepth 100000
set_option maxHeartbeats 1000000
namespace Vm
theorem kt_says {enc:Int} {latin:Bool} (hl:enc=3->latin=true):∀(zs:List Int) (last:Bool),∀x∈ktA latin last zs,Says enc x
 |[],_,x,h=>by cases h
 |z :: zs,last,x,h=>by
  unfold ktA at h
  split at h
  ·rcases List.mem_cons.1 h with rfl|h
   ·have h3:pick z 1099511627776 / 5%3=0\/pick z 1099511627776 / 5%3=1\/pick z 1099511627776 / 5%3=2:=by omega
    refine⟨?_,fun _=>rfl,(show validB 10=true by decide),fun _=>(show (10:Int)<=255 by decide)⟩
    rcases h3 with q|q|q
    ·exact .inl q
    ·exact .inr (.inl q)
    ·exact .inr (.inr (.inl q))
   ·exact kt_says hl zs true x h
  ·rcases List.mem_cons.1 h with rfl|h
   ·have hc:=kChar_ok latin (pick z 1099511627776 / 5)
    exact⟨.inr (.inr (.inr ⟨rfl,hc.2.2.2.1,hc.2.2.2.2.1⟩)),fun (q:(3:Int)<=2)=>absurd q (by decide),hc.2.2.1,fun e=>hc.2.2.2.2.2 (hl e)⟩
   ·exact kt_says hl zs false x h
theorem kt_atoms (latin last:Bool) (zs:List Int):atoms 0 (nb (recL 0 (ktA latin last zs)))=(ktA latin last zs).map (toE 0) :=
 rec_atoms (by decide) (by decide) (kt_nj latin zs last).1 (kt_says (fun e=>by cases e) zs last)
theorem kt_plain (latin last:Bool) (zs:List Int):(atoms 0 (nb (recL 0 (ktA latin last zs)))).any (fun x=>x.1==4)=false:=by
 rw[kt_atoms,List.any_eq_false]
 intro x hx
 obtain⟨y,hy,rfl⟩:=List.mem_map.1 hx
 have h:=(kt_says (enc:=0) (latin:=latin) (fun e=>by cases e) zs last y hy).1
 show ¬(y.1==4)=true
 rcases h with q|q|q|q
 ·rw[q];decide
 ·rw[q];decide
 ·rw[q];decide
 ·rw[q.1];decide
theorem kt_small (last:Bool) (zs:List Int):(atoms 0 (nb (recL 0 (ktA true last zs)))).any (fun x=>decide (255<x.2.1))=false:=by
 rw[kt_atoms,List.any_eq_false]
 intro x hx
 obtain⟨y,hy,rfl⟩:=List.mem_map.1 hx
 have h:=(kt_says (enc:=3) (latin:=true) (fun _=>rfl) zs last y hy).2.2.2 rfl
 show ¬decide (255<y.2.1)=true
 simpa using h
end Vm
namespace Go.Proofs.YtoejbngihecafaaGreatDoor
open Go.RowKit
end Go.Proofs.YtoejbngihecafaaGreatDoor
namespace Go.Proofs.YtoejbngihecafaaGreatDoor
open Go.RowKit
end Go.Proofs.YtoejbngihecafaaGreatDoor
namespace Vm
theorem typL_toE (enc k:Int) (A:List At):typL enc k (A.map (toE 0))=typL enc k A:=by
 unfold typL
 rw[List.flatMap_map]
 rfl
end Vm
namespace Go.Proofs.YtoejbngihecafaaGreatDoor
open Go.RowKit
theorem kwhole_any (b:ByteArray) (enc:Int) (w:World) (e0:0<=enc) (e3:enc<=3) (hb:b.size<=1099511627776) :
  Calls Tryz.prog 23 #[.string b,.int .i64 enc] w fun e w'=>e=.returned (.string (wholeB b enc))/\w'=w:=by
 have hm:=emod_tmod (b.size:Int) 2 (by omega)
 by_cases hc:enc=1\/enc=2
 ·by_cases hs:b.size%2=1
  ·have e:wholeB b enc=b.extract 0 (b.size - 1):=by unfold wholeB;rw[if_pos ⟨hc,hs⟩]
   rw[e]
   have hI:(b.size:Int)%2=1:=by omega
   have hw:IntKind.i64.wrap ((b.size:Int) - 1)=(b.size:Int) - 1:=by rw[IntKind.wrap_i64];omega
   have ht:((b.size:Int) - 1).toNat=b.size - 1:=by omega
   rcases hc with rfl|rfl
   all_goals
    go_enter Tryz.func23,Tryz.ntmps23
    go_wp2
    go_ret
    exact⟨rfl,rfl⟩
  ·have e:wholeB b enc=b:=by unfold wholeB;rw[if_neg (fun q=>hs q.2)]
   rw[e]
   have hI:¬(b.size:Int)%2=1:=by omega
   rcases hc with rfl|rfl
   all_goals
    go_enter Tryz.func23,Tryz.ntmps23
    go_wp2
    go_ret
    exact⟨rfl,rfl⟩
 ·have e:wholeB b enc=b:=by unfold wholeB;rw[if_neg (fun q=>hc q.1)]
  rw[e]
  have h1:(enc==1)=false:=by simp;omega
  have h2:(enc==2)=false:=by simp;omega
  go_enter Tryz.func23,Tryz.ntmps23
  go_wp2
  go_ret
  exact⟨rfl,rfl⟩
theorem kmark_any (enc:Int) (w:World) (e0:0<=enc) (e3:enc<=3) :
  Calls Tryz.prog 31 #[.int .i64 enc] w fun e w'=>e=.returned (.string (markB enc))/\w'=w:=by
 have hc:enc=0\/enc=1\/enc=2\/enc=3:=by omega
 rcases hc with rfl|rfl|rfl|rfl
 all_goals
  go_enter Tryz.func31,Tryz.ntmps31
  go_wp2
  go_ret
  exact⟨rfl,rfl⟩
end Go.Proofs.YtoejbngihecafaaGreatDoor
