import Derived.OwnWalk
import Derived.Maps.AppendAt
import Derived.Test.YtoejbngihecafabGreatDoorB4
import Derived.Test.YtoejbngihecafabGreatDoorB21
namespace Go.Proofs.YtoejbngihecafabGreatDoor
open Go.RowKit
variable {T:World->Prop} {D:World->Nat->Int->Bool->ByteArray->Prop}
end Go.Proofs.YtoejbngihecafabGreatDoor
namespace Go.Proofs.YtoejbngihecafabGreatDoor
open Go.RowKit
variable {T:World->Prop} {D:World->Nat->Int->Bool->ByteArray->Prop}
end Go.Proofs.YtoejbngihecafabGreatDoor
namespace Go.Proofs.YtoejbngihecafabGreatDoor
open Go.RowKit
def rplV (A:List Vm.At) (o:Int):Int × Int :=
 if o<0\/(Vm.bytesA A:Int)<o then (0,2) else if (Vm.bytesA (A.take (Vm.plK A o)):Int)<o then (0,3) else (Vm.plK A o,0)
theorem rplV_at {A:List Vm.At} {k:Nat} {o:Int} (hk:k<=A.length) (ho:(Vm.bytesA (A.take k):Int)=o):rplV A o=((k:Int),0):=by
 subst ho
 have h1:Vm.plK A (Vm.bytesA (A.take k))=k:=Vm.plK_eq hk (Int.le_refl _) (fun hl=>by have:=Vm.bytesA_lt A k (k+1) (by omega) hl;omega)
 have h2:Vm.bytesA (A.take k)<=Vm.bytesA A:=by have:=Vm.bytesA_mono A k A.length hk;rwa [List.take_length] at this
 unfold rplV
 rw[h1,if_neg (by omega),if_neg (by omega)]
end Go.Proofs.YtoejbngihecafabGreatDoor
namespace Go.Proofs.YtoejbngihecafabGreatDoor
open Go.RowKit
end Go.Proofs.YtoejbngihecafabGreatDoor
namespace Vm
open Go.Proofs.YtoejbngihecafabGreatDoor
def bestK (A:List At) (line col:Int):Nat->Nat
 |0=>0
 |k+1=>if (linesA (A.take k):Int)=line/\(colA (A.take k):Int)<=col then bytesA (A.take k) else bestK A line col k
end Vm
namespace Go.Proofs.YtoejbngihecafabGreatDoor
open Go.RowKit
end Go.Proofs.YtoejbngihecafabGreatDoor
namespace Go.Proofs.YtoejbngihecafabGreatDoor
open Go.RowKit
variable {T:World->Prop} {D:World->Nat->Int->Bool->ByteArray->Prop}
end Go.Proofs.YtoejbngihecafabGreatDoor
namespace Go.Proofs.YtoejbngihecafabGreatDoor
open Go.RowKit
variable {T:World->Prop} {D:World->Nat->Int->Bool->ByteArray->Prop}
end Go.Proofs.YtoejbngihecafabGreatDoor
namespace Vm
open Go.Proofs.YtoejbngihecafabGreatDoor
def offL (A:List At) (k:Nat):List Int:=(List.range k).map (fun j=>(bytesA (A.take j):Int))
end Vm
namespace Go.Proofs.YtoejbngihecafabGreatDoor
open Go.RowKit
variable {T:World->Prop} {D:World->Nat->Int->Bool->ByteArray->Prop}
def cellsI (zs:List Int):List Value:=zs.map (fun z=>.int .i64 z)
def OwnI (w:World) (base:Nat) (v:Value) (zs:List Int):Prop:=w.ownsRow base 3 1 v zs.length (cellsI zs)
end Go.Proofs.YtoejbngihecafabGreatDoor
