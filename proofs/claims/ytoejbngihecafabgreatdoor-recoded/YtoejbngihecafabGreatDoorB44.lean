import Derived.Test.YtoejbngihecafabGreatDoorB24
import Derived.Test.YtoejbngihecafabGreatDoorB3
import Derived.Test.YtoejbngihecafabGreatDoorB34
namespace Go.Proofs.YtoejbngihecafabGreatDoor
open Go.RowKit
theorem wr_len (enc n:Int):(Vm.wrL enc n).length<=4:=by
 unfold Vm.wrL
 split
 ·rw[Vm.utfL_length];have:=Vm.utfLen_cases n;omega
 ·split
  ·simp
  ·split
   ·rw[List.length_append,Vm.unitL_len,Vm.unitL_len];omega
   ·rw[Vm.unitL_len];omega
end Go.Proofs.YtoejbngihecafabGreatDoor
namespace Vm
def typV (enc k:Int) (A:List At):List Int × Int:=if A.any (fun x=>x.1==4) then ([],4) else if enc=3/\A.any (fun x=>decide (255<x.2.1))=true then ([],5) else (typL enc k A,0)
end Vm
namespace Go.Proofs.YtoejbngihecafabGreatDoor
open Go.RowKit
theorem typA_len (enc k:Int) (x:Vm.At):(Vm.typA enc k x).length<=8:=by
 unfold Vm.typA Vm.endL
 have h1:=wr_len enc 13
 have h2:=wr_len enc 10
 have h3:=wr_len enc x.2.1
 repeat' split
 all_goals first|omega|(rw[List.length_append];omega)
theorem typL_len (enc k:Int):∀(A:List Vm.At),(Vm.typL enc k A).length<=8 * A.length
 |[]=>by simp [Vm.typL]
 |x :: A=>by
  have ih:=typL_len enc k A
  have e:Vm.typL enc k (x :: A)=Vm.typA enc k x++Vm.typL enc k A:=rfl
  have:=typA_len enc k x
  rw[e,List.length_append,List.length_cons];omega
end Go.Proofs.YtoejbngihecafabGreatDoor
