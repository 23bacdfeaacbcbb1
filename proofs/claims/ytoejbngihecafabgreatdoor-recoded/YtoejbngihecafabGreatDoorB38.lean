import Derived.Test.YtoejbngihecafabGreatDoorB35
import Derived.Test.YtoejbngihecafabGreatDoorB36
import Derived.Test.YtoejbngihecafabGreatDoorB26
import Derived.Test.YtoejbngihecafabGreatDoorB32
import Derived.Test.YtoejbngihecafabGreatDoorB25
namespace Go.Proofs.YtoejbngihecafabGreatDoor
open Go.RowKit
def kc (k:Kp):List Value:=[.int .i64 k.enc,.bool k.mark,.string k.body]
def kcs (l:List Kp):List Value:=l.flatMap kc
end Go.Proofs.YtoejbngihecafabGreatDoor
namespace Go.Proofs.YtoejbngihecafabGreatDoor
open Go.RowKit
structure St where
 k:Kp
 O:List Kp
 U:List Kp
def pushK (O:List Kp) (x:Kp):List Kp:=(if O.length=30 then O.drop 1 else O)++[x]
structure Turn (F F':Nat->Prop) (w w':World):Prop where
 os:w'.os=w.os
 tape:w'.tape=w.tape
 output:w'.output=w.output
 size:w.heap.size<=w'.heap.size
 keep:∀i,i<w.heap.size->¬F i->w'.heap[i]?=w.heap[i]?
 new:∀i,F' i->F i\/w.heap.size<=i
theorem Turn.below {F F':Nat->Prop} {w0 w w':World} (h:Turn F F' w w') (hb:Below w0.heap.size w0 w) (hF:∀i,F i->w0.heap.size<=i):Below w0.heap.size w0 w' :=
 ⟨h.os.trans hb.os,h.tape.trans hb.tape,h.output.trans hb.output,Nat.le_trans hb.size h.size,fun k hk=>(h.keep k (Nat.lt_of_lt_of_le hk hb.size) (fun e=>by have:=hF k e;omega)).trans (hb.block k hk)⟩
end Go.Proofs.YtoejbngihecafabGreatDoor
namespace Go.Proofs.YtoejbngihecafabGreatDoor
open Go.RowKit
def fp (r:Nat) (vo vb:Value) (i:Nat):Prop:=i=r\/wblk vo=some i\/wblk vb=some i
section
variable {B:Nat} {w w':World} {r:Nat} {s:St} {vo vb:Value} {G:Nat->Prop}
end
end Go.Proofs.YtoejbngihecafabGreatDoor
namespace Go.Proofs.YtoejbngihecafabGreatDoor
open Go.RowKit
end Go.Proofs.YtoejbngihecafabGreatDoor
