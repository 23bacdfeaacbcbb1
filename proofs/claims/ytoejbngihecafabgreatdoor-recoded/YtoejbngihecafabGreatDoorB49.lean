import Derived.StillTailTactics
import Derived.Deep.Slices
import Derived.Carry
import Derived.Test.YtoejbngihecafabGreatDoorB48
import Derived.Test.YtoejbngihecafabGreatDoorB45
import Derived.Test.YtoejbngihecafabGreatDoorB28
import Derived.Test.YtoejbngihecafabGreatDoorB46
import Derived.Test.YtoejbngihecafabGreatDoorB23
import Derived.Test.YtoejbngihecafabGreatDoorB47
import Derived.Test.YtoejbngihecafabGreatDoorB7
namespace Go.Proofs.YtoejbngihecafabGreatDoor
open Go.RowKit
structure Chd (s:St) (c:Bool) (s':St):Prop where
 yes:c=true->∃k,s'=⟨k,pushK s.O s.k,[]⟩
 no:c=false->s'=s
structure KOp where
 kind:Int
 a:Int
 b:Int
 t:Value
 zs:List Int
def KOp.Ok (w:World) (o:KOp):Prop:=(-9223372036854775808<=o.kind/\o.kind<=9223372036854775807)/\(-9223372036854775808<=o.a/\o.a<=9223372036854775807)/\(-9223372036854775808<=o.b/\o.b<=9223372036854775807)/\IntsAt w o.t o.zs/\(∀i,-9223372036854775808<=o.zs.getD i 0/\o.zs.getD i 0<=9223372036854775807)
def KPost (B p:Nat) (s:St) (F:Nat->Prop) (M:Nat) (w:World) (e:Ending) (w':World):Prop:=∃c s' F',e=.returned (.bool c)/\EH B w' p s' F'/\Turn F F' w w'/\s'.Good M/\Chd s c s'
end Go.Proofs.YtoejbngihecafabGreatDoor
namespace Go.Proofs.YtoejbngihecafabGreatDoor
open Go.RowKit
end Go.Proofs.YtoejbngihecafabGreatDoor
namespace Go.Proofs.YtoejbngihecafabGreatDoor
open Go.RowKit
def KOpsAt (w:World) (v:Value) (l:List KOp):Prop :=
 ∃q cap,v=.slice q l.length cap/\∀i o,l[i]?=some o->(∃g f,q=some ⟨g,f,none⟩/\w.cell? ⟨g,f+i * 4,none⟩=some (.int .i64 o.kind)/\w.cell? ⟨g,f+i * 4+1,none⟩=some (.int .i64 o.a)/\w.cell? ⟨g,f+i * 4+2,none⟩=some (.int .i64 o.b)/\w.cell? ⟨g,f+i * 4+3,none⟩=some o.t)/\o.Ok w
def kopsZ (l:List KOp):Nat:=(l.map (fun o=>o.zs.length)).sum
end Go.Proofs.YtoejbngihecafabGreatDoor
namespace Go.Proofs.YtoejbngihecafabGreatDoor
open Go.ChangeShapes Go.WideShapes Go.ChangeAt Go.RowKit
end Go.Proofs.YtoejbngihecafabGreatDoor
