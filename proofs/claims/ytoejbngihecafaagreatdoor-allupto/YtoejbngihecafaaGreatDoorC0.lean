import Derived.Test.YtoejbngihecafaaGreatDoorProg
import Derived.WalkKit
import Derived.Below
import Derived.Lib.Builder
theorem Z6 (n:Nat):n<=n:=Nat.le_refl n
namespace Go.RowKit
theorem Hid.o {p:Prop} (h:Hid p):p:=h
end Go.RowKit
namespace Go.Proofs.YtoejbngihecafaaGreatDoor
open Go.RowKit
theorem Z7 (w:World) (o:Obj):Below w.heap.size w (w.alloc o):=(Below.refl _ _).alloc (Nat.le_refl _) _
variable {w:World} {b:Nat} {t:TypeId} {f:Nat × Nat} {a0 a1 a2 a3 a4 a5 a6 a7 a8:Value} {r:List Value}
theorem C0 (h:w.heap[b]?=some (.cells (a0::r).toArray t f)):w.cell? ⟨b,0,none⟩=some a0:=by rw[Lib.cell_of_heap h];simp
theorem C1 (h:w.heap[b]?=some (.cells (a0::a1::r).toArray t f)):w.cell? ⟨b,1,none⟩=some a1:=by rw[Lib.cell_of_heap h];simp
theorem C2 (h:w.heap[b]?=some (.cells (a0::a1::a2::r).toArray t f)):w.cell? ⟨b,2,none⟩=some a2:=by rw[Lib.cell_of_heap h];simp
theorem C3 (h:w.heap[b]?=some (.cells (a0::a1::a2::a3::r).toArray t f)):w.cell? ⟨b,3,none⟩=some a3:=by rw[Lib.cell_of_heap h];simp
theorem C4 (h:w.heap[b]?=some (.cells (a0::a1::a2::a3::a4::r).toArray t f)):w.cell? ⟨b,4,none⟩=some a4:=by rw[Lib.cell_of_heap h];simp
theorem C5 (h:w.heap[b]?=some (.cells (a0::a1::a2::a3::a4::a5::r).toArray t f)):w.cell? ⟨b,5,none⟩=some a5:=by rw[Lib.cell_of_heap h];simp
theorem C6 (h:w.heap[b]?=some (.cells (a0::a1::a2::a3::a4::a5::a6::r).toArray t f)):w.cell? ⟨b,6,none⟩=some a6:=by rw[Lib.cell_of_heap h];simp
theorem C7 (h:w.heap[b]?=some (.cells (a0::a1::a2::a3::a4::a5::a6::a7::r).toArray t f)):w.cell? ⟨b,7,none⟩=some a7:=by rw[Lib.cell_of_heap h];simp
theorem C8 (h:w.heap[b]?=some (.cells (a0::a1::a2::a3::a4::a5::a6::a7::a8::r).toArray t f)):w.cell? ⟨b,8,none⟩=some a8:=by rw[Lib.cell_of_heap h];simp
end Go.Proofs.YtoejbngihecafaaGreatDoor
