import Derived.Test.YtoejbngihecafaaDoorProg
import Derived.WalkKit
import Derived.WalkSpells
import Derived.WalkLawsBesides
namespace Go.Proofs.YtoejbngihecafaaDoor
open Go.RowKit

theorem slice_str (s : ByteArray) (i j : Nat) (w : World) (hij : i ≤ j) (hj : j ≤ s.size) : (Instr.slice 9 (.string s) (some (.int .i64 i)) (some (.int .i64 j)) none).run Tryd.prog w = .ok (.string (s.extract i j)) w := by
  simp [Instr.slice, go_sem, hij, hj]
end Go.Proofs.YtoejbngihecafaaDoor
