import Derived.BigQuiet
import Derived.Test.YtoejbngihecafaaDoorKeep1
namespace Go.Proofs.YtoejbngihecafaaDoor
open Go.RowKit

theorem i64_and31 (x : Int) (h₀ : 0 ≤ x) (h₁ : x ≤ 2097151) : bits .and .i64 x 31 = x % 32 := bits_mask .i64 62 (by decide) wraps_i64x 5 (by decide) x h₀ (by omega)
theorem i64_and15 (x : Int) (h₀ : 0 ≤ x) (h₁ : x ≤ 2097151) : bits .and .i64 x 15 = x % 16 := bits_mask .i64 62 (by decide) wraps_i64x 4 (by decide) x h₀ (by omega)
theorem i64_and7 (x : Int) (h₀ : 0 ≤ x) (h₁ : x ≤ 2097151) : bits .and .i64 x 7 = x % 8 := bits_mask .i64 62 (by decide) wraps_i64x 3 (by decide) x h₀ (by omega)
/-- A world that bears all that w bears. -/
def Bl (w : World) : Type := {w' : World // Below w.heap.size w w'}
instance (w : World) : Nonempty (Bl w) := ⟨⟨w, Below.refl _ _⟩⟩
theorem wp_region_bl {P : Program} {id : Nat} {Q : Exit → Act → World → Prop} {a : Act} {w : World} {l : List Oper} (hm : P.follows .mixedOrders = true) (hB : Region.lexB .any l.toArray = true)
    (h : wpQuiet P l.toArray (fun w' => ∃ x : Bl w, w' = x.val) (fun a' => ∀ w', (∃ x : Bl w, w' = x.val) → Q .normal a' w') l a) : (Code.region id l.toArray true).wp P Q a w :=
  wp_region_quiet (C := fun w' => ∃ x : Bl w, w' = x.val) hm hB ⟨⟨w.drew, (Below.refl _ _).drew⟩, rfl⟩ (by simpa using h)
theorem Calls.bl_of {P : Program} {f : FuncId} {args : Array Value} {w : World} {x : Bl w} {v : Value}
    (h : Calls P f args x.val fun e w' => e = .returned v ∧ Below x.val.heap.size x.val w') : Calls P f args x.val fun e w'' => e = .returned v ∧ ∃ y : Bl w, w'' = y.val :=
  h.mono fun _ w' ⟨he, hm⟩ => ⟨he, ⟨w', x.2.trans (hm.mono x.2.size)⟩, rfl⟩
end Go.Proofs.YtoejbngihecafaaDoor
