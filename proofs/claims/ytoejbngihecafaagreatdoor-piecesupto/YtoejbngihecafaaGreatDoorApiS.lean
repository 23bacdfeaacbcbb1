import Derived.Test.YtoejbngihecafaaGreatDoorApi
namespace Go.Proofs.YtoejbngihecafaaGreatDoor
open Go.RowKit

/-- Only a row of pointers to pairs turns, which lies behind block q; new blocks come. -/
structure RowStep (q : Nat) (own : Option Nat) (w w' : World) : Prop where
  os : w'.os = w.os
  tape : w'.tape = w.tape
  output : w'.output = w.output
  size : w.heap.size ≤ w'.heap.size
  keep : ∀ k, k < w.heap.size → own ≠ some k → w'.heap[k]? = w.heap[k]?
  ty : ∀ g, own = some g → q < g ∧ tyAt w g = some 33
/-- L w0 w q mode all: at block q lies a loader that was begun in the world w0 and has taken these bytes; S w s bs g: at block s a saver of these bytes that has given g of them. -/
structure ApiS (T : World → Prop) (D : World → Nat → Int → Bool → ByteArray → Prop) (L : World → World → Nat → Int → List UInt8 → Prop) (S : World → Nat → List UInt8 → Nat → Prop) : Prop where
  base : Api T D
  begin_ : ∀ (mode : Int) (w : World), T w → 0 ≤ mode → mode ≤ 7 →
    Calls Tryz.prog 10 #[.int .i64 mode] w fun e w' => ∃ q, e = .returned (.tuple #[.pointer (some ⟨q, 0, none⟩), .int .i64 0]) ∧ L w w' q mode []
  begin_no : ∀ (mode : Int) (w : World), mode < 0 ∨ 7 < mode →
    Calls Tryz.prog 10 #[.int .i64 mode] w fun e w' => e = .returned (.tuple #[.pointer none, .int .i64 1]) ∧ Below w.heap.size w w'
  lbelow : ∀ {w0 w : World} {q : Nat} {mode : Int} {all : List UInt8}, L w0 w q mode all → Below w0.heap.size w0 w
  lq : ∀ {w0 w : World} {q : Nat} {mode : Int} {all : List UInt8}, L w0 w q mode all → w0.heap.size ≤ q ∧ q < w.heap.size
  llow : ∀ {w0 w w' : World} {q : Nat} {mode : Int} {all : List UInt8}, L w0 w q mode all → Below w.heap.size w w' → L w0 w' q mode all
  lrow : ∀ {w0 w w' : World} {q : Nat} {mode : Int} {all : List UInt8} {own : Option Nat}, L w0 w q mode all → RowStep q own w w' → L w0 w' q mode all
  drow : ∀ {w w' : World} {p q : Nat} {enc : Int} {mark : Bool} {body : ByteArray} {own : Option Nat}, D w p enc mark body → RowStep q own w w' → D w' p enc mark body
  push : ∀ (w0 w : World) (q : Nat) (mode : Int) (all : List UInt8) (b : ByteArray), T w0 → L w0 w q mode all → 0 ≤ mode → mode ≤ 7 → all.length + b.size ≤ 1099511627776 →
    Calls Tryz.prog 13 #[.pointer (some ⟨q, 0, none⟩), .string b] w fun e w' => e = .returned (.tuple #[]) ∧ L w0 w' q mode (all ++ b.data.toList) ∧ (∀ p enc mark body, D w p enc mark body → D w' p enc mark body) ∧ (∀ k, k < w.heap.size → k ≠ q → tyAt w k ≠ some 5 → w'.heap[k]? = w.heap[k]?)
  end_ : ∀ (w0 w : World) (q : Nat) (mode : Int) (b : ByteArray), T w0 → L w0 w q mode b.data.toList → 0 ≤ mode → mode ≤ 7 → b.size ≤ 1099511627776 →
    Calls Tryz.prog 17 #[.pointer (some ⟨q, 0, none⟩)] w fun e w' => ∃ p, e = .returned (.pointer (some ⟨p, 0, none⟩)) ∧ D w' p (encOf b mode) (ofMark b (encOf b mode)) (ofBody b (encOf b mode)) ∧ Below w.heap.size w w'
  saver : ∀ (p : Nat) (enc : Int) (mark : Bool) (body : ByteArray) (w : World), D w p enc mark body →
    Calls Tryz.prog 48 #[.pointer (some ⟨p, 0, none⟩)] w fun e w' => ∃ s, e = .returned (.pointer (some ⟨s, 0, none⟩)) ∧ w.heap.size ≤ s ∧ S w' s (bytesOf enc mark body).data.toList 0 ∧ Below w.heap.size w w'
  slow : ∀ {w w' : World} {s : Nat} {bs : List UInt8} {g : Nat}, S w s bs g → Below w.heap.size w w' → S w' s bs g
  fill : ∀ (s : Nat) (bs : List UInt8) (g : Nat) (c : Int) (w : World), T w → S w s bs g →
    Calls Tryz.prog 21 #[.pointer (some ⟨s, 0, none⟩), .int .i64 c] w fun e w' => e = .returned (.string ⟨((bs.drop g).take c.toNat).toArray⟩) ∧ S w' s bs (g + min c.toNat (bs.length - g)) ∧ T w' ∧ (∀ p enc mark body, D w p enc mark body → D w' p enc mark body) ∧
      (∀ w0, w0.heap.size ≤ s → Below w0.heap.size w0 w → Below w0.heap.size w0 w')
end Go.Proofs.YtoejbngihecafaaGreatDoor
