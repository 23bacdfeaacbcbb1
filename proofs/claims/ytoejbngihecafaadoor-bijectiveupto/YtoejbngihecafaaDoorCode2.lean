import Derived.Deep.QuietTactic
import Derived.BigQuiet
import Derived.Deep.RegionHeld3
import Derived.Test.YtoejbngihecafaaDoorCode1
namespace Go.Proofs.YtoejbngihecafaaDoor
open Go.RowKit

/-- A mark's bytes. -/
def markB (enc : Int) : ByteArray := if enc = 0 then ⟨#[239, 187, 191]⟩ else if enc = 1 then ⟨#[255, 254]⟩ else if enc = 2 then ⟨#[254, 255]⟩ else ⟨#[]⟩

/-- The table of encodings, in memory. -/
structure TabEnc (w : World) : Prop where
  m0 : w.cell? ⟨0, 0, none⟩ = some (.string (markB 0))
  g0 : w.cell? ⟨0, 1, none⟩ = some (.int .i32 1114111)
  l0 : w.cell? ⟨0, 2, none⟩ = some (.int .i64 0)
  h0 : w.cell? ⟨0, 3, none⟩ = some (.int .i64 0)
  m1 : w.cell? ⟨0, 4, none⟩ = some (.string (markB 1))
  g1 : w.cell? ⟨0, 5, none⟩ = some (.int .i32 1114111)
  l1 : w.cell? ⟨0, 6, none⟩ = some (.int .i64 0)
  h1 : w.cell? ⟨0, 7, none⟩ = some (.int .i64 1)
  m2 : w.cell? ⟨0, 8, none⟩ = some (.string (markB 2))
  g2 : w.cell? ⟨0, 9, none⟩ = some (.int .i32 1114111)
  l2 : w.cell? ⟨0, 10, none⟩ = some (.int .i64 1)
  h2 : w.cell? ⟨0, 11, none⟩ = some (.int .i64 0)
  m3 : w.cell? ⟨0, 12, none⟩ = some (.string (markB 3))
  g3 : w.cell? ⟨0, 13, none⟩ = some (.int .i32 255)
  l3 : w.cell? ⟨0, 14, none⟩ = some (.int .i64 0)
  h3 : w.cell? ⟨0, 15, none⟩ = some (.int .i64 0)

theorem TabEnc.below {w w' : World} (h : TabEnc w) (hb : Below w.heap.size w w') : TabEnc w' := by
  have hz := block_lt h.m0
  have g : ∀ o, w'.cell? ⟨0, o, none⟩ = w.cell? ⟨0, o, none⟩ := fun o => hb.cell (p := ⟨_, o, none⟩) hz
  exact ⟨(g _).trans h.m0, (g _).trans h.g0, (g _).trans h.l0, (g _).trans h.h0, (g _).trans h.m1, (g _).trans h.g1, (g _).trans h.l1, (g _).trans h.h1, (g _).trans h.m2, (g _).trans h.g2, (g _).trans h.l2, (g _).trans h.h2, (g _).trans h.m3, (g _).trans h.g3, (g _).trans h.l3, (g _).trans h.h3⟩

theorem unit_bits (h l : Int) (h0 : 0 ≤ h) (h1 : h ≤ 255) (l0 : 0 ≤ l) (l1 : l ≤ 255) : bits BinOp.or IntKind.i32 (h * 256) l = 256 * h + l := by
  rw [bits_join .i32 31 (by decide) wraps_i32 8 (h * 256) l (by omega) (by omega) (by omega) l0 (by omega) (by omega)]; omega

theorem unit_bytes (x y : UInt8) : bits BinOp.or IntKind.i32 (IntKind.i32.wrap (IntKind.i32.wrap (x.toNat : Int) * 256)) (IntKind.i32.wrap (y.toNat : Int)) = 256 * (x.toNat : Int) + (y.toNat : Int) := by
  have h1 := x.toNat_lt
  have h2 := y.toNat_lt
  have e1 : IntKind.i32.wrap (x.toNat : Int) = x.toNat := by rw [IntKind.wrap_i32]; omega
  have e2 : IntKind.i32.wrap (y.toNat : Int) = y.toNat := by rw [IntKind.wrap_i32]; omega
  have e3 : IntKind.i32.wrap ((x.toNat : Int) * 256) = x.toNat * 256 := by rw [IntKind.wrap_i32]; omega
  rw [e1, e2, e3]
  exact unit_bits _ _ (by omega) (by omega) (by omega) (by omega)

set_option maxHeartbeats 400000 in
theorem unit_out (b : ByteArray) (a enc : Int) (w : World) (h0 : 0 ≤ a) (h1 : (b.size : Int) ≤ a + 1) (ha : a < 4611686018427387904) :
    Calls Tryd.prog 107 #[.string b, .int .i64 a, .int .i64 enc] w fun e w' => e = .returned (.int .i32 (-1)) ∧ Below w.heap.size w w' := by
  go_enter Tryd.func107, Tryd.ntmps107
  go_wp2
  go_ret
  exact ⟨rfl, Below.refl _ _⟩

set_option maxHeartbeats 400000 in
theorem unit_little (b : ByteArray) (i : Nat) (w : World) (hb : b.size ≤ 1099511627776) (h1 : i + 1 < b.size) (ht : TabEnc w) :
    Calls Tryd.prog 107 #[.string b, .int .i64 i, .int .i64 1] w fun e w' => e = .returned (.int .i32 (Vm.unitAt 1 b.data.toList i)) ∧ Below w.heap.size w w' := by
  have c0 := ht.m1
  have cg := ht.g1
  have c1 := ht.l1
  have c2 := ht.h1
  have hz := block_lt c0
  have hI : (i : Int) + 1 < (b.size : Int) := by omega
  have e1 := b[i].toNat_lt
  have e2 := b[i + 1].toNat_lt
  go_enter Tryd.func107, Tryd.ntmps107
  go_wp2
  have hwr : IntKind.i64.wrap ((i : Int) + 1) = (i : Int) + 1 := by rw [IntKind.wrap_i64]; omega
  have htn : ((i : Int) + 1).toNat = i + 1 := by omega
  have hwr0 : IntKind.i64.wrap (i : Int) = (i : Int) := by rw [IntKind.wrap_i64]; omega
  go_region_held3 (fun w' => w'.cell? ⟨w.heap.size, 2, none⟩ = some (.int .i64 0) ∧ w'.cell? ⟨w.heap.size, 3, none⟩ = some (.int .i64 1)) (go_keep) (fail)
  all_goals (go_wp2; go_ret)
  all_goals exact ⟨ret_int (by rw [unit_bytes]; rw [Vm.unitAt_1, Vm.b0_byte b i (by omega), Vm.b0_byte b (i + 1) h1]; omega), ((Below.refl _ _).alloc (Nat.le_refl _) _).drew⟩
set_option maxHeartbeats 400000 in
theorem unit_big (b : ByteArray) (i : Nat) (w : World) (hb : b.size ≤ 1099511627776) (h1 : i + 1 < b.size) (ht : TabEnc w) :
    Calls Tryd.prog 107 #[.string b, .int .i64 i, .int .i64 2] w fun e w' => e = .returned (.int .i32 (Vm.unitAt 2 b.data.toList i)) ∧ Below w.heap.size w w' := by
  have c0 := ht.m2
  have cg := ht.g2
  have c1 := ht.l2
  have c2 := ht.h2
  have hz := block_lt c0
  have hI : (i : Int) + 1 < (b.size : Int) := by omega
  have e1 := b[i].toNat_lt
  have e2 := b[i + 1].toNat_lt
  go_enter Tryd.func107, Tryd.ntmps107
  go_wp2
  have hwr : IntKind.i64.wrap ((i : Int) + 1) = (i : Int) + 1 := by rw [IntKind.wrap_i64]; omega
  have htn : ((i : Int) + 1).toNat = i + 1 := by omega
  have hwr0 : IntKind.i64.wrap (i : Int) = (i : Int) := by rw [IntKind.wrap_i64]; omega
  go_region_held3 (fun w' => w'.cell? ⟨w.heap.size, 2, none⟩ = some (.int .i64 1) ∧ w'.cell? ⟨w.heap.size, 3, none⟩ = some (.int .i64 0)) (go_keep) (fail)
  all_goals (go_wp2; go_ret)
  all_goals exact ⟨ret_int (by rw [unit_bytes]; rw [Vm.unitAt_2, Vm.b0_byte b i (by omega), Vm.b0_byte b (i + 1) h1]), ((Below.refl _ _).alloc (Nat.le_refl _) _).drew⟩

/-- The unit at a place, in either order of bytes. -/
theorem unit_any (b : ByteArray) (i : Nat) (enc : Int) (w : World) (hb : b.size ≤ 1099511627776) (hi : i ≤ b.size + 4) (he : enc = 1 ∨ enc = 2) (ht : TabEnc w) :
    Calls Tryd.prog 107 #[.string b, .int .i64 i, .int .i64 enc] w fun e w' => e = .returned (.int .i32 (Vm.unitO enc b i)) ∧ Below w.heap.size w w' := by
  by_cases h : i + 1 < b.size
  · have e : Vm.unitO enc b i = Vm.unitAt enc b.data.toList i := by unfold Vm.unitO; rw [if_pos h]
    rw [e]
    rcases he with rfl | rfl
    · exact unit_little b i w hb h ht
    · exact unit_big b i w hb h ht
  · have e : Vm.unitO enc b i = -1 := by unfold Vm.unitO; rw [if_neg h]
    rw [e]
    exact unit_out b i enc w (by omega) (by omega) (by omega)

theorem unit_int (b : ByteArray) (a enc : Int) (w : World) (hb : b.size ≤ 1099511627776) (h0 : 0 ≤ a) (hi : a ≤ b.size + 4) (he : enc = 1 ∨ enc = 2) (ht : TabEnc w) :
    Calls Tryd.prog 107 #[.string b, .int .i64 a, .int .i64 enc] w fun e w' => e = .returned (.int .i32 (Vm.unitO enc b a.toNat)) ∧ Below w.heap.size w w' := by
  obtain ⟨i, rfl⟩ := Int.eq_ofNat_of_zero_le h0
  exact unit_any b i enc w hb (by omega) he ht
end Go.Proofs.YtoejbngihecafaaDoor
