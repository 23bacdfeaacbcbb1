import Derived.Test.YtjbfgnhkgjigpaaGreatDoorProg
import Derived.WalkKit
import Derived.WalkSpells
import Derived.WalkLawsBesides
import Derived.Deep.QuietTactic
import Derived.BigQuiet
import Derived.Test.YtjbfgnhkgjigpaaGreatDoorGc7
import Derived.Test.YtjbfgnhkgjigpaaGreatDoorGc8
namespace Go.Proofs.YtjbfgnhkgjigpaaGreatDoor
open Go.RowKit

theorem slice_str (s : ByteArray) (i j : Nat) (w : World) (hij : i ≤ j) (hj : j ≤ s.size) : (Instr.slice 9 (.string s) (some (.int .i64 i)) (some (.int .i64 j)) none).run Tryz.prog w = .ok (.string (s.extract i j)) w := by
  simp [Instr.slice, go_sem, hij, hj]
end Go.Proofs.YtjbfgnhkgjigpaaGreatDoor

namespace Go.Proofs.YtjbfgnhkgjigpaaGreatDoor
open Go.RowKit

def Nd.wf : Nd → Nat
  | .leaf _ _ _ => 192
  | .inner _ _ _ _ _ => 199
theorem meth_leaf_write (f : Nat) (v : Value) (w : World) : (method (f + 1) 164 v "vellum/atoms.write").run Tryz.prog w = .ok (192, v) w := by kernel_rfl
theorem meth_inner_write (f : Nat) (v : Value) (w : World) : (method (f + 1) 196 v "vellum/atoms.write").run Tryz.prog w = .ok (199, v) w := by kernel_rfl
theorem meth_write (n : Nd) (f : Nat) (v : Value) (w : World) : (method (f + 1) n.ty v "vellum/atoms.write").run Tryz.prog w = .ok (n.wf, v) w := by
  cases n
  · exact meth_leaf_write f v w
  · exact meth_inner_write f v w

theorem bd_drew {B b : Nat} {bs : List Value} {w : World} (h : Bd B b bs w) : Bd B b bs w.drew := h
set_option maxRecDepth 100000 in
set_option maxHeartbeats 1000000 in
theorem write_leaf_in (B b : Nat) (bs : List Value) (Bl : Nat) (c : Cn) (s : ByteArray) (f t : Int) (w : World) (hl : (Nd.leaf Bl c s).In w) (hc : c.body = s.size) (hd : Bd B b bs w) (hBw : B ≤ w.heap.size)
    (hlen : bs.length + s.size ≤ 140737488355328) (_h1 : -4611686018427387904 ≤ f) (h2 : t ≤ 4611686018427387904) (hft : f ≤ t) (hin : f < s.size) (h0 : 0 < t) (hBl : Bl < B) :
    Calls Tryz.prog 192 #[.pointer (some ⟨Bl, 0, none⟩), .pointer (some ⟨b, 0, none⟩), .int .i64 f, .int .i64 t] w fun e w' => e = .returned (.tuple #[]) ∧ Bd B b (bs ++ Lib.byteCells (Vm.partL s.data.toList f t)) w' ∧ Below B w w' := by
  have c0 : w.cell? ⟨Bl, 0, none⟩ = some (.int .i64 c.body) := by rw [Lib.cell_of_heap hl]; rfl
  have c9 : w.cell? ⟨Bl, 9, none⟩ = some (.string s) := by rw [Lib.cell_of_heap hl]; rfl
  have hbz := heap_lt hl
  rw [hc] at c0
  clear hl hc
  have HD := hide1 hd
  clear hd
  have x1 : (0 : Int) ≤ max f 0 := by omega
  have x2 : max f 0 ≤ min t (s.size : Int) := by omega
  have x3 : (0 : Int) ≤ min t (s.size : Int) := by omega
  have x4 : min t (s.size : Int) ≤ (s.size : Int) := by omega
  have HW := hide1 (fun w' (h : Bd B b bs w') (hz : B ≤ w'.heap.size) => bld_str B b bs (s.extract (max f 0).toNat (min t (s.size : Int)).toNat) w' h (by rw [ByteArray.size_extract]; omega) hz)
  have HX := hide1 (Vm.partL_extract s (max f 0).toNat (min t (s.size : Int)).toNat f t (by omega) (by omega))
  go_enter Tryz.func192, Tryz.ntmps192
  go_wp2_with fail
  go_region_held3 (fun w' => w'.cell? ⟨Bl, 0, none⟩ = some (.int .i64 s.size) ∧ w'.cell? ⟨Bl, 9, none⟩ = some (.string s)) (first | exact ⟨k0, k9⟩ | go_keep)
    (first
      | (go_at_call 85; refine (HW.out _ (bd_drew HD.out) hBw).mono ?_; rintro e w1 ⟨rfl, hd1, hb1⟩; have k0 : w1.cell? ⟨Bl, 0, none⟩ = some (.int .i64 s.size) := (hb1.cell (p := ⟨Bl, 0, none⟩) hBl).trans c0; have k9 : w1.cell? ⟨Bl, 9, none⟩ = some (.string s) := (hb1.cell (p := ⟨Bl, 9, none⟩) hBl).trans c9))
  all_goals
    go_wp2_with fail
    go_returns
    refine ⟨rfl, ?_, ⟨hb1.os, hb1.tape, hb1.output, hb1.size, hb1.block⟩⟩
    rw [← HX.out]
    exact hd1

set_option maxRecDepth 100000 in
set_option maxHeartbeats 1000000 in
theorem write_leaf_out (b : Nat) (Bl : Nat) (c : Cn) (s : ByteArray) (f t : Int) (w : World) (hl : (Nd.leaf Bl c s).In w) (hc : c.body = s.size) (h : (s.size : Int) ≤ f ∨ t ≤ 0) :
    Calls Tryz.prog 192 #[.pointer (some ⟨Bl, 0, none⟩), .pointer (some ⟨b, 0, none⟩), .int .i64 f, .int .i64 t] w fun e w' => e = .returned (.tuple #[]) ∧ w' = w := by
  have c0 : w.cell? ⟨Bl, 0, none⟩ = some (.int .i64 c.body) := by rw [Lib.cell_of_heap hl]; rfl
  have hbz := heap_lt hl
  rw [hc] at c0
  clear hl hc
  by_cases hf : (s.size : Int) ≤ f
  · have hf' : ¬ f < (s.size : Int) := by omega
    clear h
    go_enter Tryz.func192, Tryz.ntmps192
    go_wp2_with fail
    go_returns
    exact ⟨rfl, rfl⟩
  · have ht : t ≤ 0 := h.resolve_left hf
    have hf' : f < (s.size : Int) := by omega
    have ht' : ¬ 0 < t := by omega
    clear h hf
    go_enter Tryz.func192, Tryz.ntmps192
    go_wp2_with fail
    go_returns
    exact ⟨rfl, rfl⟩
set_option maxRecDepth 100000 in
set_option maxHeartbeats 1000000 in
theorem write_inner_out (b : Nat) (Bl : Nat) (c : Cn) (k : Nat) (l r : Nd) (f t : Int) (w : World) (hl : (Nd.inner Bl c k l r).In w) (h : (c.body : Int) ≤ f ∨ t ≤ 0) :
    Calls Tryz.prog 199 #[.pointer (some ⟨Bl, 0, none⟩), .pointer (some ⟨b, 0, none⟩), .int .i64 f, .int .i64 t] w fun e w' => e = .returned (.tuple #[]) ∧ w' = w := by
  have c0 : w.cell? ⟨Bl, 0, none⟩ = some (.int .i64 c.body) := by rw [Lib.cell_of_heap hl.1]; rfl
  have hbz := heap_lt hl.1
  clear hl
  by_cases hf : (c.body : Int) ≤ f
  · have hf' : ¬ f < (c.body : Int) := by omega
    clear h
    go_enter Tryz.func199, Tryz.ntmps199
    go_wp2_with fail
    go_returns
    exact ⟨rfl, rfl⟩
  · have ht : t ≤ 0 := h.resolve_left hf
    have hf' : f < (c.body : Int) := by omega
    have ht' : ¬ 0 < t := by omega
    clear h hf
    go_enter Tryz.func199, Tryz.ntmps199
    go_wp2_with fail
    go_returns
    exact ⟨rfl, rfl⟩

/-- Writing a node appends what of its bytes stands between two places. -/
def Writes (n : Nd) (B : Nat) : Prop := ∀ (b : Nat) (bs : List Value) (f t : Int) (w : World), n.In w → Bd B b bs w → B ≤ w.heap.size → bs.length + (rowB n.row).length ≤ 140737488355328 → ((rowB n.row).length : Int) - 4611686018427387904 ≤ f → t ≤ 4611686018427387904 → f ≤ t →
  Calls Tryz.prog n.wf #[.pointer (some ⟨n.blk, 0, none⟩), .pointer (some ⟨b, 0, none⟩), .int .i64 f, .int .i64 t] w fun e w' => e = .returned (.tuple #[]) ∧ Bd B b (bs ++ Lib.byteCells (Vm.partL (rowB n.row) f t)) w' ∧ Below B w w'
theorem byteCells_nil : Lib.byteCells [] = [] := rfl
theorem writes_leaf (Bl : Nat) (c : Cn) (s : ByteArray) (B : Nat) (hB : Bl < B) (hc : c.body = s.size) : Writes (.leaf Bl c s) B := by
  intro b bs f t w hl hd hBw hlen h1 h2 hft
  have hr : rowB (Nd.leaf Bl c s).row = s.data.toList := by simp [rowB, Nd.row]
  rw [hr] at hlen h1 ⊢
  by_cases h : (s.size : Int) ≤ f ∨ t ≤ 0
  · have hp : Vm.partL s.data.toList f t = [] := Vm.partL_out (h.elim (fun x => .inl x) (fun x => .inr (.inl x)))
    rw [hp, byteCells_nil, List.append_nil]
    refine (write_leaf_out b Bl c s f t w hl hc h).mono ?_
    rintro e w' ⟨rfl, rfl⟩
    exact ⟨rfl, hd, Below.refl _ _⟩
  · exact write_leaf_in B b bs Bl c s f t w hl hc hd hBw hlen (by omega) h2 hft (by omega) (by omega) hB
end Go.Proofs.YtjbfgnhkgjigpaaGreatDoor
