import Derived.Test.YtoejbngihecafaaDoorProg
import Derived.WalkKit
import Derived.WalkSpells
import Derived.WalkLawsBesides
import Derived.Test.YtoejbngihecafaaDoorMath1toMath16
namespace Go.Proofs.YtoejbngihecafaaDoor
open Go.RowKit

/-- The table of sequences, in memory. -/
structure TabSeq (w : World) : Prop where
  up : ∀ k : Nat, k < 11 → w.cell? ⟨3, k * 5, none⟩ = some (.int .u8 (Vm.sqUp k))
  size : ∀ k : Nat, k < 11 → w.cell? ⟨3, k * 5 + 1, none⟩ = some (.int .i64 (Vm.sqSize k))
  bits : ∀ k : Nat, k < 11 → w.cell? ⟨3, k * 5 + 2, none⟩ = some (.int .u8 (Vm.sqBits k))
  least : ∀ k : Nat, k < 11 → w.cell? ⟨3, k * 5 + 3, none⟩ = some (.int .u8 (Vm.sqLeast k))
  most : ∀ k : Nat, k < 11 → w.cell? ⟨3, k * 5 + 4, none⟩ = some (.int .u8 (Vm.sqMost k))

theorem block_lt {w : World} {b o : Nat} {v : Value} (h : w.cell? ⟨b, o, none⟩ = some v) : b < w.heap.size := by
  unfold World.cell? at h
  by_cases hb : b < w.heap.size
  · exact hb
  · rw [Array.getElem?_eq_none (show w.heap.size ≤ b by omega)] at h; simp at h

set_option maxHeartbeats 400000 in
theorem begunBy_any (c : Int) (w : World) (_h0 : 0 ≤ c) (h1 : c ≤ 255) (ht : TabSeq w) :
    Calls Tryd.prog 105 #[.int .u8 c] w fun e w' => e = .returned (.agg #[.int .u8 (Vm.sqUp (Vm.sqRow c)), .int .i64 (Vm.sqSize (Vm.sqRow c)), .int .u8 (Vm.sqBits (Vm.sqRow c)), .int .u8 (Vm.sqLeast (Vm.sqRow c)), .int .u8 (Vm.sqMost (Vm.sqRow c))]) ∧ Below w.heap.size w w' := by
  have hz : 3 < w.heap.size := block_lt (ht.up 0 (by omega))
  have hr := Vm.sqRow_le c
  go_enter Tryd.func105, Tryd.ntmps105
  go_wp2
  go_loop [3] (fun i => ∃ k : Nat, k ≤ Vm.sqRow c ∧ i = .int .i64 k) (fun i => 11 - (intOf i).toNat)
  case atStart => exact ⟨0, Nat.zero_le _, rfl⟩
  case round =>
    obtain ⟨k, hk, rfl⟩ := hrel
    have c0 := ht.up k (by omega)
    have c1 := ht.size k (by omega)
    have c2 := ht.bits k (by omega)
    have c3 := ht.least k (by omega)
    have c4 := ht.most k (by omega)
    have hu := Vm.sqUp_bd k
    by_cases hlt : Vm.sqUp k < c
    · have hk2 : k < Vm.sqRow c := by
        have := @Vm.sqRow_of c k hk
        have := Vm.sqRow_at h1
        by_cases e : k = Vm.sqRow c
        · rw [← e] at this; omega
        · omega
      go_wp2
      go_round
      case rel => exact ⟨k + 1, by omega, by go_num⟩
      case measure => simp [intOf]; omega
    · have hk2 : k = Vm.sqRow c := Vm.sqRow_of hk (by omega)
      subst hk2
      go_wp2
      exact bodyPost_ret (v := .agg #[.int .u8 (Vm.sqUp (Vm.sqRow c)), .int .i64 (Vm.sqSize (Vm.sqRow c)), .int .u8 (Vm.sqBits (Vm.sqRow c)), .int .u8 (Vm.sqLeast (Vm.sqRow c)), .int .u8 (Vm.sqMost (Vm.sqRow c))]) (by simp [results, Tryd.results105, go_sem]) rfl ⟨rfl, (Below.refl _ _).alloc (Nat.le_refl _) _⟩

theorem ret_bool {a b : Bool} (h : a = b) : Ending.returned (.bool a) = .returned (.bool b) := by rw [h]
theorem ret_int {k : IntKind} {a b : Int} (h : a = b) : Ending.returned (.int k a) = .returned (.int k b) := by rw [h]

set_option maxHeartbeats 400000 in
theorem goesOn_any (u n b l m k c : Int) (w : World) :
    Calls Tryd.prog 106 #[.agg #[.int .u8 u, .int .i64 n, .int .u8 b, .int .u8 l, .int .u8 m], .int .i64 k, .int .u8 c] w fun e w' =>
      e = .returned (.bool (Vm.goesOnB l m k c)) ∧ Below w.heap.size w w' := by
  by_cases hk : k = 1
  · subst hk
    by_cases h1 : l ≤ c
    · by_cases h2 : c ≤ m
      · go_enter Tryd.func106, Tryd.ntmps106
        go_wp2
        go_ret
        exact ⟨ret_bool (by simp [Vm.goesOnB, h1, h2]), (Below.refl _ _).alloc (Nat.le_refl _) _⟩
      · go_enter Tryd.func106, Tryd.ntmps106
        go_wp2
        go_ret
        exact ⟨ret_bool (by simp [Vm.goesOnB, h2]), (Below.refl _ _).alloc (Nat.le_refl _) _⟩
    · go_enter Tryd.func106, Tryd.ntmps106
      go_wp2
      go_ret
      exact ⟨ret_bool (by simp [Vm.goesOnB]; omega), (Below.refl _ _).alloc (Nat.le_refl _) _⟩
  · have hk' : (k == 1) = false := by simpa using hk
    by_cases h1 : 128 ≤ c
    · by_cases h2 : c ≤ 191
      · go_enter Tryd.func106, Tryd.ntmps106
        go_wp2
        go_ret
        exact ⟨ret_bool (by simp [Vm.goesOnB, hk, h1, h2]), (Below.refl _ _).alloc (Nat.le_refl _) _⟩
      · go_enter Tryd.func106, Tryd.ntmps106
        go_wp2
        go_ret
        exact ⟨ret_bool (by simp [Vm.goesOnB, hk, h2]), (Below.refl _ _).alloc (Nat.le_refl _) _⟩
    · go_enter Tryd.func106, Tryd.ntmps106
      go_wp2
      go_ret
      exact ⟨ret_bool (by simp [Vm.goesOnB, hk]; omega), (Below.refl _ _).alloc (Nat.le_refl _) _⟩

/-- The bounds of the halves of pairs, in memory. -/
structure TabHalf (w : World) : Prop where
  c0 : w.cell? ⟨2, 0, none⟩ = some (.int .i32 55296)
  c1 : w.cell? ⟨2, 1, none⟩ = some (.int .i32 56319)
  c2 : w.cell? ⟨2, 2, none⟩ = some (.int .i32 56320)
  c3 : w.cell? ⟨2, 3, none⟩ = some (.int .i32 57343)

theorem TabHalf.below {w w' : World} (h : TabHalf w) (hb : Below w.heap.size w w') : TabHalf w' :=
  ⟨(hb.cell (p := ⟨2, 0, none⟩) (block_lt h.c0)).trans h.c0, (hb.cell (p := ⟨2, 1, none⟩) (block_lt h.c0)).trans h.c1, (hb.cell (p := ⟨2, 2, none⟩) (block_lt h.c0)).trans h.c2, (hb.cell (p := ⟨2, 3, none⟩) (block_lt h.c0)).trans h.c3⟩
theorem TabSeq.below {w w' : World} (h : TabSeq w) (hb : Below w.heap.size w w') : TabSeq w' := by
  have hz := block_lt (h.up 0 (by omega))
  exact ⟨fun k hk => (hb.cell (p := ⟨_, _, none⟩) hz).trans (h.up k hk), fun k hk => (hb.cell (p := ⟨_, _, none⟩) hz).trans (h.size k hk), fun k hk => (hb.cell (p := ⟨_, _, none⟩) hz).trans (h.bits k hk),
    fun k hk => (hb.cell (p := ⟨_, _, none⟩) hz).trans (h.least k hk), fun k hk => (hb.cell (p := ⟨_, _, none⟩) hz).trans (h.most k hk)⟩

set_option maxHeartbeats 400000 in
theorem alone_any (u : Int) (w : World) (ht : TabHalf w) :
    Calls Tryd.prog 108 #[.int .i32 u] w fun e w' => e = .returned (.int .i32 (Vm.aloneI u)) ∧ Below w.heap.size w w' := by
  have hz : 2 < w.heap.size := block_lt ht.c0
  obtain ⟨c0, c1, c2, c3⟩ := ht
  have i0 : ∀ w, (Instr.index 178 (.agg #[.int .i32 55296, .int .i32 56319, .int .i32 56320, .int .i32 57343]) (.int .i64 0)).run Tryd.prog w = .ok (.agg #[.int .i32 55296, .int .i32 56319]) w := fun _ => by kernel_rfl
  have i1 : ∀ w, (Instr.index 178 (.agg #[.int .i32 55296, .int .i32 56319, .int .i32 56320, .int .i32 57343]) (.int .i64 1)).run Tryd.prog w = .ok (.agg #[.int .i32 56320, .int .i32 57343]) w := fun _ => by kernel_rfl
  have hcase : u < 55296 ∨ (55296 ≤ u ∧ u ≤ 56319) ∨ (56320 ≤ u ∧ u ≤ 57343) ∨ 57343 < u := by omega
  rcases hcase with h | ⟨h, h'⟩ | ⟨h, h'⟩ | h
  · have ea : Vm.aloneI u = u := by unfold Vm.aloneI; rw [if_neg (by omega)]
    rw [ea]; clear ea
    have g1 : ¬ 55296 ≤ u := by omega
    have g2 : ¬ 56320 ≤ u := by omega
    go_enter Tryd.func108, Tryd.ntmps108
    go_wp2
    refine wp_loop_rounds 3 ?_
    rw [rounds_succ]
    go_wp2
    rw [rounds_succ]
    go_wp2
    rw [rounds_succ]
    go_wp2
    go_ret
    exact ⟨rfl, by repeat (first | exact Below.refl _ _ | refine Below.alloc ?_ (by simp) _)⟩
  · have ea : Vm.aloneI u = -1 := by unfold Vm.aloneI; rw [if_pos (by omega)]
    rw [ea]; clear ea
    go_enter Tryd.func108, Tryd.ntmps108
    go_wp2
    refine wp_loop_rounds 1 ?_
    rw [rounds_succ]
    go_wp2
    go_ret
    exact ⟨rfl, by repeat (first | exact Below.refl _ _ | refine Below.alloc ?_ (by simp) _)⟩
  · have ea : Vm.aloneI u = -1 := by unfold Vm.aloneI; rw [if_pos (by omega)]
    rw [ea]; clear ea
    have g1 : 55296 ≤ u := by omega
    have g2 : ¬ u ≤ 56319 := by omega
    go_enter Tryd.func108, Tryd.ntmps108
    go_wp2
    refine wp_loop_rounds 2 ?_
    rw [rounds_succ]
    go_wp2
    rw [rounds_succ]
    go_wp2
    go_ret
    exact ⟨rfl, by repeat (first | exact Below.refl _ _ | refine Below.alloc ?_ (by simp) _)⟩
  · have ea : Vm.aloneI u = u := by unfold Vm.aloneI; rw [if_neg (by omega)]
    rw [ea]; clear ea
    have g1 : 55296 ≤ u := by omega
    have g2 : ¬ u ≤ 56319 := by omega
    have g3 : 56320 ≤ u := by omega
    have g4 : ¬ u ≤ 57343 := by omega
    go_enter Tryd.func108, Tryd.ntmps108
    go_wp2
    refine wp_loop_rounds 3 ?_
    rw [rounds_succ]
    go_wp2
    rw [rounds_succ]
    go_wp2
    rw [rounds_succ]
    go_wp2
    go_ret
    exact ⟨rfl, by repeat (first | exact Below.refl _ _ | refine Below.alloc ?_ (by simp) _)⟩
end Go.Proofs.YtoejbngihecafaaDoor
