import Derived.Test.YtoejbngihecafaaGreatDoorKeep1
namespace Go.Proofs.YtoejbngihecafaaGreatDoor
open Go.RowKit

set_option maxHeartbeats 400000 in
theorem lpick_any (c n : Int) (w : World) (h1 : -9223372036854775808 ≤ c) (h2 : c ≤ 9223372036854775807) (hn : 0 < n) (hx : n ≤ 9223372036854775807) :
    Calls Tryz.prog 12 #[.int .i64 c, .int .i64 n] w fun e w' => e = .returned (.int .i64 (Vm.pick c n)) ∧ w' = w := by
  have hb := Vm.pick_bd c n hn
  have hn0 : ¬ n = 0 := by omega
  by_cases h : c < 0
  · have e : Vm.pick c n = (-(c + 1)).tmod n := by unfold Vm.pick; rw [if_pos h, emod_tmod _ _ (by omega)]
    have e2 : (-(c + 1)).tmod n = -((c + 1).tmod n) := Int.neg_tmod _ _
    rw [e, e2] at hb ⊢; clear e e2
    go_enter Tryz.func12, Tryz.ntmps12
    go_wp2
    go_ret
    exact ⟨rfl, rfl⟩
  · have e : Vm.pick c n = c % n := by unfold Vm.pick; rw [if_neg h]
    rw [e] at hb ⊢; clear e
    go_enter Tryz.func12, Tryz.ntmps12
    go_wp2
    go_ret
    exact ⟨rfl, rfl⟩
end Go.Proofs.YtoejbngihecafaaGreatDoor
