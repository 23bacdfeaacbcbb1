import Derived.Test.YtoejbngihecafaaDoorRef1toRef3
namespace Vm
/-- Which of n things a raw number speaks of. -/
def pick (c n : Int) : Int := (if c < 0 then -(c + 1) else c) % n
theorem pick_bd (c n : Int) (h : 0 < n) : 0 ≤ pick c n ∧ pick c n < n := ⟨Int.emod_nonneg _ (by omega), Int.emod_lt_of_pos _ h⟩
end Vm
namespace Go.Proofs.YtoejbngihecafaaDoor
open Go.RowKit

theorem wraps_i64x (n : Int) (h₀ : 0 ≤ n) (h₁ : n < 2 ^ 62) : IntKind.i64.wrap n = n := by rw [IntKind.wrap_i64]; omega
theorem i64_and63 (x : Int) (h₀ : 0 ≤ x) (h₁ : x ≤ 2097151) : bits .and .i64 x 63 = x % 64 := bits_mask .i64 62 (by decide) wraps_i64x 6 (by decide) x h₀ (by omega)
theorem i64_or (i : Nat) (x y : Int) (h0 : 0 ≤ x) (h1 : x % 2 ^ i = 0) (h2 : x ≤ 4294967296) (h3 : 0 ≤ y) (h4 : y < 2 ^ i) (h5 : y ≤ 4294967296) : bits .or .i64 x y = x + y :=
  bits_join .i64 62 (by decide) wraps_i64x i x y h0 h1 (by omega) h3 h4 (by omega)
theorem nums_eq {a b : List Int} (h : a = b) : Ending.returned (.string (strOfNums a)) = .returned (.string (strOfNums b)) := by rw [h]
theorem low6 (x : Int) (h0 : 0 ≤ x) (h1 : x ≤ 2097151) : bits .or .i64 128 (bits .and .i64 x 63) % 256 = 128 + x % 64 := by
  rw [i64_and63 x h0 h1, i64_or 6 128 (x % 64) (by decide) (by decide) (by decide) (by omega) (by omega) (by omega)]; omega
set_option maxRecDepth 100000 in
set_option maxHeartbeats 400000 in
theorem kutf_any (n : Int) (w : World) (h0 : 0 ≤ n) (hx : n ≤ 2097151) :
    Calls Tryd.prog 25 #[.int .i64 n] w fun e w' => e = .returned (.string (strOfNums (Vm.utfL n))) ∧ Below w.heap.size w w' := by
  have k1 := conv1
  have k2 := conv2
  have k3 := conv3
  have k4 := conv4
  by_cases h1 : n < 128
  · go_enter Tryd.func25, Tryd.ntmps25
    go_wp2
    go_ret
    exact ⟨ret_str (by unfold Vm.utfL; rw [if_pos h1]), (Below.refl _ _).alloc (Nat.le_refl _) _⟩
  · by_cases h2 : n < 2048
    · have e : Vm.utfL n = [192 + n / 64, 128 + n % 64] := by unfold Vm.utfL; rw [if_neg h1, if_pos h2]
      rw [e]; clear e
      go_enter Tryd.func25, Tryd.ntmps25
      go_wp2
      go_ret
      refine ⟨nums_eq ?_, (Below.refl _ _).alloc (Nat.le_refl _) _⟩
      rw [low6 n h0 hx, i64_or 5 192 (n / 64) (by decide) (by decide) (by decide) (by omega) (by omega) (by omega)]
      congr 1; omega
    · by_cases h3 : n < 65536
      · have e : Vm.utfL n = [224 + n / 4096, 128 + n / 64 % 64, 128 + n % 64] := by unfold Vm.utfL; rw [if_neg h1, if_neg h2, if_pos h3]
        rw [e]; clear e
        go_enter Tryd.func25, Tryd.ntmps25
        go_wp2
        go_ret
        refine ⟨nums_eq ?_, (Below.refl _ _).alloc (Nat.le_refl _) _⟩
        rw [low6 n h0 hx, low6 (n / 64) (by omega) (by omega), i64_or 4 224 (n / 4096) (by decide) (by decide) (by decide) (by omega) (by omega) (by omega)]
        congr 1; omega
      · have e : Vm.utfL n = [240 + n / 262144, 128 + n / 4096 % 64, 128 + n / 64 % 64, 128 + n % 64] := by unfold Vm.utfL; rw [if_neg h1, if_neg h2, if_neg h3]
        rw [e]; clear e
        go_enter Tryd.func25, Tryd.ntmps25
        go_wp2
        go_ret
        refine ⟨nums_eq ?_, (Below.refl _ _).alloc (Nat.le_refl _) _⟩
        rw [low6 n h0 hx, low6 (n / 64) (by omega) (by omega), low6 (n / 4096) (by omega) (by omega), i64_or 3 240 (n / 262144) (by decide) (by decide) (by decide) (by omega) (by omega) (by omega)]
        congr 1; omega

theorem emod_tmod (c n : Int) (h : 0 ≤ c) : c.tmod n = c % n := Int.tmod_eq_emod_of_nonneg h
set_option maxHeartbeats 400000 in
theorem kpick_any (c n : Int) (w : World) (h1 : -9223372036854775808 ≤ c) (h2 : c ≤ 9223372036854775807) (hn : 0 < n) (hx : n ≤ 9223372036854775807) :
    Calls Tryd.prog 13 #[.int .i64 c, .int .i64 n] w fun e w' => e = .returned (.int .i64 (Vm.pick c n)) ∧ w' = w := by
  have hb := Vm.pick_bd c n hn
  have hn0 : ¬ n = 0 := by omega
  by_cases h : c < 0
  · have e : Vm.pick c n = (-(c + 1)).tmod n := by unfold Vm.pick; rw [if_pos h, emod_tmod _ _ (by omega)]
    have e2 : (-(c + 1)).tmod n = -((c + 1).tmod n) := Int.neg_tmod _ _
    rw [e, e2] at hb ⊢; clear e e2
    go_enter Tryd.func13, Tryd.ntmps13
    go_wp2
    go_ret
    exact ⟨rfl, rfl⟩
  · have e : Vm.pick c n = c % n := by unfold Vm.pick; rw [if_neg h]
    rw [e] at hb ⊢; clear e
    go_enter Tryd.func13, Tryd.ntmps13
    go_wp2
    go_ret
    exact ⟨rfl, rfl⟩
end Go.Proofs.YtoejbngihecafaaDoor
