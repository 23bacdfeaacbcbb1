import Derived.Test.YtjbfgnhkgjigpaaGreatDoorGb1
import Derived.Test.YtjbfgnhkgjigpaaGreatDoorGb3
namespace Go.Proofs.YtjbfgnhkgjigpaaGreatDoor
open Go.RowKit
variable {T : World → Prop} {D : World → Nat → Int → Bool → ByteArray → Prop}

set_option maxRecDepth 100000 in
set_option maxHeartbeats 1000000 in
theorem loaded_ok (api : Api T D) (b : ByteArray) (mode : Int) (w : World) (ht : T w) (hs : b.size ≤ 1099511627000) (h0 : 0 ≤ mode) (h7 : mode ≤ 7) :
    Calls Tryz.prog 43 #[.string b, .int .i64 mode] w fun e w' => ∃ q p r, e = .returned (.tuple #[.pointer (some ⟨q, 0, none⟩), .bool true]) ∧ w'.cell? ⟨q, 0, none⟩ = some (.pointer (some ⟨p, 0, none⟩)) ∧ w'.cell? ⟨q, 1, none⟩ = some (.pointer (some ⟨r, 0, none⟩)) ∧
      D w' p (encOf b mode) (ofMark b (encOf b mode)) (ofBody b (encOf b mode)) ∧ RDoc w' r (encOf b mode) (ofMark b (encOf b mode)) (ofBody b (encOf b mode)) ∧ Below w.heap.size w w' := by
  have L := hide2 (fun w h => api.load b mode w h (by omega) h0 h7)
  have R := hide2 (fun w => rload_ok b mode w (by omega) h0 h7)
  go_enter Tryz.func43, Tryz.ntmps43
  go_wp2_with fail
  refine (L.out w ht).mono ?_
  rintro e w1 ⟨p, rfl, hd, hb1⟩
  go_wp2_with fail
  refine (R.out w1).mono ?_
  rintro e w2 ⟨r, rfl, hr1, hrd, hb2⟩
  have hd2 := api.low hd hb2
  have hb12 := hb1.trans (hb2.mono hb1.size)
  go_wp2_with fail
  have hba := (Below.refl w2.heap.size w2).alloc (Nat.le_refl _) (.cells #[.pointer (some ⟨p, 0, none⟩), .pointer (some ⟨r, 0, none⟩)] 87)
  go_ret2
  exact ⟨w2.heap.size, p, r, rfl, by simp, by simp, api.low hd2 hba, hrd.below hba, hb12.trans (hba.mono hb12.size)⟩

set_option maxRecDepth 100000 in
set_option maxHeartbeats 1000000 in
theorem loaded_no (api : Api T D) (b : ByteArray) (mode : Int) (w : World) (ht : T w) (h : mode < 0 ∨ 7 < mode) :
    Calls Tryz.prog 43 #[.string b, .int .i64 mode] w fun e w' => ∃ q, e = .returned (.tuple #[.pointer (some ⟨q, 0, none⟩), .bool true]) ∧ w'.cell? ⟨q, 0, none⟩ = some (.pointer none) ∧ Below w.heap.size w w' := by
  have L := hide2 (fun w k => api.load_no b mode w k h)
  have R := hide2 (fun w => rload_no b mode w h)
  go_enter Tryz.func43, Tryz.ntmps43
  go_wp2_with fail
  refine (L.out w ht).mono ?_
  rintro e w1 ⟨rfl, hb1⟩
  go_wp2_with fail
  refine (R.out w1).mono ?_
  rintro e w2 ⟨rfl, rfl⟩
  go_wp2_with fail
  have hba := (Below.refl w2.heap.size w2).alloc (Nat.le_refl _) (.cells #[.pointer none, .pointer none] 87)
  go_ret2
  exact ⟨w2.heap.size, rfl, by simp, hb1.trans (hba.mono hb1.size)⟩

end Go.Proofs.YtjbfgnhkgjigpaaGreatDoor

namespace Go.Proofs.YtjbfgnhkgjigpaaGreatDoor
open Go.RowKit

set_option maxHeartbeats 400000 in
theorem lpick_any (c n : Int) (w : World) (h1 : -9223372036854775808 ≤ c) (h2 : c ≤ 9223372036854775807) (hn : 0 < n) (hx : n ≤ 9223372036854775807) :
    Calls Tryz.prog 9 #[.int .i64 c, .int .i64 n] w fun e w' => e = .returned (.int .i64 (Vm.pick c n)) ∧ w' = w := by
  have hb := Vm.pick_bd c n hn
  have hn0 : ¬ n = 0 := by omega
  by_cases h : c < 0
  · have e : Vm.pick c n = (-(c + 1)).tmod n := by unfold Vm.pick; rw [if_pos h, emod_tmod _ _ (by omega)]
    have e2 : (-(c + 1)).tmod n = -((c + 1).tmod n) := Int.neg_tmod _ _
    rw [e, e2] at hb ⊢; clear e e2
    go_enter Tryz.func9, Tryz.ntmps9
    go_wp2
    go_ret
    exact ⟨rfl, rfl⟩
  · have e : Vm.pick c n = c % n := by unfold Vm.pick; rw [if_neg h]
    rw [e] at hb ⊢; clear e
    go_enter Tryz.func9, Tryz.ntmps9
    go_wp2
    go_ret
    exact ⟨rfl, rfl⟩
end Go.Proofs.YtjbfgnhkgjigpaaGreatDoor
