import Derived.Test.YtoejbngihecafaaDoorLaw5
namespace Go.Proofs.YtoejbngihecafaaDoor
open Go.RowKit
variable {T : World → Prop} {D : World → Nat → Int → Bool → ByteArray → Prop}

set_option maxRecDepth 100000 in
set_option maxHeartbeats 1000000 in
theorem places_any (api : ApiL T D) (b : ByteArray) (mode o line col : Int) (w : World) (ht : T w) (hs : b.size ≤ 1099511627000) :
    Calls Tryd.prog 4 #[.string b, .int .i64 mode, .int .i64 o, .int .i64 line, .int .i64 col] w fun e w' => e = .returned (.bool true) ∧ Below w.heap.size w w' := by
  by_cases h : 0 ≤ mode ∧ mode ≤ 7
  · have L := hide2 (loaded_ok api.toApi b mode w ht hs h.1 h.2)
    have he := encOf_bd b mode
    have hbs := ofBody_size b (encOf b mode)
    go_enter Tryd.func4, Tryd.ntmps4
    go_wp2_with fail
    refine L.out.mono ?_
    rintro e w1 ⟨q, p, r, rfl, c0, c1, hd, hr, hb1⟩
    have K := hide2 (placed_any api q p r _ _ _ o line col w1 (api.tab ht hb1) c0 c1 hd hr (by omega) he.1 he.2)
    go_wp2_with fail
    refine K.out.mono ?_
    rintro e w2 ⟨rfl, hb2⟩
    go_wp2
    go_ret
    exact ⟨rfl, hb1.trans (hb2.mono hb1.size)⟩
  · have L := hide2 (loaded_no api.toApi b mode w ht (by omega))
    go_enter Tryd.func4, Tryd.ntmps4
    go_wp2_with fail
    refine L.out.mono ?_
    rintro e w1 ⟨q, rfl, c0, hb1⟩
    go_wp2
    go_ret
    exact ⟨rfl, hb1⟩
end Go.Proofs.YtoejbngihecafaaDoor
