import Derived.Test.YtoejbngihecafaaDoorLaw1toLaw2
namespace Go.Proofs.YtoejbngihecafaaDoor
open Go.RowKit
variable {T : World → Prop} {D : World → Nat → Int → Bool → ByteArray → Prop}

set_option maxRecDepth 100000 in
set_option maxHeartbeats 2000000 in
theorem same_any (api : Api T D) (p r : Nat) (enc : Int) (mark : Bool) (body : ByteArray) (w : World) (ht : T w) (hd : D w p enc mark body) (he : D w r enc mark body) :
    Calls Tryd.prog 19 #[.pointer (some ⟨p, 0, none⟩), .pointer (some ⟨r, 0, none⟩)] w fun e w' => e = .returned (.bool true) ∧ Below w.heap.size w w' := by
  have a1 := fun p w => api.save p enc mark body w
  have a2 := fun p w => api.text p enc mark body w
  have a3 := fun p w => api.state p enc mark body w
  obtain ⟨n2, n3, n4, n5, n6, t7, n8, hsh⟩ := shown_parts enc mark body
  simp only [hsh] at a3
  clear hsh
  generalize bytesOf enc mark body = X1 at *
  generalize strOfNums (Vm.textL (Vm.atoms enc body.data.toList)) = X2 at *
  have A1 := hide2 a1
  have A2 := hide2 a2
  have A3 := hide2 a3
  clear a1 a2 a3
  go_enter Tryd.func19, Tryd.ntmps19
  go_wp2_with fail
  refine (A1.out p w ht hd).mono ?_
  rintro e w1 ⟨rfl, hb1⟩
  have ht1 := api.tab ht hb1
  have hd1 := api.low hd hb1
  have he1 := api.low he hb1
  go_wp2_with fail
  refine (A1.out r w1 ht1 he1).mono ?_
  rintro e w2 ⟨rfl, hb2⟩
  have ht2 := api.tab ht1 hb2
  have hd2 := api.low hd1 hb2
  have he2 := api.low he1 hb2
  have hb02 := hb1.trans (hb2.mono hb1.size)
  go_wp2_with fail
  refine (A2.out p w2 ht2 hd2).mono ?_
  rintro e w3 ⟨rfl, hb3⟩
  have ht3 := api.tab ht2 hb3
  have hd3 := api.low hd2 hb3
  have he3 := api.low he2 hb3
  have hb03 := hb02.trans (hb3.mono hb02.size)
  go_wp2_with fail
  refine (A2.out r w3 ht3 he3).mono ?_
  rintro e w4 ⟨rfl, hb4⟩
  have ht4 := api.tab ht3 hb4
  have hd4 := api.low hd3 hb4
  have he4 := api.low he3 hb4
  have hb04 := hb03.trans (hb4.mono hb03.size)
  clear ht ht1 ht2 ht3 hd hd1 hd2 hd3 he he1 he2 he3 hb1 hb2 hb3 hb4 hb02 hb03
  go_wp2_with fail
  refine (A3.out p w4 ht4 hd4).mono ?_
  rintro e w5 ⟨rfl, hb5⟩
  have hba := (Below.refl w5.heap.size w5).alloc (Nat.le_refl _) (.cells #[.int .i64 enc, .bool mark, .int .i64 n2, .int .i64 n3, .int .i64 n4, .int .i64 n5, .int .i64 n6, .bool t7, .int .i64 n8] 50)
  have hb5' := hb5.trans (hba.mono hb5.size)
  have ht5 := api.tab ht4 hb5'
  have he5 := api.low he4 hb5'
  have BX := hide2 (Bx9.new w5 50 (.int .i64 enc) (.bool mark) (.int .i64 n2) (.int .i64 n3) (.int .i64 n4) (.int .i64 n5) (.int .i64 n6) (.bool t7) (.int .i64 n8))
  have hb05 := hb04.trans (hb5'.mono hb04.size)
  go_wp2_with fail
  refine (A3.out r _ ht5 he5).mono ?_
  rintro e w6 ⟨rfl, hb6⟩
  have hb06 := hb05.trans (hb6.mono hb05.size)
  have bx6 := BX.out.below hb6
  have hbb := (Below.refl w6.heap.size w6).alloc (Nat.le_refl _) (.cells #[.int .i64 enc, .bool mark, .int .i64 n2, .int .i64 n3, .int .i64 n4, .int .i64 n5, .int .i64 n6, .bool t7, .int .i64 n8] 50)
  have hb07 := hb06.trans (hbb.mono hb06.size)
  have hz : w5.heap.size < w6.heap.size := block_lt bx6.c0
  obtain ⟨c0, c1, c2, c3, c4, c5, c6, c7, c8, _⟩ := bx6
  clear BX ht4 hd4 he4 ht5 he5 A1 A2 A3 hb5 hb5' hba hb6 hb04 hb05 hb06 hbb
  go_wp2
  go_ret
  exact ⟨rfl, hb07⟩
end Go.Proofs.YtoejbngihecafaaDoor
