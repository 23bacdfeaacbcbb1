import Derived.Test.YtoejbngihecafaaDoorLaw1toLaw2
import Derived.Test.YtoejbngihecafaaDoorMath12
import Derived.Test.YtoejbngihecafaaDoorMath1toMath16
import Derived.Test.YtoejbngihecafaaDoorQb
namespace Go.Proofs.YtoejbngihecafaaDoor
open Go.RowKit
variable {T : World → Prop} {D : World → Nat → Int → Bool → ByteArray → Prop}

theorem vi64 {a b : Int} (h : a = b) : Value.int .i64 a = .int .i64 b := by rw [h]
set_option maxRecDepth 100000 in
set_option maxHeartbeats 2000000 in
theorem counted_any (api : Api T D) (b : ByteArray) (c : Int) (w : World) (ht : T w) (hb : b.size ≤ 1073741824) (h1 : -9223372036854775808 ≤ c) (h2 : c ≤ 9223372036854775807) :
    Calls Tryd.prog 7 #[.string b, .int .i64 c] w fun e w' => e = .returned (.bool true) ∧ Below w.heap.size w w' := by
  have O := hide2 (opened_any api b c w ht (by omega) h1 h2)
  have hbs := ofBody_size b (encOf b (Vm.pick c 8))
  generalize encOf b (Vm.pick c 8) = enc at *
  generalize ofMark b enc = mark at *
  generalize ofBody b enc = body at *
  have a2 := fun p w => api.text p enc mark body w
  have a3 := fun p w => api.state p enc mark body w
  have hch := Vm.atoms_ch enc body.data.toList
  have hlf := Vm.atoms_lf enc body.data.toList
  have hok := Vm.atoms_ok enc body.data.toList
  have hbl : body.data.toList.length = body.size := rfl
  have hal : (Vm.atoms enc body.data.toList).length ≤ 1073741824 := Nat.le_trans (Vm.atoms_len enc body.data.toList) (by omega)
  unfold shown at a3
  obtain ⟨tl, htl⟩ : ∃ tl, tl = decide (Vm.sizeA (Vm.atoms enc body.data.toList) < body.size) := ⟨_, rfl⟩
  rw [← htl] at a3
  generalize Vm.atoms enc body.data.toList = A at *
  generalize Vm.endingOf (Vm.cntK A 0) (Vm.cntK A 1) (Vm.cntK A 2) = en at *
  obtain ⟨t, htx⟩ : ∃ t, t = strOfNums (Vm.textL A) := ⟨_, rfl⟩
  rw [← htx] at a2
  have A2 := hide2 a2
  have A3 := hide2 a3
  have HT := hide2 htx
  clear a2 a3 htx htl
  go_enter Tryd.func7, Tryd.ntmps7
  go_wp2_with fail
  refine O.out.mono ?_
  rintro e w1 ⟨p, rfl, hd, hb1⟩
  have ht1 := api.tab ht hb1
  go_wp2_with fail
  refine (A2.out p w1 ht1 hd).mono ?_
  rintro e w2 ⟨rfl, hb2⟩
  have ht2 := api.tab ht1 hb2
  have hd2 := api.low hd hb2
  have hb02 := hb1.trans (hb2.mono hb1.size)
  go_wp2_with fail
  refine (A3.out p w2 ht2 hd2).mono ?_
  rintro e w3 ⟨rfl, hb3⟩
  have hb03 := hb02.trans (hb3.mono hb02.size)
  have BX := hide2 (Bx9.new w3 50 (.int .i64 enc) (.bool mark) (.int .i64 (Vm.bytesA A)) (.int .i64 A.length) (.int .i64 (Vm.unitsA A)) (.int .i64 ((Vm.linesA A : Int) + 1)) (.int .i64 (Vm.cntK A 4)) (.bool tl) (.int .i64 en))
  have hba := (Below.refl w3.heap.size w3).alloc (Nat.le_refl _) (.cells #[.int .i64 enc, .bool mark, .int .i64 (Vm.bytesA A), .int .i64 A.length, .int .i64 (Vm.unitsA A), .int .i64 ((Vm.linesA A : Int) + 1), .int .i64 (Vm.cntK A 4), .bool tl, .int .i64 en] 50)
  have htsz : t.size = Vm.bytesA A := by rw [HT.out, ← Vm.textL_len]; simp [strOfNums, ByteArray.size]
  have HTS := hide2 htsz
  clear htsz
  go_wp2
  go_loopw [9, 10, 11, 12, 13] (fun x9 x10 x11 x12 x13 wx => ∃ k : Nat, k ≤ A.length ∧ x9 = .int .i64 k ∧ x10 = .int .i64 (Vm.unitsA (A.take k)) ∧ x11 = .int .i64 ((Vm.linesA (A.take k) : Int) + 1) ∧ x12 = .int .i64 (Vm.oddA (A.take k)) ∧ x13 = .int .i64 (Vm.bytesA (A.take k)) ∧ Bx9 wx w3.heap.size (.int .i64 enc) (.bool mark) (.int .i64 (Vm.bytesA A)) (.int .i64 A.length) (.int .i64 (Vm.unitsA A)) (.int .i64 ((Vm.linesA A : Int) + 1)) (.int .i64 (Vm.cntK A 4)) (.bool tl) (.int .i64 en) ∧ Below w3.heap.size w3 wx) (fun x9 _ _ _ _ _ => A.length - (intOf x9).toNat)
  case atStart => exact ⟨0, Nat.zero_le _, rfl, rfl, rfl, rfl, rfl, BX.out, hba⟩
  case round =>
    obtain ⟨k, hk, rfl, rfl, rfl, rfl, rfl, hbk, hbx⟩ := hrel
    by_cases hlt : k < A.length
    · obtain ⟨x, hx⟩ : ∃ x, A[k]? = some x := ⟨A[k], List.getElem?_eq_getElem hlt⟩
      have hmem := List.mem_of_getElem? hx
      have hv := (hch x hmem).1
      have h13 := (hch x hmem).2
      have hl := hlf x hmem
      have hvr : 0 ≤ Vm.chA x ∧ Vm.chA x ≤ 1114111 := ⟨(hok x hmem).2.2.2.2.1, (hok x hmem).2.2.2.2.2.1⟩
      have hby := bytes_at HT.out hx hv
      have hex := ext_at HT.out hx
      have T1 := hide2 (Vm.bytesA_take hx)
      have T2 := hide2 (Vm.unitsA_take hx)
      have T3 := hide2 (Vm.linesA_take hx)
      have T5 := hide2 (Vm.oddA_take hx)
      have HBY := hide2 hby
      have HEX := hide2 hex
      have m1 := Vm.bytesA_le (A.take k)
      have m2 := Vm.unitsA_le (A.take k)
      have m3 := Vm.linesA_le (A.take k)
      have m5 := Vm.oddA_le (A.take k)
      have mt : (A.take k).length ≤ k := by simp; omega
      clear hby hex hch hlf
      have hlen : Vm.lenA x = Vm.utfLen (Vm.chA x) := rfl
      generalize hrr : Vm.chA x = r at *
      have HRR := hide2 hrr
      have hend : ∀ (wx : World), Below wr.heap.size wr wx → ∀ (u l o n : Int), u = (Vm.unitsA (A.take k) : Int) + (if 65535 < r then 2 else 1) → l = (Vm.linesA (A.take k) : Int) + 1 + (if r = 10 then 1 else 0) → o = (Vm.oddA (A.take k) : Int) + (if r = 65533 then 1 else 0) → n = (Vm.bytesA (A.take k) : Int) + (Vm.utfLen r : Int) →
          (∃ k1 : Nat, k1 ≤ A.length ∧ Value.int .i64 ((k : Int) + 1) = .int .i64 k1 ∧ Value.int .i64 u = .int .i64 (Vm.unitsA (A.take k1)) ∧ Value.int .i64 l = .int .i64 ((Vm.linesA (A.take k1) : Int) + 1) ∧ Value.int .i64 o = .int .i64 (Vm.oddA (A.take k1)) ∧ Value.int .i64 n = .int .i64 (Vm.bytesA (A.take k1)) ∧ Bx9 wx w3.heap.size (.int .i64 enc) (.bool mark) (.int .i64 (Vm.bytesA A)) (.int .i64 A.length) (.int .i64 (Vm.unitsA A)) (.int .i64 ((Vm.linesA A : Int) + 1)) (.int .i64 (Vm.cntK A 4)) (.bool tl) (.int .i64 en) ∧ Below w3.heap.size w3 wx) ∧
          A.length - (intOf (Value.int .i64 ((k : Int) + 1))).toNat < A.length - (intOf (Value.int .i64 (k : Int))).toNat := by
        intro wx hwx u l o n hu hl' ho hn
        subst hu hl' ho hn
        have hun : Vm.unA x = if 65535 < r then 2 else 1 := by unfold Vm.unA; rw [hrr]
        have hlx : (if x.1 ≤ 2 then (1 : Nat) else 0) = if r = 10 then 1 else 0 := by
          have : (r = 10 ↔ x.1 ≤ 2) := by rw [← hrr]; exact hl
          by_cases g : r = 10
          · rw [if_pos g, if_pos (this.1 g)]
          · rw [if_neg g, if_neg (fun h => g (this.2 h))]
        refine ⟨⟨k + 1, by omega, rfl, vi64 ?_, vi64 ?_, vi64 ?_, vi64 ?_, hbk.below hwx, hbx.trans (hwx.mono hbx.size)⟩, ?_⟩
        · rw [T2.out, hun]; split <;> simp
        · rw [T3.out, hlx]; split <;> simp <;> omega
        · rw [T5.out]; split <;> simp
        · rw [T1.out, hlen]; simp
        · show A.length - ((k : Int) + 1).toNat < A.length - ((k : Int)).toNat
          omega
      have HEND := hide2 hend
      clear hend hrr
      generalize hi : Vm.bytesA (A.take k) = i at *
      have HI := hide2 hi
      clear hi
      by_cases c1 : r < 128
      · have hn : Vm.utfLen r = 1 := by unfold Vm.utfLen; rw [if_pos c1]
        have hu : Vm.utfL r = [r] := by unfold Vm.utfL; rw [if_pos c1]
        obtain ⟨g0, e0⟩ := HBY.out 0 (by omega)
        rw [hu] at e0
        simp only [Nat.add_zero, List.getD_cons_zero] at g0 e0
        have ex := HEX.out
        rw [hlen, hn, hu] at ex
        have g0I : (i : Int) < (t.size : Int) := by omega
        have g1I : ¬ (t.size : Int) < (i : Int) + 1 := by omega
        have EX := hide2 ex
        have d1 : ¬ 240 ≤ r := by omega
        have d2 : ¬ 224 ≤ r := by omega
        have d3 : ¬ 192 ≤ r := by omega
        clear ex
        go_wp2_with fail
        refine wp_loop_rounds 1 ?_
        rw [rounds_succ]
        go_wp2_with fail
        have hv1 : ¬ 1114111 < r := by omega
        have hv2 : ¬ 55296 ≤ r := by omega
        have hw1 : IntKind.i64.wrap ((i : Int) + 1) = (i : Int) + 1 := by rw [IntKind.wrap_i64]; omega
        have hx0 : (0 : Int) ≤ (i : Int) := by omega
        have hx1 : (i : Int) ≤ (i : Int) + 1 := by omega
        have hx2 : (i : Int) + 1 ≤ (t.size : Int) := by omega
        have hd1 : decide (1114111 < r) = false := by simp; omega
        have hd2 : decide (55296 ≤ r) = false := by simp; omega
        have hd3 : decide (r = 13) = false := by simpa using h13
        have hi1 : ((i : Int) + 1).toNat = i + 1 := by omega
        have hi0 : ((i : Int)).toNat = i := by omega
        have ex := EX.out
        have hmo : Tryd.prog.follows Departure.mixedOrders = true := by kernel_rfl
        refine wp_region_bl hmo (by kernel_rfl) ?_
        repeat (go_big_quiet_step (refine Calls.bl_of (kutf_any r _ hvr.1 (by omega))))
        refine wpQuiet_nil ?_
        intro _ hw'
        obtain ⟨x5, hx5⟩ := hw'
        subst hx5
        go_wp2_with fail
        all_goals simp only [beq_iff_eq, beq_eq_false_iff_ne, ne_eq] at *
        all_goals exact HEND.out _ x5.2 _ _ _ _ (by split <;> omega) (by split <;> omega) (by split <;> omega) (by rw [hn]; rfl)
      · by_cases c2 : r < 2048
        · have hn : Vm.utfLen r = 2 := by unfold Vm.utfLen; rw [if_neg c1, if_pos c2]
          have hu : Vm.utfL r = [192 + r / 64, 128 + r % 64] := by unfold Vm.utfL; rw [if_neg c1, if_pos c2]
          obtain ⟨g0, e0⟩ := HBY.out 0 (by omega)
          obtain ⟨g1, e1⟩ := HBY.out 1 (by omega)
          rw [hu] at e0 e1
          simp only [Nat.add_zero, List.getD_cons_zero, List.getD_cons_succ] at g0 e0 e1
          obtain ⟨s0, hs0⟩ : ∃ q, q = r / 64 := ⟨_, rfl⟩
          obtain ⟨a0, ha0⟩ : ∃ a, a = 192 + r / 64 := ⟨_, rfl⟩
          rw [← ha0] at e0
          obtain ⟨a1, ha1⟩ : ∃ a, a = 128 + r % 64 := ⟨_, rfl⟩
          rw [← ha1] at e1
          obtain ⟨f1, hf1⟩ : ∃ a, a = r % 64 := ⟨_, rfl⟩
          have hm0 : bits .and .i64 a0 31 = s0 := by rw [i64_and31 a0 (by omega) (by omega)]; omega
          have hm1 : bits .and .i64 a1 63 = f1 := by rw [i64_and63 a1 (by omega) (by omega)]; omega
          have hor1 : bits .or .i64 (s0 * 64) f1 = r := by rw [i64_or 6 (s0 * 64) f1 (by omega) (by omega) (by omega) (by omega) (by omega) (by omega)]; omega
          have hsb0 : 0 ≤ s0 := by omega
          have hsc0 : s0 ≤ 17408 := by omega
          have hab0 : 0 ≤ a0 := by omega
          have hac0 : a0 ≤ 255 := by omega
          have hab1 : 0 ≤ a1 := by omega
          have hac1 : a1 ≤ 255 := by omega
          have d1 : ¬ 240 ≤ a0 := by omega
          have d2 : ¬ 224 ≤ a0 := by omega
          have d3 : 192 ≤ a0 := by omega
          have ex := HEX.out
          rw [hlen, hn] at ex
          have g0I : (i : Int) < (t.size : Int) := by omega
          have g1I : (i : Int) + 1 < (t.size : Int) := by omega
          have gnI : ¬ (t.size : Int) < (i : Int) + 2 := by omega
          have hw1 : IntKind.i64.wrap ((i : Int) + 1) = (i : Int) + 1 := by rw [IntKind.wrap_i64]; omega
          have hi1 : ((i : Int) + 1).toNat = i + 1 := by omega
          have hw2 : IntKind.i64.wrap ((i : Int) + 2) = (i : Int) + 2 := by rw [IntKind.wrap_i64]; omega
          have hi2 : ((i : Int) + 2).toNat = i + 2 := by omega
          have hi0 : ((i : Int)).toNat = i := by omega
          have EX := hide2 ex
          clear ex hu ha0 ha1 hs0 hf1
          go_wp2_with fail
          refine wp_loop_rounds 2 ?_
          rw [rounds_succ]
          go_wp2_with fail
          rw [rounds_succ]
          go_wp2_with fail
          have ex := EX.out
          have hvb := hv
          rw [Vm.validB_iff] at hvb
          have hv1 : ¬ 1114111 < r := by omega
          have hv2 : ¬ 55296 ≤ r := by omega
          have hx0 : (0 : Int) ≤ (i : Int) := by omega
          have hx1 : (i : Int) ≤ (i : Int) + 2 := by omega
          have hx2 : (i : Int) + 2 ≤ (t.size : Int) := by omega
          have hd1 : decide (1114111 < r) = false := by simp; omega
          have hd3 : decide (r = 13) = false := by simpa using h13
          have hmo : Tryd.prog.follows Departure.mixedOrders = true := by kernel_rfl
          have hd2 : decide (55296 ≤ r) = false := by simp; omega
          refine wp_region_bl hmo (by kernel_rfl) ?_
          repeat (go_big_quiet_step (refine Calls.bl_of (kutf_any r _ hvr.1 (by omega))))
          refine wpQuiet_nil ?_
          intro _ hw'
          obtain ⟨x5, hx5⟩ := hw'
          subst hx5
          go_wp2_with fail
          all_goals simp only [beq_eq_false_iff_ne, ne_eq] at *
          all_goals exact HEND.out _ x5.2 _ _ _ _ (by split <;> omega) (by split <;> omega) (by split <;> omega) (by rw [hn]; rfl)
        · by_cases c3 : r < 65536
          · have hn : Vm.utfLen r = 3 := by unfold Vm.utfLen; rw [if_neg c1, if_neg c2, if_pos c3]
            have hu : Vm.utfL r = [224 + r / 4096, 128 + r / 64 % 64, 128 + r % 64] := by unfold Vm.utfL; rw [if_neg c1, if_neg c2, if_pos c3]
            obtain ⟨g0, e0⟩ := HBY.out 0 (by omega)
            obtain ⟨g1, e1⟩ := HBY.out 1 (by omega)
            obtain ⟨g2, e2⟩ := HBY.out 2 (by omega)
            rw [hu] at e0 e1 e2
            simp only [Nat.add_zero, List.getD_cons_zero, List.getD_cons_succ] at g0 e0 e1 e2
            obtain ⟨s0, hs0⟩ : ∃ q, q = r / 4096 := ⟨_, rfl⟩
            obtain ⟨s1, hs1⟩ : ∃ q, q = r / 64 := ⟨_, rfl⟩
            obtain ⟨a0, ha0⟩ : ∃ a, a = 224 + r / 4096 := ⟨_, rfl⟩
            rw [← ha0] at e0
            obtain ⟨a1, ha1⟩ : ∃ a, a = 128 + r / 64 % 64 := ⟨_, rfl⟩
            rw [← ha1] at e1
            obtain ⟨a2, ha2⟩ : ∃ a, a = 128 + r % 64 := ⟨_, rfl⟩
            rw [← ha2] at e2
            obtain ⟨f1, hf1⟩ : ∃ a, a = r / 64 % 64 := ⟨_, rfl⟩
            obtain ⟨f2, hf2⟩ : ∃ a, a = r % 64 := ⟨_, rfl⟩
            have hm0 : bits .and .i64 a0 15 = s0 := by rw [i64_and15 a0 (by omega) (by omega)]; omega
            have hm1 : bits .and .i64 a1 63 = f1 := by rw [i64_and63 a1 (by omega) (by omega)]; omega
            have hor1 : bits .or .i64 (s0 * 64) f1 = s1 := by rw [i64_or 6 (s0 * 64) f1 (by omega) (by omega) (by omega) (by omega) (by omega) (by omega)]; omega
            have hm2 : bits .and .i64 a2 63 = f2 := by rw [i64_and63 a2 (by omega) (by omega)]; omega
            have hor2 : bits .or .i64 (s1 * 64) f2 = r := by rw [i64_or 6 (s1 * 64) f2 (by omega) (by omega) (by omega) (by omega) (by omega) (by omega)]; omega
            have hsb0 : 0 ≤ s0 := by omega
            have hsc0 : s0 ≤ 17408 := by omega
            have hsb1 : 0 ≤ s1 := by omega
            have hsc1 : s1 ≤ 17408 := by omega
            have hab0 : 0 ≤ a0 := by omega
            have hac0 : a0 ≤ 255 := by omega
            have hab1 : 0 ≤ a1 := by omega
            have hac1 : a1 ≤ 255 := by omega
            have hab2 : 0 ≤ a2 := by omega
            have hac2 : a2 ≤ 255 := by omega
            have d1 : ¬ 240 ≤ a0 := by omega
            have d2 : 224 ≤ a0 := by omega
            have ex := HEX.out
            rw [hlen, hn] at ex
            have g0I : (i : Int) < (t.size : Int) := by omega
            have g1I : (i : Int) + 1 < (t.size : Int) := by omega
            have g2I : (i : Int) + 2 < (t.size : Int) := by omega
            have gnI : ¬ (t.size : Int) < (i : Int) + 3 := by omega
            have hw1 : IntKind.i64.wrap ((i : Int) + 1) = (i : Int) + 1 := by rw [IntKind.wrap_i64]; omega
            have hi1 : ((i : Int) + 1).toNat = i + 1 := by omega
            have hw2 : IntKind.i64.wrap ((i : Int) + 2) = (i : Int) + 2 := by rw [IntKind.wrap_i64]; omega
            have hi2 : ((i : Int) + 2).toNat = i + 2 := by omega
            have hw3 : IntKind.i64.wrap ((i : Int) + 3) = (i : Int) + 3 := by rw [IntKind.wrap_i64]; omega
            have hi3 : ((i : Int) + 3).toNat = i + 3 := by omega
            have hi0 : ((i : Int)).toNat = i := by omega
            have EX := hide2 ex
            clear ex hu ha0 ha1 ha2 hs0 hs1 hf1 hf2
            go_wp2_with fail
            refine wp_loop_rounds 3 ?_
            rw [rounds_succ]
            go_wp2_with fail
            rw [rounds_succ]
            go_wp2_with fail
            rw [rounds_succ]
            go_wp2_with fail
            have ex := EX.out
            have hvb := hv
            rw [Vm.validB_iff] at hvb
            have hv1 : ¬ 1114111 < r := by omega
            have hx0 : (0 : Int) ≤ (i : Int) := by omega
            have hx1 : (i : Int) ≤ (i : Int) + 3 := by omega
            have hx2 : (i : Int) + 3 ≤ (t.size : Int) := by omega
            have hd1 : decide (1114111 < r) = false := by simp; omega
            have hd3 : decide (r = 13) = false := by simpa using h13
            have hmo : Tryd.prog.follows Departure.mixedOrders = true := by kernel_rfl
            by_cases hv2 : 55296 ≤ r
            · have hv3 : ¬ r < 57344 := by omega
              have hd2 : decide (55296 ≤ r) = true := by simp; omega
              have hd4 : decide (r < 57344) = false := by simp; omega
              refine wp_region_bl hmo (by kernel_rfl) ?_
              repeat (go_big_quiet_step (refine Calls.bl_of (kutf_any r _ hvr.1 (by omega))))
              refine wpQuiet_nil ?_
              intro _ hw'
              obtain ⟨x5, hx5⟩ := hw'
              subst hx5
              go_wp2_with fail
              all_goals simp only [beq_iff_eq, beq_eq_false_iff_ne, ne_eq] at *
              all_goals exact HEND.out _ x5.2 _ _ _ _ (by split <;> omega) (by split <;> omega) (by split <;> omega) (by rw [hn]; rfl)
            · have hd2 : decide (55296 ≤ r) = false := by simp; omega
              refine wp_region_bl hmo (by kernel_rfl) ?_
              repeat (go_big_quiet_step (refine Calls.bl_of (kutf_any r _ hvr.1 (by omega))))
              refine wpQuiet_nil ?_
              intro _ hw'
              obtain ⟨x5, hx5⟩ := hw'
              subst hx5
              go_wp2_with fail
              all_goals simp only [beq_eq_false_iff_ne, ne_eq] at *
              all_goals exact HEND.out _ x5.2 _ _ _ _ (by split <;> omega) (by split <;> omega) (by split <;> omega) (by rw [hn]; rfl)
          · have hn : Vm.utfLen r = 4 := by unfold Vm.utfLen; rw [if_neg c1, if_neg c2, if_neg c3]
            have hu : Vm.utfL r = [240 + r / 262144, 128 + r / 4096 % 64, 128 + r / 64 % 64, 128 + r % 64] := by unfold Vm.utfL; rw [if_neg c1, if_neg c2, if_neg c3]
            obtain ⟨g0, e0⟩ := HBY.out 0 (by omega)
            obtain ⟨g1, e1⟩ := HBY.out 1 (by omega)
            obtain ⟨g2, e2⟩ := HBY.out 2 (by omega)
            obtain ⟨g3, e3⟩ := HBY.out 3 (by omega)
            rw [hu] at e0 e1 e2 e3
            simp only [Nat.add_zero, List.getD_cons_zero, List.getD_cons_succ] at g0 e0 e1 e2 e3
            obtain ⟨s0, hs0⟩ : ∃ q, q = r / 262144 := ⟨_, rfl⟩
            obtain ⟨s1, hs1⟩ : ∃ q, q = r / 4096 := ⟨_, rfl⟩
            obtain ⟨s2, hs2⟩ : ∃ q, q = r / 64 := ⟨_, rfl⟩
            obtain ⟨a0, ha0⟩ : ∃ a, a = 240 + r / 262144 := ⟨_, rfl⟩
            rw [← ha0] at e0
            obtain ⟨a1, ha1⟩ : ∃ a, a = 128 + r / 4096 % 64 := ⟨_, rfl⟩
            rw [← ha1] at e1
            obtain ⟨a2, ha2⟩ : ∃ a, a = 128 + r / 64 % 64 := ⟨_, rfl⟩
            rw [← ha2] at e2
            obtain ⟨a3, ha3⟩ : ∃ a, a = 128 + r % 64 := ⟨_, rfl⟩
            rw [← ha3] at e3
            obtain ⟨f1, hf1⟩ : ∃ a, a = r / 4096 % 64 := ⟨_, rfl⟩
            obtain ⟨f2, hf2⟩ : ∃ a, a = r / 64 % 64 := ⟨_, rfl⟩
            obtain ⟨f3, hf3⟩ : ∃ a, a = r % 64 := ⟨_, rfl⟩
            have hm0 : bits .and .i64 a0 7 = s0 := by rw [i64_and7 a0 (by omega) (by omega)]; omega
            have hm1 : bits .and .i64 a1 63 = f1 := by rw [i64_and63 a1 (by omega) (by omega)]; omega
            have hor1 : bits .or .i64 (s0 * 64) f1 = s1 := by rw [i64_or 6 (s0 * 64) f1 (by omega) (by omega) (by omega) (by omega) (by omega) (by omega)]; omega
            have hm2 : bits .and .i64 a2 63 = f2 := by rw [i64_and63 a2 (by omega) (by omega)]; omega
            have hor2 : bits .or .i64 (s1 * 64) f2 = s2 := by rw [i64_or 6 (s1 * 64) f2 (by omega) (by omega) (by omega) (by omega) (by omega) (by omega)]; omega
            have hm3 : bits .and .i64 a3 63 = f3 := by rw [i64_and63 a3 (by omega) (by omega)]; omega
            have hor3 : bits .or .i64 (s2 * 64) f3 = r := by rw [i64_or 6 (s2 * 64) f3 (by omega) (by omega) (by omega) (by omega) (by omega) (by omega)]; omega
            have hsb0 : 0 ≤ s0 := by omega
            have hsc0 : s0 ≤ 17408 := by omega
            have hsb1 : 0 ≤ s1 := by omega
            have hsc1 : s1 ≤ 17408 := by omega
            have hsb2 : 0 ≤ s2 := by omega
            have hsc2 : s2 ≤ 17408 := by omega
            have hab0 : 0 ≤ a0 := by omega
            have hac0 : a0 ≤ 255 := by omega
            have hab1 : 0 ≤ a1 := by omega
            have hac1 : a1 ≤ 255 := by omega
            have hab2 : 0 ≤ a2 := by omega
            have hac2 : a2 ≤ 255 := by omega
            have hab3 : 0 ≤ a3 := by omega
            have hac3 : a3 ≤ 255 := by omega
            have d1 : 240 ≤ a0 := by omega
            have ex := HEX.out
            rw [hlen, hn] at ex
            have g0I : (i : Int) < (t.size : Int) := by omega
            have g1I : (i : Int) + 1 < (t.size : Int) := by omega
            have g2I : (i : Int) + 2 < (t.size : Int) := by omega
            have g3I : (i : Int) + 3 < (t.size : Int) := by omega
            have gnI : ¬ (t.size : Int) < (i : Int) + 4 := by omega
            have hw1 : IntKind.i64.wrap ((i : Int) + 1) = (i : Int) + 1 := by rw [IntKind.wrap_i64]; omega
            have hi1 : ((i : Int) + 1).toNat = i + 1 := by omega
            have hw2 : IntKind.i64.wrap ((i : Int) + 2) = (i : Int) + 2 := by rw [IntKind.wrap_i64]; omega
            have hi2 : ((i : Int) + 2).toNat = i + 2 := by omega
            have hw3 : IntKind.i64.wrap ((i : Int) + 3) = (i : Int) + 3 := by rw [IntKind.wrap_i64]; omega
            have hi3 : ((i : Int) + 3).toNat = i + 3 := by omega
            have hw4 : IntKind.i64.wrap ((i : Int) + 4) = (i : Int) + 4 := by rw [IntKind.wrap_i64]; omega
            have hi4 : ((i : Int) + 4).toNat = i + 4 := by omega
            have hi0 : ((i : Int)).toNat = i := by omega
            have EX := hide2 ex
            clear ex hu ha0 ha1 ha2 ha3 hs0 hs1 hs2 hf1 hf2 hf3
            go_wp2_with fail
            refine wp_loop_rounds 4 ?_
            rw [rounds_succ]
            go_wp2_with fail
            rw [rounds_succ]
            go_wp2_with fail
            rw [rounds_succ]
            go_wp2_with fail
            rw [rounds_succ]
            go_wp2_with fail
            have ex := EX.out
            have hvb := hv
            rw [Vm.validB_iff] at hvb
            have hv1 : ¬ 1114111 < r := by omega
            have hx0 : (0 : Int) ≤ (i : Int) := by omega
            have hx1 : (i : Int) ≤ (i : Int) + 4 := by omega
            have hx2 : (i : Int) + 4 ≤ (t.size : Int) := by omega
            have hd1 : decide (1114111 < r) = false := by simp; omega
            have hd3 : decide (r = 13) = false := by simpa using h13
            have hmo : Tryd.prog.follows Departure.mixedOrders = true := by kernel_rfl
            have hv2 : 55296 ≤ r := by omega
            have hv3 : ¬ r < 57344 := by omega
            have hd2 : decide (55296 ≤ r) = true := by simp; omega
            have hd4 : decide (r < 57344) = false := by simp; omega
            refine wp_region_bl hmo (by kernel_rfl) ?_
            repeat (go_big_quiet_step (refine Calls.bl_of (kutf_any r _ hvr.1 (by omega))))
            refine wpQuiet_nil ?_
            intro _ hw'
            obtain ⟨x5, hx5⟩ := hw'
            subst hx5
            go_wp2_with fail
            all_goals simp only [beq_eq_false_iff_ne, ne_eq] at *
            all_goals exact HEND.out _ x5.2 _ _ _ _ (by split <;> omega) (by split <;> omega) (by split <;> omega) (by rw [hn]; rfl)
    · obtain rfl : k = A.length := by omega
      rw [List.take_length] at *
      have hes := Vm.esc_le hok
      have hesI : (Vm.cntK A 4 : Int) ≤ (Vm.oddA A : Int) := by omega
      obtain ⟨c0, c1, c2, c3, c4, c5, c6, c7, c8, _⟩ := hbk
      have htsz := HTS.out
      have hnl : ¬ (Vm.bytesA A : Int) < (t.size : Int) := by omega
      have hteq : (t.size : Int) = (Vm.bytesA A : Int) := by omega
      clear htsz
      go_wp2
      go_ret
      exact ⟨rfl, hb03.trans (hbx.mono hb03.size)⟩
end Go.Proofs.YtoejbngihecafaaDoor
