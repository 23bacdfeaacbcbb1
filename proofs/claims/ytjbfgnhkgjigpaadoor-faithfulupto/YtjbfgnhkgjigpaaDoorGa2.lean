import Derived.OwnWalk
import Derived.Maps.AppendAt
import Derived.RangeFuncBox
import Derived.Test.YtjbfgnhkgjigpaaDoorGa1
namespace Go.Proofs.YtjbfgnhkgjigpaaDoor
open Go.RowKit
theorem hide2 {p : Prop} (h : p) : Hid p := h
theorem ret_ints {k : IntKind} {a b c d : Int} (h : a = b) (h' : c = d) : Ending.returned (.tuple #[.int k a, .int k c]) = .returned (.tuple #[.int k b, .int k d]) := by rw [h, h']

theorem str_len (n : Int) : (strOfNums (Vm.utfL n)).size = Vm.utfLen n := by
  rw [← Vm.utfL_length]; simp [strOfNums, ByteArray.size]

set_option maxRecDepth 100000 in
set_option maxHeartbeats 4000000 in
theorem rutfAt_any (s : ByteArray) (i : Nat) (w : World) (hs : s.size ≤ 1099511627776) (hi : i < s.size) :
    Calls Tryd.prog 102 #[.string s, .int .i64 i] w fun e w' => e = .returned (.tuple #[.int .i64 (Vm.utfRef (s.data.toList.drop i)).1, .int .i64 (Vm.utfRef (s.data.toList.drop i)).2]) ∧ Below w.heap.size w w' := by
  have hb0 : Vm.b0 (s.data.toList.drop i) 0 = (s[i].toNat : Int) := by rw [Vm.b0_drop, Nat.add_zero, Vm.b0_byte s i hi]
  have hc := s[i].toNat_lt
  have hI : (i : Int) < (s.size : Int) := by omega
  by_cases c0 : (s[i].toNat : Int) < 128
  · have hk : Vm.rk (s[i].toNat : Int) = 1 := by unfold Vm.rk; rw [if_pos c0]
    have hp : Vm.rpart (s.data.toList.drop i) 1 = (s[i].toNat : Int) := by show Vm.rn0 _ = _; rw [hb0]; unfold Vm.rn0; rw [if_pos c0]
    have hu0 : Vm.utfRef (s.data.toList.drop i) = if Vm.validB (s[i].toNat : Int) = false then (0, 0) else if Vm.utfLen (s[i].toNat : Int) = 1 then ((s[i].toNat : Int), 1) else (0, 0) := by
      unfold Vm.utfRef; rw [hb0, hk]; simp only [hp]; rw [if_neg (by decide), if_neg (by simp [Vm.rok])]
    have HU := hide2 hu0
    have Hb := hide2 hb0
    clear hu0 hb0 hk hp
    go_enter Tryd.func102, Tryd.ntmps102
    go_wp2
    refine wp_loop_rounds 1 ?_
    rw [rounds_succ]
    go_wp2_with fail
    cases hv : Vm.validB ((s[i].toNat : Int))
    · have hu : Vm.utfRef (s.data.toList.drop i) = (0, 0) := by rw [HU.out, if_pos hv]
      have Hu := hide2 hu
      clear hu
      refine (rvalid_any _ _).mono ?_
      rintro e w1 ⟨rfl, rfl⟩
      rw [hv]
      go_wp2
      go_ret2
      exact ⟨by rw [Hu.out]; rfl, by first | exact Below.refl _ _ | assumption⟩
    · have hn : 0 ≤ (s[i].toNat : Int) ∧ (s[i].toNat : Int) ≤ 1114111 := by simp [Vm.validB] at hv; omega
      obtain ⟨hn0, hn1⟩ := hn
      have hlen := str_len ((s[i].toNat : Int))
      refine (rvalid_any _ _).mono ?_
      rintro e w1 ⟨rfl, rfl⟩
      rw [hv]
      go_wp2_with fail
      refine (rutf_any _ _ hn0 (by omega)).mono ?_
      rintro e w2 ⟨rfl, hb2⟩
      by_cases hk : Vm.utfLen ((s[i].toNat : Int)) = 1
      · have hu : Vm.utfRef (s.data.toList.drop i) = ((s[i].toNat : Int), 1) := by rw [HU.out, if_neg (by rw [hv]; decide), if_pos hk]
        have Hu := hide2 hu
        clear hu
        rw [hk] at hlen
        have hl2 : (((strOfNums (Vm.utfL ((s[i].toNat : Int)))).size : Nat) : Int) = 1 := by rw [hlen]; rfl
        have hl3 : ((((strOfNums (Vm.utfL ((s[i].toNat : Int)))).size : Nat) : Int) != 1) = false := by rw [hl2]; rfl
        have Hk := hide2 hk
        have Hv := hide2 hv
        clear hk hlen hl2 hv
        go_wp2
        go_ret2
        exact ⟨by rw [Hu.out]; rfl, by first | exact hb2 | exact Below.trans (by assumption) (hb2.mono (Below.size (by assumption)))⟩
      · have hu : Vm.utfRef (s.data.toList.drop i) = (0, 0) := by rw [HU.out, if_neg (by rw [hv]; decide), if_neg hk]
        have Hu := hide2 hu
        clear hu
        have hl3 : ((((strOfNums (Vm.utfL ((s[i].toNat : Int)))).size : Nat) : Int) != 1) = true := by rw [bne_iff_ne, hlen]; omega
        have Hk := hide2 hk
        have Hv := hide2 hv
        clear hk hlen hv
        go_wp2
        go_ret2
        exact ⟨by rw [Hu.out]; rfl, by first | exact hb2 | exact Below.trans (by assumption) (hb2.mono (Below.size (by assumption)))⟩
  · by_cases c1 : (s[i].toNat : Int) < 192
    · have hu : Vm.utfRef (s.data.toList.drop i) = (0, 0) := by
        unfold Vm.utfRef; rw [hb0, if_pos (by unfold Vm.rk; rw [if_neg c0, if_pos c1])]
      rw [hu]
      clear hu hb0
      go_enter Tryd.func102, Tryd.ntmps102
      go_wp2
      go_ret2
      exact ⟨rfl, Below.refl _ _⟩
    · by_cases c2 : (s[i].toNat : Int) < 224
      · have hk : Vm.rk (s[i].toNat : Int) = 2 := by unfold Vm.rk; rw [if_neg c0, if_neg c1, if_pos c2]
        have hp1 : Vm.rpart (s.data.toList.drop i) 1 = (s[i].toNat : Int) - 192 := by show Vm.rn0 _ = _; rw [hb0]; unfold Vm.rn0; rw [if_neg c0, if_pos c2]
        have hkn : Vm.rk (Vm.b0 (s.data.toList.drop i) 0) ≠ 0 := by rw [hb0, hk]; decide
        have hu0 : Vm.utfRef (s.data.toList.drop i) = if Vm.rok (s.data.toList.drop i) (2 - 1) = false then (0, 0) else if Vm.validB (Vm.rpart (s.data.toList.drop i) 2) = false then (0, 0) else if Vm.utfLen (Vm.rpart (s.data.toList.drop i) 2) = 2 then (Vm.rpart (s.data.toList.drop i) 2, 2) else (0, 0) := by
          unfold Vm.utfRef; rw [hb0, hk, if_neg (by decide)]
        have HU0 := hide2 hu0
        have HP1 := hide2 hp1
        have HK := hide2 hk
        have Hb := hide2 hb0
        have HKN := hide2 hkn
        clear hu0 hp1 hk hb0 hkn
        go_enter Tryd.func102, Tryd.ntmps102
        go_wp2
        go_loopw [7, 9] (fun n j wx => ∃ q : Nat, 1 ≤ q ∧ q ≤ 2 ∧ j = .int .i64 q ∧ n = .int .i64 (Vm.rpart (s.data.toList.drop i) q) ∧ Vm.rok (s.data.toList.drop i) (q - 1) = true ∧ Below w.heap.size w wx) (fun _ j _ => 2 - (intOf j).toNat)
        case atStart => exact ⟨1, Nat.le_refl _, by omega, rfl, by rw [HP1.out], rfl, Below.refl _ _⟩
        case round =>
          obtain ⟨q, hq1, hq2, rfl, rfl, hok, hbx⟩ := hrel
          have hpv := Vm.rpart_bd (l := s.data.toList.drop i) (k := q) (by omega) hq1 HKN.out hok
          have Hok := hide2 hok
          clear hok
          by_cases hlt : q < 2
          · have hltI : (q : Int) < 2 := by omega
            have hqi : ((i : Int) + (q : Int)).toNat = i + q := by omega
            have hcb := Vm.contB_in (b := s) (k := i) (j := q)
            rw [Int.natCast_add] at hcb
            cases hcv : Vm.contB (s.data.toList.drop i) q
            · rw [hcv] at hcb
              have Hcb := hide2 hcb
              clear hcb
              go_wp2_with fail
              refine (rcont_any s _ _ (by omega)).mono ?_
              rintro e w1 ⟨rfl, rfl⟩
              rw [hqi, ← Hcb.out]
              go_wp2
              go_ret2
              exact ⟨by rw [HU0.out, if_pos (Vm.rok_false hq1 (by omega) hcv)]; rfl, hbx⟩
            · rw [hcv] at hcb
              have Hcb := hide2 hcb
              obtain ⟨hc1, hc2, hc3⟩ := Vm.contB_bd hcv
              rw [Vm.len_drop] at hc1
              have hin : i + q < s.size := by omega
              have hinI : (i : Int) + (q : Int) < (s.size : Int) := by omega
              rw [Vm.b0_drop, Vm.b0_byte s (i + q) hin] at hc2 hc3
              have Hcv := hide2 hcv
              clear hcb hcv
              go_wp2_with fail
              refine (rcont_any s _ _ (by omega)).mono ?_
              rintro e w1 ⟨rfl, rfl⟩
              rw [hqi, ← Hcb.out]
              go_wp2
              refine ⟨⟨q + 1, by omega, by omega, by go_num, ?_, ?_, hbx⟩, by simp [intOf]; omega⟩
              · rw [Vm.rpart_succ _ _ hq1, Vm.b0_drop, Vm.b0_byte s (i + q) hin]
              · simp only [Nat.add_sub_cancel]; exact Vm.rok_succ hq1 Hok.out Hcv.out
          · obtain rfl : q = 2 := by omega
            have HU : Hid (Vm.utfRef (s.data.toList.drop i) = if Vm.validB (Vm.rpart (s.data.toList.drop i) 2) = false then (0, 0) else if Vm.utfLen (Vm.rpart (s.data.toList.drop i) 2) = 2 then (Vm.rpart (s.data.toList.drop i) 2, 2) else (0, 0)) := by
              show _ = _
              rw [HU0.out, if_neg]
              rw [Hok.out]; decide
            go_wp2_with fail
            cases hv : Vm.validB (Vm.rpart (s.data.toList.drop i) 2)
            · have hu : Vm.utfRef (s.data.toList.drop i) = (0, 0) := by rw [HU.out, if_pos hv]
              have Hu := hide2 hu
              clear hu
              refine (rvalid_any _ _).mono ?_
              rintro e w1 ⟨rfl, rfl⟩
              rw [hv]
              go_wp2
              go_ret2
              exact ⟨by rw [Hu.out]; rfl, by first | exact Below.refl _ _ | assumption⟩
            · have hn : 0 ≤ Vm.rpart (s.data.toList.drop i) 2 ∧ Vm.rpart (s.data.toList.drop i) 2 ≤ 1114111 := by simp [Vm.validB] at hv; omega
              obtain ⟨hn0, hn1⟩ := hn
              have hlen := str_len (Vm.rpart (s.data.toList.drop i) 2)
              refine (rvalid_any _ _).mono ?_
              rintro e w1 ⟨rfl, rfl⟩
              rw [hv]
              go_wp2_with fail
              refine (rutf_any _ _ hn0 (by omega)).mono ?_
              rintro e w2 ⟨rfl, hb2⟩
              by_cases hk : Vm.utfLen (Vm.rpart (s.data.toList.drop i) 2) = 2
              · have hu : Vm.utfRef (s.data.toList.drop i) = (Vm.rpart (s.data.toList.drop i) 2, 2) := by rw [HU.out, if_neg (by rw [hv]; decide), if_pos hk]
                have Hu := hide2 hu
                clear hu
                rw [hk] at hlen
                have hl2 : (((strOfNums (Vm.utfL (Vm.rpart (s.data.toList.drop i) 2))).size : Nat) : Int) = 2 := by rw [hlen]; rfl
                have hl3 : ((((strOfNums (Vm.utfL (Vm.rpart (s.data.toList.drop i) 2))).size : Nat) : Int) != 2) = false := by rw [hl2]; rfl
                have Hk := hide2 hk
                have Hv := hide2 hv
                clear hk hlen hl2 hv
                go_wp2
                go_ret2
                exact ⟨by rw [Hu.out]; rfl, by first | exact hb2 | exact Below.trans (by assumption) (hb2.mono (Below.size (by assumption)))⟩
              · have hu : Vm.utfRef (s.data.toList.drop i) = (0, 0) := by rw [HU.out, if_neg (by rw [hv]; decide), if_neg hk]
                have Hu := hide2 hu
                clear hu
                have hl3 : ((((strOfNums (Vm.utfL (Vm.rpart (s.data.toList.drop i) 2))).size : Nat) : Int) != 2) = true := by rw [bne_iff_ne, hlen]; omega
                have Hk := hide2 hk
                have Hv := hide2 hv
                clear hk hlen hv
                go_wp2
                go_ret2
                exact ⟨by rw [Hu.out]; rfl, by first | exact hb2 | exact Below.trans (by assumption) (hb2.mono (Below.size (by assumption)))⟩
      · by_cases c3 : (s[i].toNat : Int) < 240
        · have hk : Vm.rk (s[i].toNat : Int) = 3 := by unfold Vm.rk; rw [if_neg c0, if_neg c1, if_neg c2, if_pos c3]
          have hp1 : Vm.rpart (s.data.toList.drop i) 1 = (s[i].toNat : Int) - 224 := by show Vm.rn0 _ = _; rw [hb0]; unfold Vm.rn0; rw [if_neg c0, if_neg c2, if_pos c3]
          have hkn : Vm.rk (Vm.b0 (s.data.toList.drop i) 0) ≠ 0 := by rw [hb0, hk]; decide
          have hu0 : Vm.utfRef (s.data.toList.drop i) = if Vm.rok (s.data.toList.drop i) (3 - 1) = false then (0, 0) else if Vm.validB (Vm.rpart (s.data.toList.drop i) 3) = false then (0, 0) else if Vm.utfLen (Vm.rpart (s.data.toList.drop i) 3) = 3 then (Vm.rpart (s.data.toList.drop i) 3, 3) else (0, 0) := by
            unfold Vm.utfRef; rw [hb0, hk, if_neg (by decide)]
          have HU0 := hide2 hu0
          have HP1 := hide2 hp1
          have HK := hide2 hk
          have Hb := hide2 hb0
          have HKN := hide2 hkn
          clear hu0 hp1 hk hb0 hkn
          go_enter Tryd.func102, Tryd.ntmps102
          go_wp2
          go_loopw [7, 9] (fun n j wx => ∃ q : Nat, 1 ≤ q ∧ q ≤ 3 ∧ j = .int .i64 q ∧ n = .int .i64 (Vm.rpart (s.data.toList.drop i) q) ∧ Vm.rok (s.data.toList.drop i) (q - 1) = true ∧ Below w.heap.size w wx) (fun _ j _ => 3 - (intOf j).toNat)
          case atStart => exact ⟨1, Nat.le_refl _, by omega, rfl, by rw [HP1.out], rfl, Below.refl _ _⟩
          case round =>
            obtain ⟨q, hq1, hq2, rfl, rfl, hok, hbx⟩ := hrel
            have hpv := Vm.rpart_bd (l := s.data.toList.drop i) (k := q) (by omega) hq1 HKN.out hok
            have Hok := hide2 hok
            clear hok
            by_cases hlt : q < 3
            · have hltI : (q : Int) < 3 := by omega
              have hqi : ((i : Int) + (q : Int)).toNat = i + q := by omega
              have hcb := Vm.contB_in (b := s) (k := i) (j := q)
              rw [Int.natCast_add] at hcb
              cases hcv : Vm.contB (s.data.toList.drop i) q
              · rw [hcv] at hcb
                have Hcb := hide2 hcb
                clear hcb
                go_wp2_with fail
                refine (rcont_any s _ _ (by omega)).mono ?_
                rintro e w1 ⟨rfl, rfl⟩
                rw [hqi, ← Hcb.out]
                go_wp2
                go_ret2
                exact ⟨by rw [HU0.out, if_pos (Vm.rok_false hq1 (by omega) hcv)]; rfl, hbx⟩
              · rw [hcv] at hcb
                have Hcb := hide2 hcb
                obtain ⟨hc1, hc2, hc3⟩ := Vm.contB_bd hcv
                rw [Vm.len_drop] at hc1
                have hin : i + q < s.size := by omega
                have hinI : (i : Int) + (q : Int) < (s.size : Int) := by omega
                rw [Vm.b0_drop, Vm.b0_byte s (i + q) hin] at hc2 hc3
                have Hcv := hide2 hcv
                clear hcb hcv
                go_wp2_with fail
                refine (rcont_any s _ _ (by omega)).mono ?_
                rintro e w1 ⟨rfl, rfl⟩
                rw [hqi, ← Hcb.out]
                go_wp2
                refine ⟨⟨q + 1, by omega, by omega, by go_num, ?_, ?_, hbx⟩, by simp [intOf]; omega⟩
                · rw [Vm.rpart_succ _ _ hq1, Vm.b0_drop, Vm.b0_byte s (i + q) hin]
                · simp only [Nat.add_sub_cancel]; exact Vm.rok_succ hq1 Hok.out Hcv.out
            · obtain rfl : q = 3 := by omega
              have HU : Hid (Vm.utfRef (s.data.toList.drop i) = if Vm.validB (Vm.rpart (s.data.toList.drop i) 3) = false then (0, 0) else if Vm.utfLen (Vm.rpart (s.data.toList.drop i) 3) = 3 then (Vm.rpart (s.data.toList.drop i) 3, 3) else (0, 0)) := by
                show _ = _
                rw [HU0.out, if_neg]
                rw [Hok.out]; decide
              go_wp2_with fail
              cases hv : Vm.validB (Vm.rpart (s.data.toList.drop i) 3)
              · have hu : Vm.utfRef (s.data.toList.drop i) = (0, 0) := by rw [HU.out, if_pos hv]
                have Hu := hide2 hu
                clear hu
                refine (rvalid_any _ _).mono ?_
                rintro e w1 ⟨rfl, rfl⟩
                rw [hv]
                go_wp2
                go_ret2
                exact ⟨by rw [Hu.out]; rfl, by first | exact Below.refl _ _ | assumption⟩
              · have hn : 0 ≤ Vm.rpart (s.data.toList.drop i) 3 ∧ Vm.rpart (s.data.toList.drop i) 3 ≤ 1114111 := by simp [Vm.validB] at hv; omega
                obtain ⟨hn0, hn1⟩ := hn
                have hlen := str_len (Vm.rpart (s.data.toList.drop i) 3)
                refine (rvalid_any _ _).mono ?_
                rintro e w1 ⟨rfl, rfl⟩
                rw [hv]
                go_wp2_with fail
                refine (rutf_any _ _ hn0 (by omega)).mono ?_
                rintro e w2 ⟨rfl, hb2⟩
                by_cases hk : Vm.utfLen (Vm.rpart (s.data.toList.drop i) 3) = 3
                · have hu : Vm.utfRef (s.data.toList.drop i) = (Vm.rpart (s.data.toList.drop i) 3, 3) := by rw [HU.out, if_neg (by rw [hv]; decide), if_pos hk]
                  have Hu := hide2 hu
                  clear hu
                  rw [hk] at hlen
                  have hl2 : (((strOfNums (Vm.utfL (Vm.rpart (s.data.toList.drop i) 3))).size : Nat) : Int) = 3 := by rw [hlen]; rfl
                  have hl3 : ((((strOfNums (Vm.utfL (Vm.rpart (s.data.toList.drop i) 3))).size : Nat) : Int) != 3) = false := by rw [hl2]; rfl
                  have Hk := hide2 hk
                  have Hv := hide2 hv
                  clear hk hlen hl2 hv
                  go_wp2
                  go_ret2
                  exact ⟨by rw [Hu.out]; rfl, by first | exact hb2 | exact Below.trans (by assumption) (hb2.mono (Below.size (by assumption)))⟩
                · have hu : Vm.utfRef (s.data.toList.drop i) = (0, 0) := by rw [HU.out, if_neg (by rw [hv]; decide), if_neg hk]
                  have Hu := hide2 hu
                  clear hu
                  have hl3 : ((((strOfNums (Vm.utfL (Vm.rpart (s.data.toList.drop i) 3))).size : Nat) : Int) != 3) = true := by rw [bne_iff_ne, hlen]; omega
                  have Hk := hide2 hk
                  have Hv := hide2 hv
                  clear hk hlen hv
                  go_wp2
                  go_ret2
                  exact ⟨by rw [Hu.out]; rfl, by first | exact hb2 | exact Below.trans (by assumption) (hb2.mono (Below.size (by assumption)))⟩
        · by_cases c4 : (s[i].toNat : Int) < 248
          · have hk : Vm.rk (s[i].toNat : Int) = 4 := by unfold Vm.rk; rw [if_neg c0, if_neg c1, if_neg c2, if_neg c3, if_pos c4]
            have hp1 : Vm.rpart (s.data.toList.drop i) 1 = (s[i].toNat : Int) - 240 := by show Vm.rn0 _ = _; rw [hb0]; unfold Vm.rn0; rw [if_neg c0, if_neg c2, if_neg c3]
            have hkn : Vm.rk (Vm.b0 (s.data.toList.drop i) 0) ≠ 0 := by rw [hb0, hk]; decide
            have hu0 : Vm.utfRef (s.data.toList.drop i) = if Vm.rok (s.data.toList.drop i) (4 - 1) = false then (0, 0) else if Vm.validB (Vm.rpart (s.data.toList.drop i) 4) = false then (0, 0) else if Vm.utfLen (Vm.rpart (s.data.toList.drop i) 4) = 4 then (Vm.rpart (s.data.toList.drop i) 4, 4) else (0, 0) := by
              unfold Vm.utfRef; rw [hb0, hk, if_neg (by decide)]
            have HU0 := hide2 hu0
            have HP1 := hide2 hp1
            have HK := hide2 hk
            have Hb := hide2 hb0
            have HKN := hide2 hkn
            clear hu0 hp1 hk hb0 hkn
            go_enter Tryd.func102, Tryd.ntmps102
            go_wp2
            go_loopw [7, 9] (fun n j wx => ∃ q : Nat, 1 ≤ q ∧ q ≤ 4 ∧ j = .int .i64 q ∧ n = .int .i64 (Vm.rpart (s.data.toList.drop i) q) ∧ Vm.rok (s.data.toList.drop i) (q - 1) = true ∧ Below w.heap.size w wx) (fun _ j _ => 4 - (intOf j).toNat)
            case atStart => exact ⟨1, Nat.le_refl _, by omega, rfl, by rw [HP1.out], rfl, Below.refl _ _⟩
            case round =>
              obtain ⟨q, hq1, hq2, rfl, rfl, hok, hbx⟩ := hrel
              have hpv := Vm.rpart_bd (l := s.data.toList.drop i) (k := q) (by omega) hq1 HKN.out hok
              have Hok := hide2 hok
              clear hok
              by_cases hlt : q < 4
              · have hltI : (q : Int) < 4 := by omega
                have hqi : ((i : Int) + (q : Int)).toNat = i + q := by omega
                have hcb := Vm.contB_in (b := s) (k := i) (j := q)
                rw [Int.natCast_add] at hcb
                cases hcv : Vm.contB (s.data.toList.drop i) q
                · rw [hcv] at hcb
                  have Hcb := hide2 hcb
                  clear hcb
                  go_wp2_with fail
                  refine (rcont_any s _ _ (by omega)).mono ?_
                  rintro e w1 ⟨rfl, rfl⟩
                  rw [hqi, ← Hcb.out]
                  go_wp2
                  go_ret2
                  exact ⟨by rw [HU0.out, if_pos (Vm.rok_false hq1 (by omega) hcv)]; rfl, hbx⟩
                · rw [hcv] at hcb
                  have Hcb := hide2 hcb
                  obtain ⟨hc1, hc2, hc3⟩ := Vm.contB_bd hcv
                  rw [Vm.len_drop] at hc1
                  have hin : i + q < s.size := by omega
                  have hinI : (i : Int) + (q : Int) < (s.size : Int) := by omega
                  rw [Vm.b0_drop, Vm.b0_byte s (i + q) hin] at hc2 hc3
                  have Hcv := hide2 hcv
                  clear hcb hcv
                  go_wp2_with fail
                  refine (rcont_any s _ _ (by omega)).mono ?_
                  rintro e w1 ⟨rfl, rfl⟩
                  rw [hqi, ← Hcb.out]
                  go_wp2
                  refine ⟨⟨q + 1, by omega, by omega, by go_num, ?_, ?_, hbx⟩, by simp [intOf]; omega⟩
                  · rw [Vm.rpart_succ _ _ hq1, Vm.b0_drop, Vm.b0_byte s (i + q) hin]
                  · simp only [Nat.add_sub_cancel]; exact Vm.rok_succ hq1 Hok.out Hcv.out
              · obtain rfl : q = 4 := by omega
                have HU : Hid (Vm.utfRef (s.data.toList.drop i) = if Vm.validB (Vm.rpart (s.data.toList.drop i) 4) = false then (0, 0) else if Vm.utfLen (Vm.rpart (s.data.toList.drop i) 4) = 4 then (Vm.rpart (s.data.toList.drop i) 4, 4) else (0, 0)) := by
                  show _ = _
                  rw [HU0.out, if_neg]
                  rw [Hok.out]; decide
                go_wp2_with fail
                cases hv : Vm.validB (Vm.rpart (s.data.toList.drop i) 4)
                · have hu : Vm.utfRef (s.data.toList.drop i) = (0, 0) := by rw [HU.out, if_pos hv]
                  have Hu := hide2 hu
                  clear hu
                  refine (rvalid_any _ _).mono ?_
                  rintro e w1 ⟨rfl, rfl⟩
                  rw [hv]
                  go_wp2
                  go_ret2
                  exact ⟨by rw [Hu.out]; rfl, by first | exact Below.refl _ _ | assumption⟩
                · have hn : 0 ≤ Vm.rpart (s.data.toList.drop i) 4 ∧ Vm.rpart (s.data.toList.drop i) 4 ≤ 1114111 := by simp [Vm.validB] at hv; omega
                  obtain ⟨hn0, hn1⟩ := hn
                  have hlen := str_len (Vm.rpart (s.data.toList.drop i) 4)
                  refine (rvalid_any _ _).mono ?_
                  rintro e w1 ⟨rfl, rfl⟩
                  rw [hv]
                  go_wp2_with fail
                  refine (rutf_any _ _ hn0 (by omega)).mono ?_
                  rintro e w2 ⟨rfl, hb2⟩
                  by_cases hk : Vm.utfLen (Vm.rpart (s.data.toList.drop i) 4) = 4
                  · have hu : Vm.utfRef (s.data.toList.drop i) = (Vm.rpart (s.data.toList.drop i) 4, 4) := by rw [HU.out, if_neg (by rw [hv]; decide), if_pos hk]
                    have Hu := hide2 hu
                    clear hu
                    rw [hk] at hlen
                    have hl2 : (((strOfNums (Vm.utfL (Vm.rpart (s.data.toList.drop i) 4))).size : Nat) : Int) = 4 := by rw [hlen]; rfl
                    have hl3 : ((((strOfNums (Vm.utfL (Vm.rpart (s.data.toList.drop i) 4))).size : Nat) : Int) != 4) = false := by rw [hl2]; rfl
                    have Hk := hide2 hk
                    have Hv := hide2 hv
                    clear hk hlen hl2 hv
                    go_wp2
                    go_ret2
                    exact ⟨by rw [Hu.out]; rfl, by first | exact hb2 | exact Below.trans (by assumption) (hb2.mono (Below.size (by assumption)))⟩
                  · have hu : Vm.utfRef (s.data.toList.drop i) = (0, 0) := by rw [HU.out, if_neg (by rw [hv]; decide), if_neg hk]
                    have Hu := hide2 hu
                    clear hu
                    have hl3 : ((((strOfNums (Vm.utfL (Vm.rpart (s.data.toList.drop i) 4))).size : Nat) : Int) != 4) = true := by rw [bne_iff_ne, hlen]; omega
                    have Hk := hide2 hk
                    have Hv := hide2 hv
                    clear hk hlen hv
                    go_wp2
                    go_ret2
                    exact ⟨by rw [Hu.out]; rfl, by first | exact hb2 | exact Below.trans (by assumption) (hb2.mono (Below.size (by assumption)))⟩
          · have hu : Vm.utfRef (s.data.toList.drop i) = (0, 0) := by
              unfold Vm.utfRef; rw [hb0, if_pos (by unfold Vm.rk; rw [if_neg c0, if_neg c1, if_neg c2, if_neg c3, if_neg c4])]
            rw [hu]
            clear hu hb0
            go_enter Tryd.func102, Tryd.ntmps102
            go_wp2
            go_ret2
            exact ⟨rfl, Below.refl _ _⟩
end Go.Proofs.YtjbfgnhkgjigpaaDoor

namespace Vm
/-- The reference's answer as a sign. -/
def refSg (l : Bytes) : Sg := if (utfRef l).2 = 0 then (-1, 1) else utfRef l

theorem ref_none {l : Bytes} (h : utfRef l = (0, 0)) : refSg l = (-1, 1) := by simp [refSg, h]
theorem ref_some {l : Bytes} {n : Int} {k : Nat} (hk : k ≠ 0) (h : utfRef l = (n, k)) : refSg l = (n, k) := by simp [refSg, h, hk]

theorem ok1 (l : Bytes) (r : Nat) : allOk l r 1 = true ↔ 1 < l.length ∧ sqLeast r ≤ b0 l 1 ∧ b0 l 1 ≤ sqMost r := by
  simp [allOk, okAt, goesOnB]
theorem ok2 (l : Bytes) (r : Nat) : allOk l r 2 = true ↔ (1 < l.length ∧ sqLeast r ≤ b0 l 1 ∧ b0 l 1 ≤ sqMost r) ∧ (2 < l.length ∧ 128 ≤ b0 l 2 ∧ b0 l 2 ≤ 191) := by
  simp [allOk, okAt, goesOnB]
theorem ok3 (l : Bytes) (r : Nat) : allOk l r 3 = true ↔ ((1 < l.length ∧ sqLeast r ≤ b0 l 1 ∧ b0 l 1 ≤ sqMost r) ∧ (2 < l.length ∧ 128 ≤ b0 l 2 ∧ b0 l 2 ≤ 191)) ∧ (3 < l.length ∧ 128 ≤ b0 l 3 ∧ b0 l 3 ≤ 191) := by
  simp [allOk, okAt, goesOnB]
theorem rok1 (l : Bytes) : rok l 1 = true ↔ 1 < l.length ∧ 128 ≤ b0 l 1 ∧ b0 l 1 < 192 := by simp [rok, contB]
theorem rok2 (l : Bytes) : rok l 2 = true ↔ (1 < l.length ∧ 128 ≤ b0 l 1 ∧ b0 l 1 < 192) ∧ (2 < l.length ∧ 128 ≤ b0 l 2 ∧ b0 l 2 < 192) := by simp [rok, contB]
theorem rok3 (l : Bytes) : rok l 3 = true ↔ ((1 < l.length ∧ 128 ≤ b0 l 1 ∧ b0 l 1 < 192) ∧ (2 < l.length ∧ 128 ≤ b0 l 2 ∧ b0 l 2 < 192)) ∧ (3 < l.length ∧ 128 ≤ b0 l 3 ∧ b0 l 3 < 192) := by simp [rok, contB]
theorem validB_iff (n : Int) : validB n = true ↔ (0 ≤ n ∧ n ≤ 55295) ∨ (57344 ≤ n ∧ n ≤ 1114111) := by simp [validB]
theorem utfLen_cases (n : Int) : (n < 128 ∧ utfLen n = 1) ∨ (128 ≤ n ∧ n < 2048 ∧ utfLen n = 2) ∨ (2048 ≤ n ∧ n < 65536 ∧ utfLen n = 3) ∨ (65536 ≤ n ∧ utfLen n = 4) := by
  unfold utfLen; (repeat' split) <;> omega
/-- The reference, where its first byte says k bytes. -/
theorem utfRef_some {l : Bytes} {k : Nat} (hk : rk (b0 l 0) = k) (h0 : k ≠ 0) (h1 : rok l (k - 1) = true) (h2 : validB (rpart l k) = true) (h3 : utfLen (rpart l k) = k) : utfRef l = (rpart l k, k) := by
  subst hk; unfold utfRef; rw [if_neg h0, if_neg (by rw [h1]; decide), if_neg (by rw [h2]; decide), if_pos h3]
theorem utfRef_none {l : Bytes} {k : Nat} (hk : rk (b0 l 0) = k) (h : ¬ (rok l (k - 1) = true ∧ validB (rpart l k) = true ∧ utfLen (rpart l k) = k)) : utfRef l = (0, 0) := by
  subst hk; unfold utfRef
  split
  · rfl
  · split
    · rfl
    · split
      · rfl
      · split
        · rename_i a b c d
          exact absurd ⟨by simpa using b, by simpa using c, d⟩ h
        · rfl
theorem rk_cases (c : Int) : (c < 128 ∧ rk c = 1) ∨ (128 ≤ c ∧ c < 192 ∧ rk c = 0) ∨ (192 ≤ c ∧ c < 224 ∧ rk c = 2) ∨ (224 ≤ c ∧ c < 240 ∧ rk c = 3) ∨ (240 ≤ c ∧ c < 248 ∧ rk c = 4) ∨ (248 ≤ c ∧ rk c = 0) := by
  unfold rk; (repeat' split) <;> omega
theorem rn0_cases (c : Int) : (c < 128 ∧ rn0 c = c) ∨ (128 ≤ c ∧ c < 224 ∧ rn0 c = c - 192) ∨ (224 ≤ c ∧ c < 240 ∧ rn0 c = c - 224) ∨ (240 ≤ c ∧ rn0 c = c - 240) := by
  unfold rn0; (repeat' split) <;> omega

/-- Both say yes to the same, and the same. -/
theorem head_of {l : Bytes} {r k : Nat} (hr : sqRow (b0 l 0) = r) (hn : sqN r = k) (hk : rk (b0 l 0) = k) (h0 : k ≠ 0)
    (hiff : allOk l r (k - 1) = true ↔ (rok l (k - 1) = true ∧ validB (rpart l k) = true ∧ utfLen (rpart l k) = k)) (hv : allOk l r (k - 1) = true → partV l r k = rpart l k) : utfHead l = refSg l := by
  cases h : allOk l r (k - 1)
  · rw [ref_none (utfRef_none hk (fun x => by rw [hiff.2 x] at h; cases h))]
    unfold utfHead; rw [hr, hn, h]; rfl
  · obtain ⟨a, b, c⟩ := hiff.1 h
    rw [ref_some h0 (utfRef_some hk h0 a b c), utfHead_good hr (by rw [hn]; exact h), hn, hv h]
theorem head_no {l : Bytes} {r k : Nat} (hr : sqRow (b0 l 0) = r) (hn : allOk l r (sqN r - 1) = false) (hk : rk (b0 l 0) = k)
    (hno : ¬ (rok l (k - 1) = true ∧ validB (rpart l k) = true ∧ utfLen (rpart l k) = k)) : utfHead l = refSg l := by
  rw [ref_none (utfRef_none hk hno)]
  unfold utfHead; rw [hr, hn]; rfl

theorem head_ref (l : Bytes) : utfHead l = refSg l := by
  have hb := b0_bd l 0
  have hb1 := b0_bd l 1
  have hb2 := b0_bd l 2
  have hb3 := b0_bd l 3
  have p2 : rpart l 2 = 64 * rpart l 1 + b0 l 1 - 128 := rfl
  have p3 : rpart l 3 = 64 * rpart l 2 + b0 l 2 - 128 := rfl
  have p4 : rpart l 4 = 64 * rpart l 3 + b0 l 3 - 128 := rfl
  have p1 : rpart l 1 = rn0 (b0 l 0) := rfl
  have q0 := rn0_cases (b0 l 0)
  have k0 := rk_cases (b0 l 0)
  rcases sqRow_cases (b0 l 0) with ⟨a, h⟩ | ⟨a', a, h⟩ | ⟨a', a, h⟩ | ⟨a', a, h⟩ | ⟨a', a, h⟩ | ⟨a', a, h⟩ | ⟨a', a, h⟩ | ⟨a', a, h⟩ | ⟨a', a, h⟩ | ⟨a', a, h⟩ | ⟨a', h⟩
  · refine head_of (k := 1) h rfl (by omega) (by decide) ?_ ?_
    · have e4 := utfLen_cases (rpart l 1)
      have := validB_iff (rpart l 1)
      exact ⟨fun _ => ⟨rfl, this.2 (by omega), by omega⟩, fun _ => rfl⟩
    · intro _
      show b0 l 0 % (sqBits 0 + 1) = _
      rw [show sqBits 0 = 127 from rfl]; omega
  · have hno : allOk l 1 (sqN 1 - 1) = false := by
      cases e : allOk l 1 (sqN 1 - 1)
      · rfl
      · have := (ok1 l 1).1 e
        rw [show sqLeast 1 = 255 from rfl, show sqMost 1 = 0 from rfl] at this
        omega
    rcases k0 with k | k | k | k | k | k
    · omega
    · exact head_no h hno k.2.2 (fun x => by have := x.2.2; have := utfLen_cases (rpart l 0); omega)
    · refine head_no h hno k.2.2 (fun x => ?_)
      have := (rok1 l).1 x.1
      have := utfLen_cases (rpart l 2)
      omega
    · omega
    · omega
    · omega
  · refine head_of (k := 2) h rfl (by omega) (by decide) ?_ ?_
    · have e1 := ok1 l 2
      have e2 := rok1 l
      have e3 := validB_iff (rpart l 2)
      have e4 := utfLen_cases (rpart l 2)
      rw [show sqLeast 2 = 128 from rfl, show sqMost 2 = 191 from rfl] at e1
      constructor
      · intro x; have := e1.1 x; exact ⟨e2.2 (by omega), e3.2 (by omega), by omega⟩
      · rintro ⟨x, y, z⟩; have := e2.1 x; exact e1.2 (by omega)
    · intro x
      have e1 := (ok1 l 2).1 x
      rw [show sqLeast 2 = 128 from rfl, show sqMost 2 = 191 from rfl] at e1
      show 64 * (b0 l 0 % (sqBits 2 + 1)) + b0 l 1 % 64 = _
      rw [show sqBits 2 = 31 from rfl]; omega
  · refine head_of (k := 3) h rfl (by omega) (by decide) ?_ ?_
    · have e1 := ok2 l 3
      have e2 := rok2 l
      have e3 := validB_iff (rpart l 3)
      have e4 := utfLen_cases (rpart l 3)
      rw [show sqLeast 3 = 160 from rfl, show sqMost 3 = 191 from rfl] at e1
      constructor
      · intro x; have := e1.1 x; exact ⟨e2.2 (by omega), e3.2 (by omega), by omega⟩
      · rintro ⟨x, y, z⟩; have := e2.1 x; have := e3.1 y; exact e1.2 (by omega)
    · intro x
      have e1 := (ok2 l 3).1 x
      rw [show sqLeast 3 = 160 from rfl, show sqMost 3 = 191 from rfl] at e1
      show 64 * (64 * (b0 l 0 % (sqBits 3 + 1)) + b0 l 1 % 64) + b0 l 2 % 64 = _
      rw [show sqBits 3 = 15 from rfl]; omega
  · refine head_of (k := 3) h rfl (by omega) (by decide) ?_ ?_
    · have e1 := ok2 l 4
      have e2 := rok2 l
      have e3 := validB_iff (rpart l 3)
      have e4 := utfLen_cases (rpart l 3)
      rw [show sqLeast 4 = 128 from rfl, show sqMost 4 = 191 from rfl] at e1
      constructor
      · intro x; have := e1.1 x; exact ⟨e2.2 (by omega), e3.2 (by omega), by omega⟩
      · rintro ⟨x, y, z⟩; have := e2.1 x; have := e3.1 y; exact e1.2 (by omega)
    · intro x
      have e1 := (ok2 l 4).1 x
      rw [show sqLeast 4 = 128 from rfl, show sqMost 4 = 191 from rfl] at e1
      show 64 * (64 * (b0 l 0 % (sqBits 4 + 1)) + b0 l 1 % 64) + b0 l 2 % 64 = _
      rw [show sqBits 4 = 15 from rfl]; omega
  · refine head_of (k := 3) h rfl (by omega) (by decide) ?_ ?_
    · have e1 := ok2 l 5
      have e2 := rok2 l
      have e3 := validB_iff (rpart l 3)
      have e4 := utfLen_cases (rpart l 3)
      rw [show sqLeast 5 = 128 from rfl, show sqMost 5 = 159 from rfl] at e1
      constructor
      · intro x; have := e1.1 x; exact ⟨e2.2 (by omega), e3.2 (by omega), by omega⟩
      · rintro ⟨x, y, z⟩; have := e2.1 x; have := e3.1 y; exact e1.2 (by omega)
    · intro x
      have e1 := (ok2 l 5).1 x
      rw [show sqLeast 5 = 128 from rfl, show sqMost 5 = 159 from rfl] at e1
      show 64 * (64 * (b0 l 0 % (sqBits 5 + 1)) + b0 l 1 % 64) + b0 l 2 % 64 = _
      rw [show sqBits 5 = 15 from rfl]; omega
  · refine head_of (k := 3) h rfl (by omega) (by decide) ?_ ?_
    · have e1 := ok2 l 6
      have e2 := rok2 l
      have e3 := validB_iff (rpart l 3)
      have e4 := utfLen_cases (rpart l 3)
      rw [show sqLeast 6 = 128 from rfl, show sqMost 6 = 191 from rfl] at e1
      constructor
      · intro x; have := e1.1 x; exact ⟨e2.2 (by omega), e3.2 (by omega), by omega⟩
      · rintro ⟨x, y, z⟩; have := e2.1 x; have := e3.1 y; exact e1.2 (by omega)
    · intro x
      have e1 := (ok2 l 6).1 x
      rw [show sqLeast 6 = 128 from rfl, show sqMost 6 = 191 from rfl] at e1
      show 64 * (64 * (b0 l 0 % (sqBits 6 + 1)) + b0 l 1 % 64) + b0 l 2 % 64 = _
      rw [show sqBits 6 = 15 from rfl]; omega
  · refine head_of (k := 4) h rfl (by omega) (by decide) ?_ ?_
    · have e1 := ok3 l 7
      have e2 := rok3 l
      have e3 := validB_iff (rpart l 4)
      have e4 := utfLen_cases (rpart l 4)
      rw [show sqLeast 7 = 144 from rfl, show sqMost 7 = 191 from rfl] at e1
      constructor
      · intro x; have := e1.1 x; exact ⟨e2.2 (by omega), e3.2 (by omega), by omega⟩
      · rintro ⟨x, y, z⟩; have := e2.1 x; have := e3.1 y; exact e1.2 (by omega)
    · intro x
      have e1 := (ok3 l 7).1 x
      rw [show sqLeast 7 = 144 from rfl, show sqMost 7 = 191 from rfl] at e1
      show 64 * (64 * (64 * (b0 l 0 % (sqBits 7 + 1)) + b0 l 1 % 64) + b0 l 2 % 64) + b0 l 3 % 64 = _
      rw [show sqBits 7 = 7 from rfl]; omega
  · refine head_of (k := 4) h rfl (by omega) (by decide) ?_ ?_
    · have e1 := ok3 l 8
      have e2 := rok3 l
      have e3 := validB_iff (rpart l 4)
      have e4 := utfLen_cases (rpart l 4)
      rw [show sqLeast 8 = 128 from rfl, show sqMost 8 = 191 from rfl] at e1
      constructor
      · intro x; have := e1.1 x; exact ⟨e2.2 (by omega), e3.2 (by omega), by omega⟩
      · rintro ⟨x, y, z⟩; have := e2.1 x; have := e3.1 y; exact e1.2 (by omega)
    · intro x
      have e1 := (ok3 l 8).1 x
      rw [show sqLeast 8 = 128 from rfl, show sqMost 8 = 191 from rfl] at e1
      show 64 * (64 * (64 * (b0 l 0 % (sqBits 8 + 1)) + b0 l 1 % 64) + b0 l 2 % 64) + b0 l 3 % 64 = _
      rw [show sqBits 8 = 7 from rfl]; omega
  · refine head_of (k := 4) h rfl (by omega) (by decide) ?_ ?_
    · have e1 := ok3 l 9
      have e2 := rok3 l
      have e3 := validB_iff (rpart l 4)
      have e4 := utfLen_cases (rpart l 4)
      rw [show sqLeast 9 = 128 from rfl, show sqMost 9 = 143 from rfl] at e1
      constructor
      · intro x; have := e1.1 x; exact ⟨e2.2 (by omega), e3.2 (by omega), by omega⟩
      · rintro ⟨x, y, z⟩; have := e2.1 x; have := e3.1 y; exact e1.2 (by omega)
    · intro x
      have e1 := (ok3 l 9).1 x
      rw [show sqLeast 9 = 128 from rfl, show sqMost 9 = 143 from rfl] at e1
      show 64 * (64 * (64 * (b0 l 0 % (sqBits 9 + 1)) + b0 l 1 % 64) + b0 l 2 % 64) + b0 l 3 % 64 = _
      rw [show sqBits 9 = 7 from rfl]; omega
  · have hno : allOk l 10 (sqN 10 - 1) = false := by
      cases e : allOk l 10 (sqN 10 - 1)
      · rfl
      · have := (ok1 l 10).1 e
        rw [show sqLeast 10 = 255 from rfl, show sqMost 10 = 0 from rfl] at this
        omega
    rcases k0 with k | k | k | k | k | k
    · omega
    · omega
    · omega
    · omega
    · refine head_no h hno k.2.2 (fun x => ?_)
      have := (rok3 l).1 x.1
      have := (validB_iff (rpart l 4)).1 x.2.1
      omega
    · exact head_no h hno k.2 (fun x => by have := x.2.2; have := utfLen_cases (rpart l 0); omega)
theorem utfRef_le (l : Bytes) : (utfRef l).2 ≤ 4 := by
  have := rk_cases (b0 l 0)
  unfold utfRef
  (repeat' split) <;> simp only <;> omega
end Vm

namespace Vm
/-- What the reference reads at the head: character, is it an escape, size. -/
def rd (enc : Int) (l : Bytes) : Option (Int × Bool × Nat) :=
  if l.length = 0 then none
  else if enc = 3 then some (b0 l 0, false, 1)
  else if enc = 0 then (if (utfRef l).2 = 0 then some (0, true, 1) else some ((utfRef l).1, false, (utfRef l).2))
  else if l.length < 2 then none
  else if 55296 ≤ unitAt enc l 0 ∧ unitAt enc l 0 ≤ 56319 ∧ 3 < l.length ∧ 56320 ≤ unitAt enc l 2 ∧ unitAt enc l 2 ≤ 57343 then some (65536 + 1024 * (unitAt enc l 0 - 55296) + unitAt enc l 2 - 56320, false, 4)
  else some (unitAt enc l 0, decide (55296 ≤ unitAt enc l 0) && decide (unitAt enc l 0 ≤ 57343), 2)
/-- .. as a sign. -/
def sgOf (x : Int × Bool × Nat) : Sg := (if x.2.1 then -1 else x.1, x.2.2)
theorem rd_head (enc : Int) (l : Bytes) : (rd enc l).map sgOf = headSg enc l := by
  unfold rd headSg
  by_cases h0 : l.length = 0
  · rw [if_pos h0, if_pos h0]; rfl
  · rw [if_neg h0, if_neg h0]
    by_cases h3 : enc = 3
    · subst h3; rfl
    · rw [if_neg h3]
      by_cases hu : enc = 0
      · rw [if_pos hu, if_pos hu, head_ref]
        unfold refSg
        generalize utfRef l = u
        split
        · rfl
        · simp [sgOf]
      · rw [if_neg hu, if_neg hu, if_neg h3]
        by_cases h2 : l.length < 2
        · rw [if_pos h2, if_pos h2]; rfl
        · rw [if_neg h2, if_neg h2]
          unfold unitHead
          dsimp only
          by_cases hp : 55296 ≤ unitAt enc l 0 ∧ unitAt enc l 0 ≤ 56319 ∧ 3 < l.length ∧ 56320 ≤ unitAt enc l 2 ∧ unitAt enc l 2 ≤ 57343
          · rw [if_pos hp, if_pos hp]
            show some ((65536 + 1024 * (unitAt enc l 0 - 55296) + unitAt enc l 2 - 56320 : Int), 4) = _
            congr 2
            omega
          · rw [if_neg hp, if_neg hp]
            by_cases hs : 55296 ≤ unitAt enc l 0 ∧ unitAt enc l 0 ≤ 57343
            · rw [if_pos hs]; simp [sgOf, hs.1, hs.2]
            · rw [if_neg hs]
              have : (decide (55296 ≤ unitAt enc l 0) && decide (unitAt enc l 0 ≤ 57343)) = false := by
                cases e : (decide (55296 ≤ unitAt enc l 0) && decide (unitAt enc l 0 ≤ 57343))
                · rfl
                · simp at e; exact absurd e hs
              simp [sgOf, this]
end Vm

namespace Go.Proofs.YtjbfgnhkgjigpaaDoor
open Go.RowKit

theorem bcell {W w1 : World} (hb : Below W.heap.size W w1) : (∀ b o, b < W.heap.size → w1.cell? ⟨b, o, none⟩ = W.cell? ⟨b, o, none⟩) ∧ (∀ b o, b < W.heap.size → w1.frozen? ⟨b, o, none⟩ = W.frozen? ⟨b, o, none⟩) :=
  ⟨fun b o h => hb.cell (p := ⟨b, o, none⟩) h, fun b o h => hb.frozen (p := ⟨b, o, none⟩) h⟩

theorem sc_ne (W : World) (B i j : Nat) (v : Value) (h : i ≠ j) : (W.setCell ⟨B, i, none⟩ v).cell? ⟨B, j, none⟩ = W.cell? ⟨B, j, none⟩ := by
  apply World.cell?_setCell_other
  intro e
  injection e with e1 e2
  exact h e2
theorem sc_eq (W : World) (B i : Nat) (v u : Value) (h : W.cell? ⟨B, i, none⟩ = some u) : (W.setCell ⟨B, i, none⟩ v).cell? ⟨B, i, none⟩ = some v := World.cell?_setCell_same' W _ v (by rw [h]; rfl)
/-- Five stores into one block, read back. -/
theorem five_set {W : World} {B : Nat} {u0 u1 u2 u3 u4 : Value} (v0 v1 v2 v3 v4 : Value)
    (h : W.cell? ⟨B, 0, none⟩ = some u0 ∧ W.cell? ⟨B, 1, none⟩ = some u1 ∧ W.cell? ⟨B, 2, none⟩ = some u2 ∧ W.cell? ⟨B, 3, none⟩ = some u3 ∧ W.cell? ⟨B, 4, none⟩ = some u4) :
    (((((W.setCell ⟨B, 0, none⟩ v0).setCell ⟨B, 1, none⟩ v1).setCell ⟨B, 2, none⟩ v2).setCell ⟨B, 3, none⟩ v3).setCell ⟨B, 4, none⟩ v4).cell? ⟨B, 0, none⟩ = some v0 ∧
    (((((W.setCell ⟨B, 0, none⟩ v0).setCell ⟨B, 1, none⟩ v1).setCell ⟨B, 2, none⟩ v2).setCell ⟨B, 3, none⟩ v3).setCell ⟨B, 4, none⟩ v4).cell? ⟨B, 1, none⟩ = some v1 ∧
    (((((W.setCell ⟨B, 0, none⟩ v0).setCell ⟨B, 1, none⟩ v1).setCell ⟨B, 2, none⟩ v2).setCell ⟨B, 3, none⟩ v3).setCell ⟨B, 4, none⟩ v4).cell? ⟨B, 2, none⟩ = some v2 ∧
    (((((W.setCell ⟨B, 0, none⟩ v0).setCell ⟨B, 1, none⟩ v1).setCell ⟨B, 2, none⟩ v2).setCell ⟨B, 3, none⟩ v3).setCell ⟨B, 4, none⟩ v4).cell? ⟨B, 3, none⟩ = some v3 ∧
    (((((W.setCell ⟨B, 0, none⟩ v0).setCell ⟨B, 1, none⟩ v1).setCell ⟨B, 2, none⟩ v2).setCell ⟨B, 3, none⟩ v3).setCell ⟨B, 4, none⟩ v4).cell? ⟨B, 4, none⟩ = some v4 := by
  obtain ⟨h0, h1, h2, h3, h4⟩ := h
  refine ⟨?_, ?_, ?_, ?_, ?_⟩
  · rw [sc_ne _ _ 4 0 _ (by decide), sc_ne _ _ 3 0 _ (by decide), sc_ne _ _ 2 0 _ (by decide), sc_ne _ _ 1 0 _ (by decide), sc_eq _ _ 0 _ u0 h0]
  · rw [sc_ne _ _ 4 1 _ (by decide), sc_ne _ _ 3 1 _ (by decide), sc_ne _ _ 2 1 _ (by decide), sc_eq _ _ 1 _ u1 (by rw [sc_ne _ _ 0 1 _ (by decide)]; exact h1)]
  · rw [sc_ne _ _ 4 2 _ (by decide), sc_ne _ _ 3 2 _ (by decide), sc_eq _ _ 2 _ u2 (by rw [sc_ne _ _ 1 2 _ (by decide), sc_ne _ _ 0 2 _ (by decide)]; exact h2)]
  · rw [sc_ne _ _ 4 3 _ (by decide), sc_eq _ _ 3 _ u3 (by rw [sc_ne _ _ 2 3 _ (by decide), sc_ne _ _ 1 3 _ (by decide), sc_ne _ _ 0 3 _ (by decide)]; exact h3)]
  · rw [sc_eq _ _ 4 _ u4 (by rw [sc_ne _ _ 3 4 _ (by decide), sc_ne _ _ 2 4 _ (by decide), sc_ne _ _ 1 4 _ (by decide), sc_ne _ _ 0 4 _ (by decide)]; exact h4)]
/-- The five stores turn nothing below. -/
theorem five_below {w W : World} {B : Nat} (v0 v1 v2 v3 v4 : Value) (h : Below w.heap.size w W) (hB : w.heap.size ≤ B) :
    Below w.heap.size w (((((W.setCell ⟨B, 0, none⟩ v0).setCell ⟨B, 1, none⟩ v1).setCell ⟨B, 2, none⟩ v2).setCell ⟨B, 3, none⟩ v3).setCell ⟨B, 4, none⟩ v4) :=
  ((((h.setCell (p := ⟨B, 0, none⟩) hB _).setCell (p := ⟨B, 1, none⟩) hB _).setCell (p := ⟨B, 2, none⟩) hB _).setCell (p := ⟨B, 3, none⟩) hB _).setCell (p := ⟨B, 4, none⟩) hB _
/-- Five cells of a block behind a store elsewhere. -/
theorem five_far {W : World} {B C o : Nat} {u0 u1 u2 u3 u4 v : Value} (hne : C ≠ B)
    (h : W.cell? ⟨B, 0, none⟩ = some u0 ∧ W.cell? ⟨B, 1, none⟩ = some u1 ∧ W.cell? ⟨B, 2, none⟩ = some u2 ∧ W.cell? ⟨B, 3, none⟩ = some u3 ∧ W.cell? ⟨B, 4, none⟩ = some u4) :
    (W.setCell ⟨C, o, none⟩ v).cell? ⟨B, 0, none⟩ = some u0 ∧ (W.setCell ⟨C, o, none⟩ v).cell? ⟨B, 1, none⟩ = some u1 ∧ (W.setCell ⟨C, o, none⟩ v).cell? ⟨B, 2, none⟩ = some u2 ∧ (W.setCell ⟨C, o, none⟩ v).cell? ⟨B, 3, none⟩ = some u3 ∧ (W.setCell ⟨C, o, none⟩ v).cell? ⟨B, 4, none⟩ = some u4 := by
  have g : ∀ p, (W.setCell ⟨C, o, none⟩ v).cell? ⟨B, p, none⟩ = W.cell? ⟨B, p, none⟩ := fun p => World.cell?_setCell_far W _ _ v hne
  exact ⟨(g _).trans h.1, (g _).trans h.2.1, (g _).trans h.2.2.1, (g _).trans h.2.2.2.1, (g _).trans h.2.2.2.2⟩

/-- What the reader answers. -/
def rdVal (enc : Int) (s : ByteArray) (i : Nat) : Value :=
  match Vm.rd enc (s.data.toList.drop i) with
  | none => .tuple #[.agg #[.int .i64 0, .bool false, .int .i64 0, .int .i64 i, .int .i64 ((i : Int) + 1)], .bool false]
  | some x => .tuple #[.agg #[.int .i64 x.1, .bool x.2.1, .int .i64 0, .int .i64 i, .int .i64 ((i : Int) + x.2.2)], .bool true]

set_option maxRecDepth 100000 in
set_option maxHeartbeats 1000000 in
theorem rread_latin (s : ByteArray) (i : Nat) (w : World) (hs : s.size ≤ 1099511627776) (hi : i < s.size) :
    Calls Tryd.prog 90 #[.string s, .int .i64 i, .int .i64 3] w fun e w' => e = .returned (rdVal 3 s i) ∧ Below w.heap.size w w' := by
  have hI : (i : Int) < (s.size : Int) := by omega
  have hc := s[i].toNat_lt
  have e : rdVal 3 s i = .tuple #[.agg #[.int .i64 (s[i].toNat : Int), .bool false, .int .i64 0, .int .i64 i, .int .i64 ((i : Int) + 1)], .bool true] := by
    have e := Vm.len_drop s i
    unfold rdVal Vm.rd
    rw [if_neg (by omega), if_pos rfl, Vm.b0_drop, Nat.add_zero, Vm.b0_byte s i hi]; rfl
  rw [e]; clear e
  go_enter Tryd.func90, Tryd.ntmps90
  go_wp2
  exact bodyPost_ret (v := .tuple #[.agg #[.int .i64 (s[i].toNat : Int), .bool false, .int .i64 0, .int .i64 i, .int .i64 ((i : Int) + 1)], .bool true]) (by simp [results, Tryd.results90, go_sem]) rfl ⟨rfl, ((Below.refl _ _).alloc (Nat.le_refl _) _).alloc (by simp) _⟩

set_option maxRecDepth 100000 in
set_option maxHeartbeats 1000000 in
theorem rread_utf (s : ByteArray) (i : Nat) (w : World) (hs : s.size ≤ 1099511627776) (hi : i < s.size) :
    Calls Tryd.prog 90 #[.string s, .int .i64 i, .int .i64 0] w fun e w' => e = .returned (rdVal 0 s i) ∧ Below w.heap.size w w' := by
  have hI : (i : Int) < (s.size : Int) := by omega
  have hc := s[i].toNat_lt
  have e : rdVal 0 s i = if (Vm.utfRef (s.data.toList.drop i)).2 = 0 then .tuple #[.agg #[.int .i64 0, .bool true, .int .i64 0, .int .i64 i, .int .i64 ((i : Int) + 1)], .bool true]
      else .tuple #[.agg #[.int .i64 (Vm.utfRef (s.data.toList.drop i)).1, .bool false, .int .i64 0, .int .i64 i, .int .i64 ((i : Int) + (Vm.utfRef (s.data.toList.drop i)).2)], .bool true] := by
    have e := Vm.len_drop s i
    unfold rdVal Vm.rd
    rw [if_neg (by omega), if_neg (by decide), if_pos rfl]
    split
    · rename_i h; split at h <;> simp at h
    · rename_i x h
      split at h
      · rename_i h2; cases h; rw [if_pos h2]; rfl
      · rename_i h2; cases h; rw [if_neg h2]
  have hle := Vm.utfRef_le (s.data.toList.drop i)
  have hca := rutfAt_any s i
  generalize Vm.utfRef (s.data.toList.drop i) = u at *
  obtain ⟨n, k⟩ := u
  simp only at hle hca e
  have Hca := hide2 hca
  clear hca
  by_cases hk : k = 0
  · subst hk
    rw [e, if_pos rfl]; clear e
    go_enter Tryd.func90, Tryd.ntmps90
    go_wp2_with fail
    refine (Hca.out _ hs hi).mono ?_
    rintro e w2 ⟨rfl, hb2⟩
    obtain ⟨hc2, hf2⟩ := bcell hb2
    simp only [World.size_alloc] at hc2 hf2
    have hz2 := hb2.size
    simp only [World.size_alloc] at hz2
    have z : w2.cell? ⟨w.heap.size, 0, none⟩ = some (.int .i64 0) ∧ w2.cell? ⟨w.heap.size, 1, none⟩ = some (.bool false) ∧ w2.cell? ⟨w.heap.size, 2, none⟩ = some (.int .i64 0) ∧ w2.cell? ⟨w.heap.size, 3, none⟩ = some (.int .i64 0) ∧ w2.cell? ⟨w.heap.size, 4, none⟩ = some (.int .i64 0) :=
      ⟨(hc2 _ _ (by omega)).trans (by simp), (hc2 _ _ (by omega)).trans (by simp), (hc2 _ _ (by omega)).trans (by simp), (hc2 _ _ (by omega)).trans (by simp), (hc2 _ _ (by omega)).trans (by simp)⟩
    have hbw : Below w.heap.size w w2 := (((Below.refl _ _).alloc (Nat.le_refl _) _).alloc (by simp) _).trans (hb2.mono (by simp; omega))
    have Z := hide2 z
    clear z
    go_wp2
    have z := Z.out
    exact bodyPost_ret (v := .tuple #[.agg #[.int .i64 0, .bool true, .int .i64 0, .int .i64 i, .int .i64 ((i : Int) + 1)], .bool true]) (by
      have z5 := five_far (C := w.heap.size + 1) (o := 1) (v := .bool true) (by omega) z
      obtain ⟨q0, q1, q2, q3, q4⟩ := five_set (.int .i64 0) (.bool true) (.int .i64 0) (.int .i64 i) (.int .i64 ((i : Int) + 1)) z5
      simp [results, Tryd.results90, go_sem, q0, q1, q2, q3, q4]) rfl ⟨rfl, five_below _ _ _ _ _ (hbw.setCell (p := ⟨w.heap.size + 1, 1, none⟩) (Nat.le_succ _) _) (Nat.le_refl _)⟩
  · have hk' : ((k : Int) == 0) = false := by rw [beq_eq_false_iff_ne]; omega
    rw [e, if_neg hk]; clear e
    go_enter Tryd.func90, Tryd.ntmps90
    go_wp2_with fail
    refine (Hca.out _ hs hi).mono ?_
    rintro e w2 ⟨rfl, hb2⟩
    obtain ⟨hc2, hf2⟩ := bcell hb2
    simp only [World.size_alloc] at hc2 hf2
    have hz2 := hb2.size
    simp only [World.size_alloc] at hz2
    have z : w2.cell? ⟨w.heap.size, 0, none⟩ = some (.int .i64 0) ∧ w2.cell? ⟨w.heap.size, 1, none⟩ = some (.bool false) ∧ w2.cell? ⟨w.heap.size, 2, none⟩ = some (.int .i64 0) ∧ w2.cell? ⟨w.heap.size, 3, none⟩ = some (.int .i64 0) ∧ w2.cell? ⟨w.heap.size, 4, none⟩ = some (.int .i64 0) :=
      ⟨(hc2 _ _ (by omega)).trans (by simp), (hc2 _ _ (by omega)).trans (by simp), (hc2 _ _ (by omega)).trans (by simp), (hc2 _ _ (by omega)).trans (by simp), (hc2 _ _ (by omega)).trans (by simp)⟩
    have hbw : Below w.heap.size w w2 := (((Below.refl _ _).alloc (Nat.le_refl _) _).alloc (by simp) _).trans (hb2.mono (by simp; omega))
    have Z := hide2 z
    clear z
    go_wp2
    have z := Z.out
    exact bodyPost_ret (v := .tuple #[.agg #[.int .i64 n, .bool false, .int .i64 0, .int .i64 i, .int .i64 ((i : Int) + k)], .bool true]) (by
      have z5 := five_far (C := w.heap.size + 1) (o := 4) (v := .int .i64 ((i : Int) + k)) (by omega) (five_far (C := w.heap.size + 1) (o := 0) (v := .int .i64 n) (by omega) z)
      obtain ⟨q0, q1, q2, q3, q4⟩ := five_set (.int .i64 n) (.bool false) (.int .i64 0) (.int .i64 i) (.int .i64 ((i : Int) + k)) z5
      simp [results, Tryd.results90, go_sem, q0, q1, q2, q3, q4]) rfl ⟨rfl, five_below _ _ _ _ _ ((hbw.setCell (p := ⟨w.heap.size + 1, 0, none⟩) (Nat.le_succ _) _).setCell (p := ⟨w.heap.size + 1, 4, none⟩) (Nat.le_succ _) _) (Nat.le_refl _)⟩

theorem rdVal_tail {enc : Int} {s : ByteArray} {i : Nat} (he : enc = 1 ∨ enc = 2) (hi : i < s.size) (h : s.size ≤ i + 1) :
    rdVal enc s i = .tuple #[.agg #[.int .i64 0, .bool false, .int .i64 0, .int .i64 i, .int .i64 ((i : Int) + 1)], .bool false] := by
  have e := Vm.len_drop s i
  unfold rdVal Vm.rd
  rw [if_neg (by omega), if_neg (by omega), if_neg (by omega), if_pos (by omega)]
theorem rdVal_pair {enc : Int} {s : ByteArray} {i : Nat} (he : enc = 1 ∨ enc = 2) (h : i + 3 < s.size) (hu : 55296 ≤ Vm.unitAt enc s.data.toList i ∧ Vm.unitAt enc s.data.toList i ≤ 56319) (hv : 56320 ≤ Vm.unitAt enc s.data.toList (i + 2) ∧ Vm.unitAt enc s.data.toList (i + 2) ≤ 57343) :
    rdVal enc s i = .tuple #[.agg #[.int .i64 (65536 + 1024 * (Vm.unitAt enc s.data.toList i - 55296) + Vm.unitAt enc s.data.toList (i + 2) - 56320), .bool false, .int .i64 0, .int .i64 i, .int .i64 ((i : Int) + 4)], .bool true] := by
  have e := Vm.len_drop s i
  unfold rdVal Vm.rd
  rw [if_neg (by omega), if_neg (by omega), if_neg (by omega), if_neg (by omega), Vm.unitAt_drop, Vm.unitAt_drop, Nat.add_zero, if_pos ⟨hu.1, hu.2, by omega, hv.1, hv.2⟩]
  rfl
theorem rdVal_lone {enc : Int} {s : ByteArray} {i : Nat} (he : enc = 1 ∨ enc = 2) (h : i + 1 < s.size) (hp : ¬ (55296 ≤ Vm.unitAt enc s.data.toList i ∧ Vm.unitAt enc s.data.toList i ≤ 56319 ∧ i + 3 < s.size ∧ 56320 ≤ Vm.unitAt enc s.data.toList (i + 2) ∧ Vm.unitAt enc s.data.toList (i + 2) ≤ 57343)) :
    rdVal enc s i = .tuple #[.agg #[.int .i64 (Vm.unitAt enc s.data.toList i), .bool (decide (55296 ≤ Vm.unitAt enc s.data.toList i) && decide (Vm.unitAt enc s.data.toList i ≤ 57343)), .int .i64 0, .int .i64 i, .int .i64 ((i : Int) + 2)], .bool true] := by
  have e := Vm.len_drop s i
  unfold rdVal Vm.rd
  rw [if_neg (by omega), if_neg (by omega), if_neg (by omega), if_neg (by omega), Vm.unitAt_drop, Vm.unitAt_drop, Nat.add_zero, if_neg (fun x => hp ⟨x.1, x.2.1, by omega, x.2.2.2⟩)]
  rfl
end Go.Proofs.YtjbfgnhkgjigpaaDoor

namespace Go.Proofs.YtjbfgnhkgjigpaaDoor
open Go.RowKit

set_option maxRecDepth 100000 in
set_option maxHeartbeats 1000000 in
theorem rread_tail (s : ByteArray) (i : Nat) (enc : Int) (w : World) (hs : s.size ≤ 1099511627776) (he : enc = 1 ∨ enc = 2) (hi : i < s.size) (h : s.size ≤ i + 1) :
    Calls Tryd.prog 90 #[.string s, .int .i64 i, .int .i64 enc] w fun e w' => e = .returned (rdVal enc s i) ∧ Below w.heap.size w w' := by
  rw [rdVal_tail he hi h]
  have hI : (i : Int) < (s.size : Int) := by omega
  have hI1 : (s.size : Int) ≤ (i : Int) + 1 := by omega
  have e3 : (enc == 3) = false := by rw [beq_eq_false_iff_ne]; omega
  have e0 : (enc == 0) = false := by rw [beq_eq_false_iff_ne]; omega
  clear he
  go_enter Tryd.func90, Tryd.ntmps90
  go_wp2
  exact bodyPost_ret (v := .tuple #[.agg #[.int .i64 0, .bool false, .int .i64 0, .int .i64 i, .int .i64 ((i : Int) + 1)], .bool false]) (by simp [results, Tryd.results90, go_sem]) rfl ⟨rfl, ((Below.refl _ _).alloc (Nat.le_refl _) _).alloc (by simp) _⟩

/-- Five cells of a block that may be written. -/
structure Bx5 (w : World) (B : Nat) (v0 v1 v2 v3 v4 : Value) : Prop where
  c : w.cell? ⟨B, 0, none⟩ = some v0 ∧ w.cell? ⟨B, 1, none⟩ = some v1 ∧ w.cell? ⟨B, 2, none⟩ = some v2 ∧ w.cell? ⟨B, 3, none⟩ = some v3 ∧ w.cell? ⟨B, 4, none⟩ = some v4
  f : w.frozen? ⟨B, 0, none⟩ = false ∧ w.frozen? ⟨B, 1, none⟩ = false ∧ w.frozen? ⟨B, 2, none⟩ = false ∧ w.frozen? ⟨B, 3, none⟩ = false ∧ w.frozen? ⟨B, 4, none⟩ = false
theorem Bx5.below {w w' : World} {B : Nat} {v0 v1 v2 v3 v4 : Value} (h : Bx5 w B v0 v1 v2 v3 v4) (hb : Below w.heap.size w w') : Bx5 w' B v0 v1 v2 v3 v4 := by
  have hB := block_lt h.c.1
  have g : ∀ o, w'.cell? ⟨B, o, none⟩ = w.cell? ⟨B, o, none⟩ := fun o => hb.cell (p := ⟨B, o, none⟩) hB
  have k : ∀ o, w'.frozen? ⟨B, o, none⟩ = w.frozen? ⟨B, o, none⟩ := fun o => hb.frozen (p := ⟨B, o, none⟩) hB
  exact ⟨⟨(g _).trans h.c.1, (g _).trans h.c.2.1, (g _).trans h.c.2.2.1, (g _).trans h.c.2.2.2.1, (g _).trans h.c.2.2.2.2⟩, ⟨(k _).trans h.f.1, (k _).trans h.f.2.1, (k _).trans h.f.2.2.1, (k _).trans h.f.2.2.2.1, (k _).trans h.f.2.2.2.2⟩⟩
theorem Bx5.new (w : World) (t : TypeId) (v0 v1 v2 v3 v4 : Value) : Bx5 (w.alloc (.cells #[v0, v1, v2, v3, v4] t)) w.heap.size v0 v1 v2 v3 v4 :=
  ⟨⟨by simp, by simp, by simp, by simp, by simp⟩, ⟨by simp [go_sem], by simp [go_sem], by simp [go_sem], by simp [go_sem], by simp [go_sem]⟩⟩
theorem cast_call2 {s : ByteArray} {i : Nat} {enc : Int} {w : World} {R : Ending → World → Prop} (h : Calls Tryd.prog 103 #[.string s, .int .i64 ((i + 2 : Nat) : Int), .int .i64 enc] w R) : Calls Tryd.prog 103 #[.string s, .int .i64 ((i : Int) + 2), .int .i64 enc] w R := h
theorem five_kept' {w w' : World} {B : Nat} {v0 v1 v2 v3 v4 : Value} (h : w.cell? ⟨B, 0, none⟩ = some v0 ∧ w.cell? ⟨B, 1, none⟩ = some v1 ∧ w.cell? ⟨B, 2, none⟩ = some v2 ∧ w.cell? ⟨B, 3, none⟩ = some v3 ∧ w.cell? ⟨B, 4, none⟩ = some v4)
    (hb : Below w.heap.size w w') : w'.cell? ⟨B, 0, none⟩ = some v0 ∧ w'.cell? ⟨B, 1, none⟩ = some v1 ∧ w'.cell? ⟨B, 2, none⟩ = some v2 ∧ w'.cell? ⟨B, 3, none⟩ = some v3 ∧ w'.cell? ⟨B, 4, none⟩ = some v4 := by
  have hB := block_lt h.1
  exact ⟨(hb.cell (p := ⟨B, 0, none⟩) hB).trans h.1, (hb.cell (p := ⟨B, 1, none⟩) hB).trans h.2.1, (hb.cell (p := ⟨B, 2, none⟩) hB).trans h.2.2.1, (hb.cell (p := ⟨B, 3, none⟩) hB).trans h.2.2.2.1, (hb.cell (p := ⟨B, 4, none⟩) hB).trans h.2.2.2.2⟩

set_option maxRecDepth 100000 in
set_option maxHeartbeats 2000000 in
theorem rread_units (s : ByteArray) (i : Nat) (enc : Int) (w : World) (hs : s.size ≤ 1099511627776) (he : enc = 1 ∨ enc = 2) (h : i + 1 < s.size) :
    Calls Tryd.prog 90 #[.string s, .int .i64 i, .int .i64 enc] w fun e w' => e = .returned (rdVal enc s i) ∧ Below w.heap.size w w' := by
  have hI : (i : Int) < (s.size : Int) := by omega
  have hI1 : (i : Int) + 1 < (s.size : Int) := by omega
  have e3 : (enc == 3) = false := by rw [beq_eq_false_iff_ne]; omega
  have e0 : (enc == 0) = false := by rw [beq_eq_false_iff_ne]; omega
  have hub := Vm.unitAt_bd enc s.data.toList i
  have hvb := Vm.unitAt_bd enc s.data.toList (i + 2)
  have hca := runit_any s i enc
  have hcb := runit_any s (i + 2) enc
  have hpair := @rdVal_pair enc s i he
  have hlone := @rdVal_lone enc s i he h
  generalize Vm.unitAt enc s.data.toList i = U at *
  generalize Vm.unitAt enc s.data.toList (i + 2) = V at *
  have Hca := hide2 hca
  have Hcb := hide2 hcb
  have Hpair := hide2 hpair
  have Hlone := hide2 hlone
  clear hca hcb hpair hlone he
  go_enter Tryd.func90, Tryd.ntmps90
  go_wp2_with fail
  refine (Hca.out _ hs h).mono ?_
  rintro e w2 ⟨rfl, hb2⟩
  have bR := ((Bx5.new w 101 (.int .i64 0) (.bool false) (.int .i64 0) (.int .i64 0) (.int .i64 0)).below ((Below.refl _ _).alloc (Nat.le_refl _) (.cells #[.int .i64 0, .bool false, .int .i64 0, .int .i64 i, .int .i64 ((i : Int) + 2)] 101))).below hb2
  have bA := (Bx5.new (w.alloc (.cells #[.int .i64 0, .bool false, .int .i64 0, .int .i64 0, .int .i64 0] 101)) 101 (.int .i64 0) (.bool false) (.int .i64 0) (.int .i64 i) (.int .i64 ((i : Int) + 2))).below hb2
  simp only [World.size_alloc] at bA
  have hbw : Below w.heap.size w w2 := (((Below.refl _ _).alloc (Nat.le_refl _) _).alloc (by simp) _).trans (hb2.mono (by simp; omega))
  clear hb2
  obtain ⟨a0, a1, a2, a3, a4⟩ := bA.c
  obtain ⟨fa0, fa1, fa2, fa3, fa4⟩ := bA.f
  obtain ⟨r0, r1, r2, r3, r4⟩ := bR.c
  obtain ⟨fr0, fr1, fr2, fr3, fr4⟩ := bR.f
  have Z := hide2 bR.c
  by_cases hU : 55296 ≤ U ∧ U ≤ 56319
  · obtain ⟨hU1, hU2⟩ := hU
    by_cases h3 : i + 3 < s.size
    · have h3I : (i : Int) + 3 < (s.size : Int) := by omega
      go_wp2_with fail
      refine (cast_call2 (Hcb.out _ hs (by omega))).mono ?_
      rintro e w3 ⟨rfl, hb3⟩
      have hbw3 : Below w.heap.size w w3 := hbw.trans (hb3.mono hbw.size)
      have bR3 := bR.below hb3
      have bA3 := bA.below hb3
      clear hb3 Z
      obtain ⟨a0', a1', a2', a3', a4'⟩ := bA3.c
      obtain ⟨fa0', fa1', fa2', fa3', fa4'⟩ := bA3.f
      obtain ⟨r0', r1', r2', r3', r4'⟩ := bR3.c
      obtain ⟨fr0', fr1', fr2', fr3', fr4'⟩ := bR3.f
      have Z := hide2 bR3.c
      by_cases hV : 56320 ≤ V ∧ V ≤ 57343
      · obtain ⟨hV1, hV2⟩ := hV
        have Hv := hide2 (Hpair.out h3 ⟨hU1, hU2⟩ ⟨hV1, hV2⟩)
        go_wp2
        have z := Z.out
        exact bodyPost_ret (v := .tuple #[.agg #[.int .i64 (65536 + 1024 * (U - 55296) + V - 56320), .bool false, .int .i64 0, .int .i64 i, .int .i64 ((i : Int) + 4)], .bool true]) (by
          have z5 := five_far (C := w.heap.size + 1) (o := 4) (v := .int .i64 ((i : Int) + 4)) (by omega) (five_far (C := w.heap.size + 1) (o := 0) (v := .int .i64 (65536 + 1024 * (U - 55296) + V - 56320)) (by omega) z)
          obtain ⟨q0, q1, q2, q3, q4⟩ := five_set (.int .i64 (65536 + 1024 * (U - 55296) + V - 56320)) (.bool false) (.int .i64 0) (.int .i64 i) (.int .i64 ((i : Int) + 4)) z5
          simp [results, Tryd.results90, go_sem, q0, q1, q2, q3, q4]) rfl ⟨by rw [Hv.out], five_below _ _ _ _ _ ((hbw3.setCell (p := ⟨w.heap.size + 1, 0, none⟩) (Nat.le_succ _) _).setCell (p := ⟨w.heap.size + 1, 4, none⟩) (Nat.le_succ _) _) (Nat.le_refl _)⟩
      · have Hv := hide2 (Hlone.out (by omega))
        have HE : Hid ((decide (55296 ≤ U) && decide (U ≤ 57343)) = true) := by show _ = _; simp; omega
        have hE2 : U ≤ 57343 := by omega
        by_cases hV1 : 56320 ≤ V
        · have hV2 : ¬ V ≤ 57343 := by omega
          go_wp2
          have z := Z.out
          exact bodyPost_ret (v := .tuple #[.agg #[.int .i64 U, .bool true, .int .i64 0, .int .i64 i, .int .i64 ((i : Int) + 2)], .bool true]) (by
            have z5 := five_far (C := w.heap.size + 1) (o := 1) (v := .bool true) (by omega) (five_far (C := w.heap.size + 1) (o := 0) (v := .int .i64 U) (by omega) z)
            obtain ⟨q0, q1, q2, q3, q4⟩ := five_set (.int .i64 U) (.bool true) (.int .i64 0) (.int .i64 i) (.int .i64 ((i : Int) + 2)) z5
            simp [results, Tryd.results90, go_sem, q0, q1, q2, q3, q4]) rfl ⟨by rw [Hv.out]; rw [HE.out], five_below _ _ _ _ _ ((hbw3.setCell (p := ⟨w.heap.size + 1, 0, none⟩) (Nat.le_succ _) _).setCell (p := ⟨w.heap.size + 1, 1, none⟩) (Nat.le_succ _) _) (Nat.le_refl _)⟩
        · skip
          go_wp2
          have z := Z.out
          exact bodyPost_ret (v := .tuple #[.agg #[.int .i64 U, .bool true, .int .i64 0, .int .i64 i, .int .i64 ((i : Int) + 2)], .bool true]) (by
            have z5 := five_far (C := w.heap.size + 1) (o := 1) (v := .bool true) (by omega) (five_far (C := w.heap.size + 1) (o := 0) (v := .int .i64 U) (by omega) z)
            obtain ⟨q0, q1, q2, q3, q4⟩ := five_set (.int .i64 U) (.bool true) (.int .i64 0) (.int .i64 i) (.int .i64 ((i : Int) + 2)) z5
            simp [results, Tryd.results90, go_sem, q0, q1, q2, q3, q4]) rfl ⟨by rw [Hv.out]; rw [HE.out], five_below _ _ _ _ _ ((hbw3.setCell (p := ⟨w.heap.size + 1, 0, none⟩) (Nat.le_succ _) _).setCell (p := ⟨w.heap.size + 1, 1, none⟩) (Nat.le_succ _) _) (Nat.le_refl _)⟩
    · have h3I : ¬ (i : Int) + 3 < (s.size : Int) := by omega
      have Hv := hide2 (Hlone.out (by omega))
      have HE : Hid ((decide (55296 ≤ U) && decide (U ≤ 57343)) = true) := by show _ = _; simp; omega
      have hE2 : U ≤ 57343 := by omega
      go_wp2
      have z := Z.out
      exact bodyPost_ret (v := .tuple #[.agg #[.int .i64 U, .bool true, .int .i64 0, .int .i64 i, .int .i64 ((i : Int) + 2)], .bool true]) (by
        have z5 := five_far (C := w.heap.size + 1) (o := 1) (v := .bool true) (by omega) (five_far (C := w.heap.size + 1) (o := 0) (v := .int .i64 U) (by omega) z)
        obtain ⟨q0, q1, q2, q3, q4⟩ := five_set (.int .i64 U) (.bool true) (.int .i64 0) (.int .i64 i) (.int .i64 ((i : Int) + 2)) z5
        simp [results, Tryd.results90, go_sem, q0, q1, q2, q3, q4]) rfl ⟨by rw [Hv.out]; rw [HE.out], five_below _ _ _ _ _ ((hbw.setCell (p := ⟨w.heap.size + 1, 0, none⟩) (Nat.le_succ _) _).setCell (p := ⟨w.heap.size + 1, 1, none⟩) (Nat.le_succ _) _) (Nat.le_refl _)⟩
  · by_cases hU1 : 55296 ≤ U
    · have hU2 : ¬ U ≤ 56319 := by omega
      have Hv := hide2 (Hlone.out (by omega))
      by_cases hE2 : U ≤ 57343
      · have HE : Hid ((decide (55296 ≤ U) && decide (U ≤ 57343)) = true) := by show _ = _; simp; omega
        go_wp2
        have z := Z.out
        exact bodyPost_ret (v := .tuple #[.agg #[.int .i64 U, .bool true, .int .i64 0, .int .i64 i, .int .i64 ((i : Int) + 2)], .bool true]) (by
          have z5 := five_far (C := w.heap.size + 1) (o := 1) (v := .bool true) (by omega) (five_far (C := w.heap.size + 1) (o := 0) (v := .int .i64 U) (by omega) z)
          obtain ⟨q0, q1, q2, q3, q4⟩ := five_set (.int .i64 U) (.bool true) (.int .i64 0) (.int .i64 i) (.int .i64 ((i : Int) + 2)) z5
          simp [results, Tryd.results90, go_sem, q0, q1, q2, q3, q4]) rfl ⟨by rw [Hv.out]; rw [HE.out], five_below _ _ _ _ _ ((hbw.setCell (p := ⟨w.heap.size + 1, 0, none⟩) (Nat.le_succ _) _).setCell (p := ⟨w.heap.size + 1, 1, none⟩) (Nat.le_succ _) _) (Nat.le_refl _)⟩
      · have HE : Hid ((decide (55296 ≤ U) && decide (U ≤ 57343)) = false) := by show _ = _; simp; omega
        have hE3 : decide (U ≤ 57343) = false := by simp; omega
        go_wp2
        have z := Z.out
        exact bodyPost_ret (v := .tuple #[.agg #[.int .i64 U, .bool false, .int .i64 0, .int .i64 i, .int .i64 ((i : Int) + 2)], .bool true]) (by
          have z5 := five_far (C := w.heap.size + 1) (o := 1) (v := .bool false) (by omega) (five_far (C := w.heap.size + 1) (o := 0) (v := .int .i64 U) (by omega) z)
          obtain ⟨q0, q1, q2, q3, q4⟩ := five_set (.int .i64 U) (.bool false) (.int .i64 0) (.int .i64 i) (.int .i64 ((i : Int) + 2)) z5
          simp [results, Tryd.results90, go_sem, q0, q1, q2, q3, q4]) rfl ⟨by rw [Hv.out]; rw [HE.out], five_below _ _ _ _ _ ((hbw.setCell (p := ⟨w.heap.size + 1, 0, none⟩) (Nat.le_succ _) _).setCell (p := ⟨w.heap.size + 1, 1, none⟩) (Nat.le_succ _) _) (Nat.le_refl _)⟩
    · have Hv := hide2 (Hlone.out (by omega))
      have HE : Hid ((decide (55296 ≤ U) && decide (U ≤ 57343)) = false) := by show _ = _; simp; omega
      go_wp2
      have z := Z.out
      exact bodyPost_ret (v := .tuple #[.agg #[.int .i64 U, .bool false, .int .i64 0, .int .i64 i, .int .i64 ((i : Int) + 2)], .bool true]) (by
        have z5 := five_far (C := w.heap.size + 1) (o := 1) (v := .bool false) (by omega) (five_far (C := w.heap.size + 1) (o := 0) (v := .int .i64 U) (by omega) z)
        obtain ⟨q0, q1, q2, q3, q4⟩ := five_set (.int .i64 U) (.bool false) (.int .i64 0) (.int .i64 i) (.int .i64 ((i : Int) + 2)) z5
        simp [results, Tryd.results90, go_sem, q0, q1, q2, q3, q4]) rfl ⟨by rw [Hv.out]; rw [HE.out], five_below _ _ _ _ _ ((hbw.setCell (p := ⟨w.heap.size + 1, 0, none⟩) (Nat.le_succ _) _).setCell (p := ⟨w.heap.size + 1, 1, none⟩) (Nat.le_succ _) _) (Nat.le_refl _)⟩

/-- The reference's reader: whatever the encoding. -/
theorem rread_any (s : ByteArray) (i : Nat) (enc : Int) (w : World) (hs : s.size ≤ 1099511627776) (h0 : 0 ≤ enc) (h3 : enc ≤ 3) (hi : i < s.size) :
    Calls Tryd.prog 90 #[.string s, .int .i64 i, .int .i64 enc] w fun e w' => e = .returned (rdVal enc s i) ∧ Below w.heap.size w w' := by
  have : enc = 0 ∨ enc = 3 ∨ (enc = 1 ∨ enc = 2) := by omega
  rcases this with rfl | rfl | he
  · exact rread_utf s i w hs hi
  · exact rread_latin s i w hs hi
  · by_cases h : i + 1 < s.size
    · exact rread_units s i enc w hs he h
    · exact rread_tail s i enc w hs he hi (by omega)
end Go.Proofs.YtjbfgnhkgjigpaaDoor

namespace Vm
/-- Char, Escape, End, From, To. -/
abbrev RA := Int × Bool × Int × Int × Int
/-- The reference's atom a is the atom x, which begins at p. -/
def RaOk (a : RA) (x : At) (p : Nat) : Prop :=
  a.2.2.2.1 = p ∧ a.2.2.2.2 = (p : Int) + x.2.2 ∧ a.2.1 = decide (x.1 = 4) ∧ a.2.2.1 = (if x.1 ≤ 2 then x.1 + 1 else 0) ∧ (x.1 ≠ 4 → a.1 = x.2.1) ∧ 0 ≤ x.1 ∧ x.1 ≤ 4
def Reads : List RA → List At → Nat → Prop
  | [], [], _ => True
  | a :: L, x :: A, p => RaOk a x p ∧ Reads L A (p + x.2.2)
  | _, _, _ => False
def sizeA (A : List At) : Nat := (A.map (fun x => x.2.2)).sum
theorem sizeA_snoc (A : List At) (x : At) : sizeA (A ++ [x]) = sizeA A + x.2.2 := by simp [sizeA]
theorem Reads.snoc : ∀ {L : List RA} {A : List At} {p : Nat} {a : RA} {x : At}, Reads L A p → RaOk a x (p + sizeA A) → Reads (L ++ [a]) (A ++ [x]) p
  | [], [], p, a, x, _, h => by simpa [Reads, sizeA] using h
  | [], _ :: _, _, _, _, h, _ => h.elim
  | _ :: _, [], _, _, _, h, _ => h.elim
  | b :: L, y :: A, p, a, x, h, hx => by
    refine ⟨h.1, h.2.snoc ?_⟩
    have : p + y.2.2 + sizeA A = p + sizeA (y :: A) := by simp [sizeA]; omega
    rw [this]; exact hx
theorem Reads.length : ∀ {L : List RA} {A : List At} {p : Nat}, Reads L A p → L.length = A.length
  | [], [], _, _ => rfl
  | [], _ :: _, _, h => h.elim
  | _ :: _, [], _, h => h.elim
  | _ :: L, _ :: A, _, h => by simp [h.2.length]
/-- The last atom told is no CR where none is held. -/
def NoCr (A : List At) : Prop := ∀ B x, A = B ++ [x] → x.1 ≠ 2
theorem nocr_nil : NoCr [] := fun B x h => by simp at h
theorem nocr_snoc {A : List At} {x : At} (h : x.1 ≠ 2) : NoCr (A ++ [x]) := fun B y e => by
  have := List.append_inj_right' e (by simp)
  simp at this; rw [← this]; exact h
/-- The End of the last. -/
theorem Reads.last {L : List RA} {a : RA} {A : List At} {p : Nat} (h : Reads (L ++ [a]) A p) (hn : NoCr A) : a.2.2.1 ≠ 3 := by
  induction L generalizing A p with
  | nil =>
    cases A with
    | nil => exact h.elim
    | cons x A =>
      cases A with
      | nil =>
        obtain ⟨⟨_, _, _, he, _, h0, _⟩, _⟩ := h
        have := hn [] x rfl
        rw [he]; split <;> omega
      | cons y A => exact h.2.elim
  | cons b L ih =>
    cases A with
    | nil => exact h.elim
    | cons x A => exact ih h.2 (fun B y e => hn (x :: B) y (by simp [e]))
end Vm

namespace Vm
theorem utfRef_valid (l : Bytes) (h : (utfRef l).2 ≠ 0) : validB (utfRef l).1 = true ∧ utfLen (utfRef l).1 = (utfRef l).2 := by
  unfold utfRef at h ⊢
  generalize rok l (rk (b0 l 0) - 1) = R at *
  generalize rpart l (rk (b0 l 0)) = N at *
  generalize rk (b0 l 0) = K at *
  by_cases c1 : K = 0
  · rw [if_pos c1] at h; simp at h
  · rw [if_neg c1] at h ⊢
    by_cases c2 : R = false
    · rw [if_pos c2] at h; simp at h
    · rw [if_neg c2] at h ⊢
      by_cases c3 : validB N = false
      · rw [if_pos c3] at h; simp at h
      · rw [if_neg c3] at h ⊢
        by_cases c4 : utfLen N = K
        · rw [if_pos c4]; exact ⟨by simpa using c3, c4⟩
        · rw [if_neg c4] at h; simp at h
/-- What is read: an escape is no line end, a character no number below 0. -/
theorem rd_what {enc : Int} {l : Bytes} {x : Int × Bool × Nat} (h : rd enc l = some x) : (x.2.1 = true → x.1 ≠ 10 ∧ x.1 ≠ 13) ∧ (x.2.1 = false → 0 ≤ x.1) := by
  unfold rd at h
  by_cases h0 : l.length = 0
  · rw [if_pos h0] at h; cases h
  · rw [if_neg h0] at h
    by_cases h3 : enc = 3
    · rw [if_pos h3] at h
      simp only [Option.some.injEq] at h; subst h
      exact ⟨fun e => by simp at e, fun _ => (b0_bd l 0).1⟩
    · rw [if_neg h3] at h
      by_cases hu : enc = 0
      · rw [if_pos hu] at h
        have hv := utfRef_valid l
        generalize utfRef l = u at *
        by_cases hk : u.2 = 0
        · rw [if_pos hk] at h
          simp only [Option.some.injEq] at h; subst h
          exact ⟨fun _ => by simp, fun e => by simp at e⟩
        · rw [if_neg hk] at h
          simp only [Option.some.injEq] at h; subst h
          have := (validB_iff u.1).1 (hv hk).1
          exact ⟨fun e => by simp at e, fun _ => by simp only; omega⟩
      · rw [if_neg hu] at h
        have hb := unitAt_bd enc l 0
        generalize unitAt enc l 0 = u at *
        generalize unitAt enc l 2 = v at *
        by_cases h2 : l.length < 2
        · rw [if_pos h2] at h; cases h
        · rw [if_neg h2] at h
          by_cases hp : 55296 ≤ u ∧ u ≤ 56319 ∧ 3 < l.length ∧ 56320 ≤ v ∧ v ≤ 57343
          · rw [if_pos hp] at h
            simp only [Option.some.injEq] at h; subst h
            exact ⟨fun e => by simp at e, fun _ => by simp only; omega⟩
          · rw [if_neg hp] at h
            simp only [Option.some.injEq] at h; subst h
            refine ⟨fun e => ?_, fun _ => hb.1⟩
            simp only [Bool.and_eq_true, decide_eq_true_eq] at e
            constructor <;> (simp only; omega)
theorem rd_le {enc : Int} {l : Bytes} {x : Int × Bool × Nat} (h : rd enc l = some x) (he : x.2.1 = false) : x.1 ≤ 1114111 := by
  unfold rd at h
  by_cases h0 : l.length = 0
  · rw [if_pos h0] at h; cases h
  · rw [if_neg h0] at h
    by_cases h3 : enc = 3
    · rw [if_pos h3] at h
      simp only [Option.some.injEq] at h; subst h
      have := (b0_bd l 0).2
      simp only; omega
    · rw [if_neg h3] at h
      by_cases hu : enc = 0
      · rw [if_pos hu] at h
        have hv := utfRef_valid l
        generalize utfRef l = u at *
        by_cases hk : u.2 = 0
        · rw [if_pos hk] at h
          simp only [Option.some.injEq] at h; subst h
          simp at he
        · rw [if_neg hk] at h
          simp only [Option.some.injEq] at h; subst h
          have := (validB_iff u.1).1 (hv hk).1
          simp only; omega
      · rw [if_neg hu] at h
        have hb := unitAt_bd enc l 0
        generalize unitAt enc l 0 = u at *
        generalize unitAt enc l 2 = v at *
        by_cases h2 : l.length < 2
        · rw [if_pos h2] at h; cases h
        · rw [if_neg h2] at h
          by_cases hp : 55296 ≤ u ∧ u ≤ 56319 ∧ 3 < l.length ∧ 56320 ≤ v ∧ v ≤ 57343
          · rw [if_pos hp] at h
            simp only [Option.some.injEq] at h; subst h
            simp only; omega
          · rw [if_neg hp] at h
            simp only [Option.some.injEq] at h; subst h
            simp only; omega
theorem rd_bd {enc : Int} {l : Bytes} {x : Int × Bool × Nat} (h : rd enc l = some x) : 1 ≤ x.2.2 ∧ x.2.2 ≤ 4 ∧ x.2.2 ≤ l.length := by
  have := rd_head enc l
  rw [h] at this
  exact headSg_le this.symm
theorem rd_sign {enc : Int} {l : Bytes} {x : Int × Bool × Nat} (h : rd enc l = some x) : headSg enc l = some (sgOf x) := by
  rw [← rd_head, h]; rfl
theorem rd_no {enc : Int} {l : Bytes} (h : rd enc l = none) : headSg enc l = none := by
  rw [← rd_head, h]; rfl
/-- The list when k bytes have been read. -/
def RS (enc : Int) (bs : Bytes) (k : Nat) (L : List RA) : Prop :=
  ∃ pre outA h L0, signs enc bs = pre ++ signs enc (bs.drop k) ∧ Told pre outA h ∧ Reads L0 outA 0 ∧ sizeA outA + h = k ∧ (h = 0 → NoCr outA) ∧
    L = L0 ++ (if 0 < h then [(10, false, 3, ((k : Int) - h), (k : Int))] else []) ∧ L.length ≤ k
theorem RS.nil (enc : Int) (bs : Bytes) : RS enc bs 0 [] := ⟨[], [], 0, [], rfl, Told.nil, trivial, rfl, fun _ => nocr_nil, rfl, Nat.le_refl _⟩
/-- A held 13 becomes a line end of its own. -/
theorem Reads.cr {L0 : List RA} {outA : List At} {h k : Nat} (hr : Reads L0 outA 0) (hs : sizeA outA + h = k) : Reads (L0 ++ [(10, false, 3, ((k : Int) - h), (k : Int))]) (outA ++ [(2, 10, h)]) 0 :=
  hr.snoc ⟨by simp only; omega, by simp only; omega, by simp, by simp, fun _ => rfl, by simp, by simp⟩
theorem RS.done {enc : Int} {bs : Bytes} {k : Nat} {L : List RA} (r : RS enc bs k L) (h : headSg enc (bs.drop k) = none) : Reads L (atoms enc bs) 0 := by
  obtain ⟨pre, outA, hh, L0, hs, t, hr, hz, _, rfl, _⟩ := r
  have e := sg_end hs h
  unfold atoms
  rw [e, t.all]
  by_cases x : 0 < hh
  · rw [if_pos x, if_pos x]; exact hr.cr hz
  · rw [if_neg x, if_neg x]; simpa using hr
theorem RS.len {enc : Int} {bs : Bytes} {k : Nat} {L : List RA} (r : RS enc bs k L) : L.length ≤ k := by
  obtain ⟨_, _, _, _, _, _, _, _, _, _, h⟩ := r; exact h
theorem sgl (c : Int) (e : Bool) (n : Nat) (h10 : c ≠ 10) (hp : e = false → 0 ≤ c) : singleA (sgOf (c, e, n)) = if e then (4, 65533, n) else (3, c, n) := by
  unfold singleA sgOf
  cases e
  · have := hp rfl
    simp [h10, show c ≠ -1 by omega]
  · rfl
/-- A sign that is neither 10 nor 13. -/
theorem RS.other {enc : Int} {bs : Bytes} {k : Nat} {L : List RA} {c : Int} {e : Bool} {n : Nat} (r : RS enc bs k L) (hx : rd enc (bs.drop k) = some (c, e, n)) (h10 : c ≠ 10) (h13 : c ≠ 13) :
    RS enc bs (k + n) (L ++ [(c, e, 0, (k : Int), (k : Int) + n)]) := by
  obtain ⟨pre, outA, hh, L0, hs, t, hr, hz, hn, rfl, hl⟩ := r
  obtain ⟨b1, b2, b3⟩ := rd_bd hx
  simp only at b1
  obtain ⟨_, hs2⟩ := sg_next hs (rd_sign hx)
  have g10 : (sgOf (c, e, n)).1 ≠ 10 := by unfold sgOf; cases e <;> simp [h10]
  have g13 : (sgOf (c, e, n)).1 ≠ 13 := by unfold sgOf; cases e <;> simp [h13]
  have gn : (sgOf (c, e, n)).2 = n := rfl
  rw [gn] at hs2
  have hA := sgl c e n h10 (rd_what hx).2
  have hsingle : (singleA (sgOf (c, e, n))).2.2 = n := by rw [hA]; cases e <;> rfl
  have hnk : (singleA (sgOf (c, e, n))).1 ≠ 2 := by rw [hA]; cases e <;> simp
  have hok : ∀ p : Nat, p = k → RaOk (c, e, 0, (k : Int), (k : Int) + n) (singleA (sgOf (c, e, n))) p := fun p hp => by
    subst hp
    rw [hA]
    cases e
    · exact ⟨rfl, rfl, by simp, by simp, fun _ => rfl, by simp, by simp⟩
    · exact ⟨rfl, rfl, by simp, by simp, fun x => absurd rfl x, by simp, by simp⟩
  have hlen : ∀ M : List RA, M.length ≤ k → (M ++ [(c, e, 0, (k : Int), (k : Int) + n)]).length ≤ k + n := fun M hM => by simp; omega
  by_cases x : 0 < hh
  · rw [if_pos x] at hl ⊢
    refine ⟨_, outA ++ [(2, 10, hh)] ++ [singleA (sgOf (c, e, n))], 0, L0 ++ [(10, false, 3, ((k : Int) - hh), (k : Int))] ++ [(c, e, 0, (k : Int), (k : Int) + n)], hs2, t.one2 x g13 g10, (hr.cr hz).snoc (hok _ ?_), ?_, fun _ => nocr_snoc hnk, by simp, hlen _ hl⟩
    · rw [sizeA_snoc]; simp only; omega
    · rw [sizeA_snoc, sizeA_snoc, hsingle]; simp only; omega
  · rw [if_neg x, List.append_nil] at hl ⊢
    refine ⟨_, outA ++ [singleA (sgOf (c, e, n))], 0, L0 ++ [(c, e, 0, (k : Int), (k : Int) + n)], hs2, t.one (by omega) g13, hr.snoc (hok _ (by omega)), ?_, fun _ => nocr_snoc hnk, by simp, hlen _ hl⟩
    rw [sizeA_snoc, hsingle]; omega
/-- A 13. -/
theorem RS.cr {enc : Int} {bs : Bytes} {k : Nat} {L : List RA} {n : Nat} (r : RS enc bs k L) (hx : rd enc (bs.drop k) = some (13, false, n)) :
    RS enc bs (k + n) (L ++ [(10, false, 3, (k : Int), (k : Int) + n)]) := by
  obtain ⟨pre, outA, hh, L0, hs, t, hr, hz, hn, rfl, hl⟩ := r
  obtain ⟨b1, b2, b3⟩ := rd_bd hx
  simp only at b1
  obtain ⟨_, hs2⟩ := sg_next hs (rd_sign hx)
  have gn : sgOf (13, false, n) = (13, n) := rfl
  rw [gn] at hs2
  have e1 : (((k + n : Nat) : Int) - (n : Int)) = (k : Int) := by omega
  have e2 : ((k + n : Nat) : Int) = (k : Int) + n := by omega
  by_cases x : 0 < hh
  · rw [if_pos x] at hl ⊢
    refine ⟨_, outA ++ [(2, 10, hh)], n, L0 ++ [(10, false, 3, ((k : Int) - hh), (k : Int))], hs2, t.cr2 x rfl, hr.cr hz, ?_, fun y => by omega, ?_, by simp at hl ⊢; omega⟩
    · rw [sizeA_snoc]; simp only; omega
    · rw [if_pos (by omega), e1, e2]
  · rw [if_neg x, List.append_nil] at hl ⊢
    refine ⟨_, outA, n, L0, hs2, t.cr (by omega) rfl, hr, by omega, fun y => by omega, ?_, by simp; omega⟩
    rw [if_pos (by omega), e1, e2]
/-- A 10 behind no 13. -/
theorem RS.lf {enc : Int} {bs : Bytes} {k : Nat} {L : List RA} {n : Nat} (r : RS enc bs k L) (hx : rd enc (bs.drop k) = some (10, false, n)) (hlast : ∀ M a, L = M ++ [a] → a.2.2.1 ≠ 3) :
    RS enc bs (k + n) (L ++ [(10, false, 1, (k : Int), (k : Int) + n)]) := by
  obtain ⟨pre, outA, hh, L0, hs, t, hr, hz, hn, rfl, hl⟩ := r
  obtain ⟨b1, b2, b3⟩ := rd_bd hx
  simp only at b1
  obtain ⟨_, hs2⟩ := sg_next hs (rd_sign hx)
  have gn : sgOf (10, false, n) = (10, n) := rfl
  rw [gn] at hs2
  by_cases x : 0 < hh
  · rw [if_pos x] at hlast
    exact absurd rfl (hlast _ _ rfl)
  · rw [if_neg x, List.append_nil] at hl ⊢
    refine ⟨_, outA ++ [(0, 10, n)], 0, L0 ++ [(10, false, 1, (k : Int), (k : Int) + n)], hs2, t.one (x := (10, n)) (by omega) (by simp), hr.snoc ⟨by simp only; omega, by simp only; omega, by simp, by simp, fun _ => rfl, by simp, by simp⟩, ?_, fun _ => nocr_snoc (by simp), by simp, by simp; omega⟩
    rw [sizeA_snoc]; simp only; omega
/-- A 10 behind a 13. -/
theorem RS.crlf {enc : Int} {bs : Bytes} {k : Nat} {M : List RA} {a : RA} {n : Nat} (r : RS enc bs k (M ++ [a])) (hx : rd enc (bs.drop k) = some (10, false, n)) (ha : a.2.2.1 = 3) :
    RS enc bs (k + n) (M ++ [(a.1, a.2.1, 2, a.2.2.2.1, (k : Int) + n)]) := by
  obtain ⟨pre, outA, hh, L0, hs, t, hr, hz, hn, hL, hl⟩ := r
  obtain ⟨b1, b2, b3⟩ := rd_bd hx
  simp only at b1
  obtain ⟨_, hs2⟩ := sg_next hs (rd_sign hx)
  have gn : sgOf (10, false, n) = (10, n) := rfl
  rw [gn] at hs2
  by_cases x : 0 < hh
  · rw [if_pos x] at hL
    have h1 := List.append_inj_right' hL (by simp)
    have h2 := List.append_inj_left' hL (by simp)
    subst h2
    simp only [List.cons.injEq, and_true] at h1
    subst h1
    refine ⟨_, outA ++ [(1, 10, n + hh)], 0, M ++ [(10, false, 2, ((k : Int) - hh), (k : Int) + n)], hs2, t.crlf (x := (10, n)) x rfl, hr.snoc ⟨by simp only; omega, by simp only; omega, by simp, by simp, fun _ => rfl, by simp, by simp⟩, ?_, fun _ => nocr_snoc (by simp), by simp, by simp at hl ⊢; omega⟩
    rw [sizeA_snoc]; simp only; omega
  · rw [if_neg x, List.append_nil] at hL
    subst hL
    exact absurd ha (hr.last (hn (by omega)))
end Vm

namespace Go.Proofs.YtjbfgnhkgjigpaaDoor
open Go.RowKit

def cellsRA (a : Vm.RA) : List Value := [.int .i64 a.1, .bool a.2.1, .int .i64 a.2.2.1, .int .i64 a.2.2.2.1, .int .i64 a.2.2.2.2]
def flatRA (L : List Vm.RA) : List Value := L.flatMap cellsRA
theorem flatRA_length (L : List Vm.RA) : (flatRA L).length = L.length * 5 := by
  induction L with
  | nil => rfl
  | cons a L ih => simp [flatRA, cellsRA] at ih ⊢; omega
theorem flatRA_snoc (L : List Vm.RA) (a : Vm.RA) : flatRA (L ++ [a]) = flatRA L ++ cellsRA a := by simp [flatRA]
/-- A cell of the last. -/
theorem flatRA_last (L : List Vm.RA) (a : Vm.RA) (j : Nat) (hj : j < 5) : (flatRA (L ++ [a]))[L.length * 5 + j]? = (cellsRA a)[j]? := by
  rw [flatRA_snoc, List.getElem?_append_right (by rw [flatRA_length]; omega), flatRA_length]; congr 1; omega
theorem Tryd.infoAtom : (Tryd.prog.info? 101).map (fun i => (i.zero, i.size, i.bytes)) = some (some (.agg #[.int .i64 0, .bool false, .int .i64 0, .int .i64 0, .int .i64 0]), 5, 40) := by kernel_rfl

/-- A list of atoms in memory of the callee's own. -/
def Holds (w : World) (base : Nat) (v : Value) (L : List Vm.RA) : Prop := w.ownsRow base 101 5 v L.length (flatRA L)

theorem Holds.below {w w' : World} {base : Nat} {v : Value} {L : List Vm.RA} (h : Holds w base v L) (hb : Below w.heap.size w w') : Holds w' base v L := by
  refine ⟨h.1, ?_⟩
  rcases h.2 with x | ⟨g, cap, cur, e1, e2, e3, r⟩
  · exact .inl x
  · exact .inr ⟨g, cap, cur, e1, e2, (hb.block g (Array.getElem?_eq_some_iff.1 e3).1).trans e3, r⟩
theorem five_new (w : World) (o : Obj) (t : TypeId) (v0 v1 v2 v3 v4 : Value) : ∀ (j : Nat) (u : Value), [v0, v1, v2, v3, v4][j]? = some u → ((w.alloc o).alloc (.cells #[v0, v1, v2, v3, v4] t)).cell? ((⟨w.heap.size + 1, 0, none⟩ : Addr).add j) = some u := by
  intro j u h
  have hp : (⟨w.heap.size + 1, 0, none⟩ : Addr).add j = ⟨w.heap.size + 1, j, none⟩ := by unfold Addr.add; split <;> simp_all
  rw [hp]
  have : j = 0 ∨ j = 1 ∨ j = 2 ∨ j = 3 ∨ j = 4 := by
    have := (List.getElem?_eq_some_iff.1 h).1
    simp at this; omega
  rcases this with rfl | rfl | rfl | rfl | rfl <;> simp at h <;> subst h <;> simp
theorem Holds.lt {w : World} {base : Nat} {v : Value} {L : List Vm.RA} (h : Holds w base v L) : ∀ k, v.ownBlock = some k → base ≤ k ∧ k < w.heap.size := World.ownsRow.lt h
theorem Holds.cellAt {w : World} {base g n cap : Nat} {L : List Vm.RA} (h : Holds w base (.slice (some ⟨g, 0, none⟩) n cap) L) (j : Nat) (hj : j < L.length * 5) : w.cell? ⟨g, j, none⟩ = (flatRA L)[j]? := by
  obtain rfl : n = L.length := by
    rcases h.2 with ⟨x, _⟩ | ⟨_, _, _, x, _⟩
    · cases x
    · cases x; rfl
  exact World.ownsRow.cellAt h j hj
theorem Holds.frozenAt {w : World} {base g n cap : Nat} {L : List Vm.RA} (h : Holds w base (.slice (some ⟨g, 0, none⟩) n cap) L) (j : Nat) : w.frozen? ⟨g, j, none⟩ = false := by
  obtain rfl : n = L.length := by
    rcases h.2 with ⟨x, _⟩ | ⟨_, _, _, x, _⟩
    · cases x
    · cases x; rfl
  exact World.ownsRow.frozenAt h j
theorem set_tail {α : Type} (F C : List α) (j : Nat) (x : α) : (F ++ C).set (F.length + j) x = F ++ C.set j x := by
  rw [List.set_append_right _ _ (by omega)]; simp
theorem Holds.last2 {w : World} {base g n cap : Nat} {M : List Vm.RA} {a : Vm.RA} (h : Holds w base (.slice (some ⟨g, 0, none⟩) n cap) (M ++ [a])) (x y : Int) :
    Holds ((w.setCell ⟨g, M.length * 5 + 2, none⟩ (.int .i64 x)).setCell ⟨g, M.length * 5 + 4, none⟩ (.int .i64 y)) base (.slice (some ⟨g, 0, none⟩) n cap) (M ++ [(a.1, a.2.1, x, a.2.2.2.1, y)]) := by
  obtain rfl : n = (M ++ [a]).length := by
    rcases h.2 with ⟨x, _⟩ | ⟨_, _, _, x, _⟩
    · cases x
    · cases x; rfl
  have h1 := (World.ownsRow.stored h (M.length * 5 + 2) (.int .i64 x)).1
  have h2 := (World.ownsRow.stored h1 (M.length * 5 + 4) (.int .i64 y)).1
  unfold Holds
  have e : ((flatRA (M ++ [a])).set (M.length * 5 + 2) (.int .i64 x)).set (M.length * 5 + 4) (.int .i64 y) = flatRA (M ++ [(a.1, a.2.1, x, a.2.2.2.1, y)]) := by
    rw [flatRA_snoc, flatRA_snoc, ← flatRA_length, set_tail, set_tail]; rfl
  rw [e] at h2
  have l : (M ++ [(a.1, a.2.1, x, a.2.2.2.1, y)]).length = (M ++ [a]).length := by simp
  rw [l]; exact h2
theorem Holds.alloc {w : World} {base : Nat} {v : Value} {L : List Vm.RA} (h : Holds w base v L) (o : Obj) : Holds (w.alloc o) base v L := World.ownsRow.alloc h o

set_option maxRecDepth 100000 in
set_option maxHeartbeats 2000000 in
theorem ratoms_any (s : ByteArray) (enc : Int) (w : World) (hs : s.size ≤ 1099511627776) (h0 : 0 ≤ enc) (h3 : enc ≤ 3) :
    Calls Tryd.prog 76 #[.string s, .int .i64 enc] w fun e w' => ∃ v L, e = .returned v ∧ Vm.Reads L (Vm.atoms enc s.data.toList) 0 ∧ L.length ≤ s.size ∧ Holds w' w.heap.size v L ∧ Below w.heap.size w w' := by
  obtain ⟨i0, hi, hz0, hz1, hz2⟩ := info_parts Tryd.infoAtom
  go_enter Tryd.func76, Tryd.ntmps76
  go_wp2
  go_loopw [5, 6] (fun out i wx => ∃ (k : Nat) (L : List Vm.RA) (p : Option Addr) (cap : Nat), k ≤ s.size ∧ i = .int .i64 k ∧ Vm.RS enc s.data.toList k L ∧ out = .slice p L.length cap ∧ Holds wx w.heap.size (.slice p L.length cap) L ∧ Below w.heap.size w wx) (fun _ i _ => s.size - (intOf i).toNat)
  case atStart => exact ⟨0, [], none, 0, Nat.zero_le _, rfl, Vm.RS.nil _ _, rfl, World.ownsRow_nil _ _ _ _, Below.refl _ _⟩
  case round =>
    obtain ⟨k, L, p, cap, hk, rfl, hrs, rfl, hown, hbx⟩ := hrel
    have HR := hide2 hrs
    have HO := hide2 hown
    clear hrs hown
    by_cases hlt : k < s.size
    · have hltI : (k : Int) < (s.size : Int) := by omega
      cases hrd : Vm.rd enc (s.data.toList.drop k) with
      | none =>
        have hval : rdVal enc s k = .tuple #[.agg #[.int .i64 0, .bool false, .int .i64 0, .int .i64 k, .int .i64 ((k : Int) + 1)], .bool false] := by unfold rdVal; rw [hrd]
        have HV := hide2 hval
        have HD := hide2 hrd
        clear hval hrd
        go_wp2_with fail
        refine (rread_any s k enc _ hs h0 h3 hlt).mono ?_
        rintro e w1 ⟨rfl, hb1⟩
        rw [HV.out]
        go_wp2
        go_ret
        exact ⟨_, L, rfl, HR.out.done (Vm.rd_no HD.out), by have := HR.out.len; omega, (HO.out.below hb1).alloc _, (hbx.trans (hb1.mono hbx.size)).alloc (by have := hbx.size; have := hb1.size; omega) _⟩
      | some x =>
        obtain ⟨c, e, n⟩ := x
        obtain ⟨hn1, hn4, hnl⟩ := Vm.rd_bd hrd
        simp only at hn1 hn4 hnl
        rw [Vm.len_drop] at hnl
        have hval : rdVal enc s k = .tuple #[.agg #[.int .i64 c, .bool e, .int .i64 0, .int .i64 k, .int .i64 ((k : Int) + n)], .bool true] := by unfold rdVal; rw [hrd]
        have HV := hide2 hval
        have HD := hide2 hrd
        have hwh := Vm.rd_what hrd
        simp only at hwh
        clear hval hrd
        have hLk := HR.out.len
        by_cases h10 : c = 10
        · subst h10
          obtain rfl : e = false := by cases e <;> simp_all
          rcases List.eq_nil_or_concat L with hL | ⟨M, a, hL⟩
          · subst hL
            have RS2 := hide2 (HR.out.lf HD.out (fun M a h => by simp at h))
            clear hwh
            have hl0 : ((0 : Nat) : Int) - 1 = -1 := rfl
            go_wp2_with fail
            refine (rread_any s k enc _ hs h0 h3 hlt).mono ?_
            rintro e w1 ⟨rfl, hb1⟩
            rw [HV.out]
            have HO1 := hide2 (HO.out.below hb1)
            have hbw := hbx.trans (hb1.mono hbx.size)
            have hsz := hbw.size
            clear hb1
            go_wp2_with (at_builtin; refine wpList_append_own _ rfl _ _ 97 rfl w.heap.size 101 i0 _ 5 40 Tryd.underlying97 hi hz0 hz1 hz2 rfl (by decide) _ 0 [] rfl ?hown ⟨w1.heap.size + 1, 0, none⟩ 1 1 [.int .i64 10, .bool false, .int .i64 1, .int .i64 k, .int .i64 ((k : Int) + n)] rfl rfl ?hnews ?h1 ?h63 ?hby ?hbase ?hrest)
            case hown => exact (HO1.out.alloc _).alloc _
            case hnews => exact five_new _ _ _ _ _ _ _ _
            case h1 => simp [Value.oneCell']
            case h63 => unfold maxLen; omega
            case hby => omega
            case hbase => simp; omega
            case hrest =>
              intro v' w2 hown2 hgrow2 _
              obtain ⟨g', cap', rfl⟩ := ownsRow_succ hown2
              have hb2 : Below w.heap.size w w2 := ((hbw.alloc hsz _).alloc (by simp; omega) _).grown hgrow2 (by simp; omega) (fun k' hk' => (HO1.out.lt k' hk').1)
              have HO2 : Hid (Holds w2 w.heap.size (.slice (some ⟨g', 0, none⟩) (0 + 1) cap') ([] ++ [(10, false, 1, (k : Int), (k : Int) + n)])) := by
                show Holds _ _ _ _
                unfold Holds
                rw [flatRA_snoc, List.length_append]
                exact hown2
              clear hown2 hgrow2
              go_wp2
              refine ⟨⟨k + n, _, some ⟨g', 0, none⟩, cap', by omega, by go_num, RS2.out, ?_, ?_, hb2⟩, by simp [intOf]; omega⟩
              · rw [List.length_append]; rfl
              · rw [List.length_append]; exact HO2.out
          · rw [List.concat_eq_append] at hL
            subst hL
            have hML : (M ++ [a]).length = M.length + 1 := by simp
            obtain ⟨g, capg, hg⟩ := ownsRow_succ (by have := HO.out; unfold Holds at this; rw [hML] at this; exact this)
            rw [← hML] at hg
            injection hg with hg1 hg2 hg3
            subst hg1
            have cellL := fun j (hj : j < 5) => (HO.out.cellAt (M.length * 5 + j) (by rw [hML]; omega)).trans (flatRA_last M a j hj)
            have cE := cellL 2 (by decide)
            have cT := cellL 4 (by decide)
            have fE := HO.out.frozenAt (M.length * 5 + 2)
            have fT := HO.out.frozenAt (M.length * 5 + 4)
            have hglt := (HO.out.lt g rfl)
            clear cellL hg2 hg3
            simp only [cellsRA, List.getElem?_cons_succ, List.getElem?_cons_zero] at cE cT
            by_cases hE : a.2.2.1 = 3
            · have RS2 := hide2 (HR.out.crlf HD.out hE)
              rw [hE] at cE
              clear hwh
              go_wp2_with fail
              refine (rread_any s k enc _ hs h0 h3 hlt).mono ?_
              rintro e w1 ⟨rfl, hb1⟩
              rw [HV.out]
              have HO1 := hide2 (HO.out.below hb1)
              have hbw := hbx.trans (hb1.mono hbx.size)
              have hsz := hbw.size
              have cE1 := (hb1.cell (p := ⟨g, M.length * 5 + 2, none⟩) hglt.2).trans cE
              have cT1 := (hb1.cell (p := ⟨g, M.length * 5 + 4, none⟩) hglt.2).trans cT
              have fE1 := (hb1.frozen (p := ⟨g, M.length * 5 + 2, none⟩) hglt.2).trans fE
              have fT1 := (hb1.frozen (p := ⟨g, M.length * 5 + 4, none⟩) hglt.2).trans fT
              have hg1 : g < w1.heap.size := by have := hb1.size; omega
              clear hb1
              simp only [List.length_append, List.length_cons, List.length_nil]
              go_wp2
              have hst := HO1.out.last2 2 ((k : Int) + n)
              refine ⟨⟨k + n, _, some ⟨g, 0, none⟩, cap, by omega, by go_num, RS2.out, by simp, ?_, ?_⟩, by simp [intOf]; omega⟩
              · have h2 := hst.alloc (.cells #[.int .i64 10, .bool false, .int .i64 0, .int .i64 k, .int .i64 ((k : Int) + n)] 101)
                simpa using h2
              · exact ((hbw.setCell (p := ⟨g, M.length * 5 + 2, none⟩) hglt.1 _).setCell (p := ⟨g, M.length * 5 + 4, none⟩) hglt.1 _).alloc (by simp [World.setCell]; omega) _
            · have RS2 := hide2 (HR.out.lf HD.out (fun M2 a2 h => by
                have h1 := List.append_inj_right' h (by simp)
                simp at h1; rw [← h1]; exact hE))
              have hE' : (a.2.2.1 == 3) = false := by simpa using hE
              clear hwh hE
              go_wp2_with fail
              refine (rread_any s k enc _ hs h0 h3 hlt).mono ?_
              rintro e w1 ⟨rfl, hb1⟩
              rw [HV.out]
              have HO1 := hide2 (HO.out.below hb1)
              have hbw := hbx.trans (hb1.mono hbx.size)
              have hsz := hbw.size
              have cE1 := (hb1.cell (p := ⟨g, M.length * 5 + 2, none⟩) hglt.2).trans cE
              have hg1 : g < w1.heap.size := by have := hb1.size; omega
              clear hb1
              simp only [List.length_append, List.length_cons, List.length_nil]
              go_wp2_with (at_builtin; refine wpList_append_own _ rfl _ _ 97 rfl w.heap.size 101 i0 _ 5 40 Tryd.underlying97 hi hz0 hz1 hz2 rfl (by decide) _ (M.length + 1) (flatRA (M ++ [a])) rfl ?hown ⟨w1.heap.size + 1, 0, none⟩ 1 1 [.int .i64 10, .bool false, .int .i64 1, .int .i64 k, .int .i64 ((k : Int) + n)] rfl rfl ?hnews ?h1 ?h63 ?hby ?hbase ?hrest)
              case hown =>
                have := (HO1.out.alloc (.cells #[.int .i64 10, .bool false, .int .i64 1, .int .i64 k, .int .i64 ((k : Int) + n)] 101)).alloc (.cells #[.int .i64 10, .bool false, .int .i64 1, .int .i64 k, .int .i64 ((k : Int) + n)] 101)
                unfold Holds at this; rw [hML] at this; exact this
              case hnews => exact five_new _ _ _ _ _ _ _ _
              case h1 => simp [Value.oneCell']
              case h63 => unfold maxLen; omega
              case hby => omega
              case hbase => simp; omega
              case hrest =>
                intro v' w2 hown2 hgrow2 _
                obtain ⟨g', cap', rfl⟩ := ownsRow_succ hown2
                have hb2 : Below w.heap.size w w2 := ((hbw.alloc hsz _).alloc (by simp; omega) _).grown hgrow2 (by simp; omega) (fun k' hk' => (HO1.out.lt k' hk').1)
                have HO2 : Hid (Holds w2 w.heap.size (.slice (some ⟨g', 0, none⟩) (M.length + 1 + 1) cap') ((M ++ [a]) ++ [(10, false, 1, (k : Int), (k : Int) + n)])) := by
                  show Holds _ _ _ _
                  unfold Holds
                  rw [flatRA_snoc, List.length_append, hML]
                  exact hown2
                clear hown2 hgrow2
                go_wp2
                refine ⟨⟨k + n, _, some ⟨g', 0, none⟩, cap', by omega, by go_num, RS2.out, ?_, ?_, hb2⟩, by simp [intOf]; omega⟩
                · rw [List.length_append, hML]; rfl
                · rw [List.length_append, hML]; exact HO2.out
        · have h10' : (c == 10) = false := by simpa using h10
          by_cases h13 : c = 13
          · subst h13
            obtain rfl : e = false := by cases e <;> simp_all
            have RS2 := hide2 (HR.out.cr HD.out)
            clear h10 hwh
            go_wp2_with fail
            refine (rread_any s k enc _ hs h0 h3 hlt).mono ?_
            rintro e w1 ⟨rfl, hb1⟩
            rw [HV.out]
            have HO1 := hide2 (HO.out.below hb1)
            have hbw := hbx.trans (hb1.mono hbx.size)
            have hsz := hbw.size
            clear hb1
            go_wp2_with (at_builtin; refine wpList_append_own _ rfl _ _ 97 rfl w.heap.size 101 i0 _ 5 40 Tryd.underlying97 hi hz0 hz1 hz2 rfl (by decide) _ L.length (flatRA L) rfl ?hown ⟨w1.heap.size + 1, 0, none⟩ 1 1 [.int .i64 10, .bool false, .int .i64 3, .int .i64 k, .int .i64 ((k : Int) + n)] rfl rfl ?hnews ?h1 ?h63 ?hby ?hbase ?hrest)
            case hown => exact (HO1.out.alloc _).alloc _
            case hnews => exact five_new _ _ _ _ _ _ _ _
            case h1 => simp [Value.oneCell']
            case h63 => unfold maxLen; omega
            case hby => omega
            case hbase => simp; omega
            case hrest =>
              intro v' w2 hown2 hgrow2 _
              obtain ⟨g', cap', rfl⟩ := ownsRow_succ hown2
              have hb2 : Below w.heap.size w w2 := ((hbw.alloc hsz _).alloc (by simp; omega) _).grown hgrow2 (by simp; omega) (fun k' hk' => (HO1.out.lt k' hk').1)
              have HO2 : Hid (Holds w2 w.heap.size (.slice (some ⟨g', 0, none⟩) (L.length + 1) cap') (L ++ [(10, false, 3, (k : Int), (k : Int) + n)])) := by
                show Holds _ _ _ _
                unfold Holds
                rw [flatRA_snoc, List.length_append]
                exact hown2
              clear hown2 hgrow2
              go_wp2
              refine ⟨⟨k + n, _, some ⟨g', 0, none⟩, cap', by omega, by go_num, RS2.out, ?_, ?_, hb2⟩, by simp [intOf]; omega⟩
              · rw [List.length_append]; rfl
              · rw [List.length_append]; exact HO2.out
          · have h13' : (c == 13) = false := by simpa using h13
            have RS2 := hide2 (HR.out.other HD.out h10 h13)
            clear h10 h13 hwh
            go_wp2_with fail
            refine (rread_any s k enc _ hs h0 h3 hlt).mono ?_
            rintro e w1 ⟨rfl, hb1⟩
            rw [HV.out]
            have HO1 := hide2 (HO.out.below hb1)
            have hbw := hbx.trans (hb1.mono hbx.size)
            have hsz := hbw.size
            clear hb1
            go_wp2_with (at_builtin; refine wpList_append_own _ rfl _ _ 97 rfl w.heap.size 101 i0 _ 5 40 Tryd.underlying97 hi hz0 hz1 hz2 rfl (by decide) _ L.length (flatRA L) rfl ?hown ⟨w1.heap.size + 1, 0, none⟩ 1 1 [.int .i64 c, .bool e, .int .i64 0, .int .i64 k, .int .i64 ((k : Int) + n)] rfl rfl ?hnews ?h1 ?h63 ?hby ?hbase ?hrest)
            case hown => exact (HO1.out.alloc _).alloc _
            case hnews => exact five_new _ _ _ _ _ _ _ _
            case h1 => simp [Value.oneCell']
            case h63 => unfold maxLen; omega
            case hby => omega
            case hbase => simp; omega
            case hrest =>
              intro v' w2 hown2 hgrow2 _
              obtain ⟨g', cap', rfl⟩ := ownsRow_succ hown2
              have hb2 : Below w.heap.size w w2 := ((hbw.alloc hsz _).alloc (by simp; omega) _).grown hgrow2 (by simp; omega) (fun k' hk' => (HO1.out.lt k' hk').1)
              have HO2 : Hid (Holds w2 w.heap.size (.slice (some ⟨g', 0, none⟩) (L.length + 1) cap') (L ++ [(c, e, 0, (k : Int), (k : Int) + n)])) := by
                show Holds _ _ _ _
                unfold Holds
                rw [flatRA_snoc, List.length_append]
                exact hown2
              clear hown2 hgrow2
              go_wp2
              refine ⟨⟨k + n, _, some ⟨g', 0, none⟩, cap', by omega, by go_num, RS2.out, ?_, ?_, hb2⟩, by simp [intOf]; omega⟩
              · rw [List.length_append]; rfl
              · rw [List.length_append]; exact HO2.out
    · have hx := HR.out.done (Vm.any_none enc s k (by omega))
      have HX := hide2 hx
      clear hx
      go_wp2
      go_ret
      exact ⟨_, L, rfl, HX.out, by have := HR.out.len; omega, HO.out, hbx⟩
end Go.Proofs.YtjbfgnhkgjigpaaDoor
