import Derived.Test.YtoejbngihecafaaDoorApiS
import Derived.Test.YtoejbngihecafaaDoorInts
import Derived.Test.YtoejbngihecafaaDoorKeep2
import Derived.Test.YtoejbngihecafaaDoorQb
namespace Go.Proofs.YtoejbngihecafaaDoor
open Go.RowKit

variable {T : World → Prop} {D : World → Nat → Int → Bool → ByteArray → Prop} {L : World → World → Nat → Int → List UInt8 → Prop} {S : World → Nat → List UInt8 → Nat → Prop}

set_option maxRecDepth 100000 in
set_option maxHeartbeats 2000000 in
theorem faithful_any (api : ApiS T D L S) (b : ByteArray) (c : Int) (vc vf : Value) (cuts fills : List Int) (w : World) (ht : T w) (hb : b.size ≤ 1073741824) (h1 : -9223372036854775808 ≤ c) (h2 : c ≤ 9223372036854775807)
    (hvc : IntsAt w vc cuts) (hvf : IntsAt w vf fills) (hcl : cuts.length ≤ 1073741824) (hfl : fills.length ≤ 1073741824) (hcr : ∀ i, -9223372036854775808 ≤ cuts.getD i 0 ∧ cuts.getD i 0 ≤ 9223372036854775807) (hfr : ∀ i, -9223372036854775808 ≤ fills.getD i 0 ∧ fills.getD i 0 ≤ 9223372036854775807) :
    Calls Tryd.prog 5 #[.string b, .int .i64 c, vc, vf] w fun e w' => e = .returned (.bool true) ∧ Below w.heap.size w w' := by
  have hp := Vm.pick_bd c 8 (by decide)
  have O := hide2 (opened_any api.base b c w ht (by omega) h1 h2)
  have K := hide2 (fun W => kpick_any c 8 W h1 h2 (by decide) (by decide))
  obtain ⟨pc, cc, rfl⟩ := hvc.val
  obtain ⟨pf, cf, rfl⟩ := hvf.val
  generalize Vm.pick c 8 = m at *
  have BG := hide2 (fun W (h : T W) => api.begin_ m W h hp.1 (by omega))
  go_enter Tryd.func5, Tryd.ntmps5
  go_wp2_with fail
  refine O.out.mono ?_
  rintro e w0 ⟨p, rfl, hd, hb1⟩
  have ht1 := api.base.tab ht hb1
  go_wp2_with (go_at_call 13; refine (K.out _).mono ?_; rintro e w' ⟨rfl, rfl⟩)
  rename World => w1
  refine (BG.out _ ht1).mono ?_
  rintro e w2 ⟨q, rfl, hL2⟩
  have hd2 := api.base.low hd (api.lbelow hL2)
  go_wp2_with fail
  have HVC := hide2 hvc
  have HVF := hide2 hvf
  have HB1 := hide2 hb1
  have HT1 := hide2 ht1
  have HL2 := hide2 hL2
  have HD2 := hide2 hd2
  clear hvc hvf hb1 ht1 hL2 hd2 hd O K BG
  have hbl : b.data.toList.length = b.size := rfl
  go_loopg [13, 14] cuts.length (fun k s13 s14 wx => ∃ (j : Nat) (r : ByteArray) (done : List UInt8), k = cuts.length - j ∧ j ≤ cuts.length ∧ s13 = .string r ∧ s14 = .int .i64 j ∧ done ++ r.data.toList = b.data.toList ∧ L w1 wx q m done ∧ D wx p (encOf b m) (ofMark b (encOf b m)) (ofBody b (encOf b m)))
  case atStart => exact ⟨0, b, [], (by omega), Nat.zero_le _, rfl, rfl, rfl, HL2.out, HD2.out⟩
  case round =>
    clear HL2 HD2
    obtain ⟨j, r, done, rfl, hj, rfl, rfl, hdr, hL, hD⟩ := hrel
    have HL := hide2 hL
    have HD := hide2 hD
    have hlr := congrArg List.length hdr
    have hrl : r.data.toList.length = r.size := rfl
    rw [List.length_append] at hlr
    have HBX := hide2 (HB1.out.trans ((api.lbelow hL).mono HB1.out.size))
    clear hL hD
    by_cases hlt : j < cuts.length
    · have hjI : (j : Int) < (cuts.length : Int) := by omega
      obtain ⟨a, rfl, hca⟩ := (HVC.out.low HBX.out).at_ j hlt
      have hz := cell_lt hca
      have hzr := hcr j
      generalize cuts.getD j 0 = z at *
      have hpk := Vm.pick_bd z 7 (by decide)
      have K := hide2 (fun W => kpick_any z 7 W hzr.1 hzr.2 (by decide) (by decide))
      generalize Vm.pick z 7 = u at *
      obtain ⟨n, rfl⟩ : ∃ n : Nat, u = n := ⟨u.toNat, by omega⟩
      by_cases hgt : r.size < n
      · have hgI : (r.size : Int) < (n : Int) := by omega
        go_wp2_with (go_at_call 13; refine (K.out _).mono ?_; rintro e w' ⟨rfl, rfl⟩)
        refine (api.push w1 _ q m done r HT1.out HL.out hp.1 (by omega) (by omega)).mono ?_
        rintro e w3 ⟨rfl, hL3, hk3, _⟩
        have hD3 := hk3 _ _ _ _ HD.out
        clear hk3
        go_wp2_with fail
        go_roundg (cuts.length - (j + 1))
        case measure => omega
        case rel =>
          refine ⟨j + 1, _, done ++ r.data.toList, rfl, by omega, rfl, rfl, ?_, hL3, hD3⟩
          show (done ++ r.data.toList) ++ [] = _
          rw [List.append_nil, hdr]
      · have hgI : ¬ (r.size : Int) < (n : Int) := by omega
        go_wp2_with (go_at_call 13; refine (K.out _).mono ?_; rintro e w' ⟨rfl, rfl⟩)
        have hxl : (r.extract 0 n).size ≤ r.size := by
          have e1 : (r.extract 0 n).data.toList.length = (r.extract 0 n).size := rfl
          rw [← e1, ext_take, List.length_take]; omega
        refine (api.push w1 _ q m done (r.extract 0 n) HT1.out HL.out hp.1 (by omega) (by omega)).mono ?_
        rintro e w3 ⟨rfl, hL3, hk3, _⟩
        have hD3 := hk3 _ _ _ _ HD.out
        clear hk3
        rw [ext_take] at hL3
        go_wp2_with fail
        go_roundg (cuts.length - (j + 1))
        case measure => omega
        case rel =>
          refine ⟨j + 1, _, done ++ r.data.toList.take n, rfl, by omega, rfl, rfl, ?_, hL3, hD3⟩
          rw [ext_drop, List.append_assoc, List.take_append_drop, hdr]
    · have hjI : ¬ (j : Int) < (cuts.length : Int) := by omega
      obtain rfl : j = cuts.length := by omega
      go_wp2_with fail
      refine (api.push w1 _ q m done r HT1.out HL.out hp.1 (by omega) (by omega)).mono ?_
      rintro e w3 ⟨rfl, hL3, hk3, _⟩
      have hD3 := hk3 _ _ _ _ HD.out
      rw [hdr] at hL3
      clear hk3 HL HD HBX HVC
      go_wp2_with fail
      refine (api.end_ w1 w3 q m b HT1.out hL3 hp.1 (by omega) (by omega)).mono ?_
      rintro e w4 ⟨p4, rfl, hd4, hb4⟩
      have hD4 := api.base.low hD3 hb4
      have hB4 := HB1.out.trans (((api.lbelow hL3).trans (hb4.mono (api.lbelow hL3).size)).mono HB1.out.size)
      clear hL3 hD3
      go_wp2_with fail
      refine (api.saver p4 _ _ _ w4 hd4).mono ?_
      rintro e w5 ⟨s, rfl, hs5, hS5, hb5⟩
      rw [bytesOf_of] at hS5
      have hD5 := api.base.low hD4 hb5
      have hd5 := api.base.low hd4 hb5
      have hB5 := hB4.trans (hb5.mono hB4.size)
      have hws : w.heap.size ≤ s := Nat.le_trans hB4.size hs5
      have ht5 := api.base.tab ht hB5
      have HS5 := hide2 hS5
      have HD5 := hide2 hD5
      have Hd5 := hide2 hd5
      have HB5 := hide2 hB5
      have HT5 := hide2 ht5
      clear hD4 hd4 hB4 hb4 hb5 hS5 hD5 hd5 hB5 ht5 hs5
      go_wp2_with fail
      go_loopg [18, 19] fills.length (fun k s18 s19 wx => ∃ (j g : Nat) (o : ByteArray), k = fills.length - j ∧ j ≤ fills.length ∧ s18 = .string o ∧ s19 = .int .i64 j ∧ o.data.toList = b.data.toList.take g ∧ g ≤ b.size ∧ S wx s b.data.toList g ∧ T wx ∧ D wx p (encOf b m) (ofMark b (encOf b m)) (ofBody b (encOf b m)) ∧ D wx p4 (encOf b m) (ofMark b (encOf b m)) (ofBody b (encOf b m)) ∧ Below w.heap.size w wx)
      case atStart => exact ⟨0, 0, ⟨#[]⟩, (by omega), Nat.zero_le _, rfl, rfl, rfl, Nat.zero_le _, HS5.out, HT5.out, HD5.out, Hd5.out, HB5.out⟩
      case round =>
        clear HS5 HT5 HD5 Hd5 HB5
        obtain ⟨j, g, o, rfl, hj, rfl, rfl, ho, hg, hS, hT, hD, hd, hB⟩ := hrel
        have HO := hide2 ho
        have HS := hide2 hS
        have HT := hide2 hT
        have HD := hide2 hD
        have Hd := hide2 hd
        have HB := hide2 hB
        clear ho hS hT hD hd hB
        by_cases hlt : j < fills.length
        · have hjI : (j : Int) < (fills.length : Int) := by omega
          obtain ⟨a, rfl, hca⟩ := (HVF.out.low HB.out).at_ j hlt
          have hz := cell_lt hca
          have hzr := hfr j
          generalize fills.getD j 0 = z at *
          have hpk := Vm.pick_bd z 5 (by decide)
          have K := hide2 (fun W => kpick_any z 5 W hzr.1 hzr.2 (by decide) (by decide))
          generalize Vm.pick z 5 = u at *
          obtain ⟨n, rfl⟩ : ∃ n : Nat, u = n := ⟨u.toNat, by omega⟩
          have F := api.fill s b.data.toList g (1 + (n : Int)) wr HT.out HS.out
          rw [show (1 + (n : Int)).toNat = 1 + n by omega, hbl] at F
          obtain ⟨tt, htt⟩ : ∃ tt : ByteArray, tt = ⟨((b.data.toList.drop g).take (1 + n)).toArray⟩ := ⟨_, rfl⟩
          rw [← htt] at F
          have htl : tt.data.toList = (b.data.toList.drop g).take (1 + n) := by rw [htt]
          have hts : tt.size = min (1 + n) (b.size - g) := by
            have e1 : tt.data.toList.length = tt.size := rfl
            rw [← e1, htl, List.length_take, List.length_drop, hbl]
          have hcat : (o ++ tt).data.toList = b.data.toList.take (g + min (1 + n) (b.size - g)) := by
            rw [ByteArray.data_append, Array.toList_append, HO.out, htl]
            by_cases hc : 1 + n ≤ b.size - g
            · rw [Nat.min_eq_left hc, ← List.take_add]
            · rw [List.take_of_length_le (l := b.data.toList.drop g) (by rw [List.length_drop]; omega), List.take_append_drop, List.take_of_length_le (by omega)]
          have hos : o.size ≤ b.size := by
            have e1 : o.data.toList.length = o.size := rfl
            rw [← e1, HO.out, List.length_take]; omega
          have hcz : ¬ 9223372036854775807 < o.size + tt.size := by omega
          have HF := hide2 F
          have HCAT := hide2 hcat
          clear F hcat htt htl
          by_cases hfit : 1 + n ≤ b.size - g
          · have hts2 : (tt.size : Int) = 1 + (n : Int) := by omega
            clear hts
            go_wp2_with (first | (go_at_call 13; refine (K.out _).mono ?_; rintro e w' ⟨rfl, rfl⟩) | (go_at_call 17; refine HF.out.mono ?_; rintro e w6 ⟨rfl, hS6, hT6, hk6, hlow6⟩))
            go_roundg (fills.length - (j + 1))
            case measure => omega
            case rel =>
              exact ⟨j + 1, g + min (1 + n) (b.size - g), o ++ tt, rfl, by omega, rfl, rfl, HCAT.out, by omega, hS6, hT6, hk6 _ _ _ _ HD.out, hk6 _ _ _ _ Hd.out, hlow6 w hws HB.out⟩
          · have hts2 : ¬ (tt.size : Int) = 1 + (n : Int) := by omega
            have hcb : o ++ tt = b := by
              refine ba_ext2 ?_
              rw [HCAT.out]
              exact List.take_of_length_le (by omega)
            clear hts
            go_wp2_with (first | (go_at_call 13; refine (K.out _).mono ?_; rintro e w' ⟨rfl, rfl⟩) | (go_at_call 17; refine HF.out.mono ?_; rintro e w6 ⟨rfl, hS6, hT6, hk6, hlow6⟩))
            go_roundg (fills.length - (j + 1))
            case measure => omega
            case rel =>
              have hcat := HCAT.out
              rw [hcb] at hcat
              exact ⟨j + 1, g + min (1 + n) (b.size - g), b, rfl, by omega, rfl, rfl, hcat, by omega, hS6, hT6, hk6 _ _ _ _ HD.out, hk6 _ _ _ _ Hd.out, hlow6 w hws HB.out⟩
        · have hjI : ¬ (j : Int) < (fills.length : Int) := by omega
          obtain rfl : j = fills.length := by omega
          have F := api.fill s b.data.toList g 1099511627776 wr HT.out HS.out
          rw [show (1099511627776 : Int).toNat = 1099511627776 by decide] at F
          obtain ⟨tt, htt⟩ : ∃ tt : ByteArray, tt = ⟨((b.data.toList.drop g).take 1099511627776).toArray⟩ := ⟨_, rfl⟩
          rw [← htt] at F
          have htl : tt.data.toList = b.data.toList.drop g := by rw [htt]; exact List.take_of_length_le (by rw [List.length_drop]; omega)
          have hcb : o ++ tt = b := by
            refine ba_ext2 ?_
            rw [ByteArray.data_append, Array.toList_append, HO.out, htl, List.take_append_drop]
          have hcz : ¬ 9223372036854775807 < o.size + tt.size := by
            have e1 : o.data.toList.length = o.size := rfl
            have e2 : tt.data.toList.length = tt.size := rfl
            rw [← e1, ← e2, HO.out, htl, List.length_take, List.length_drop]; omega
          have HF := hide2 F
          clear F htt htl
          go_wp2_with (go_at_call 17; refine HF.out.mono ?_; rintro e w6 ⟨rfl, hS6, hT6, hk6, hlow6⟩)
          have hD6 := hk6 _ _ _ _ HD.out
          have hd6 := hk6 _ _ _ _ Hd.out
          have hB6 := hlow6 w hws HB.out
          clear hS6 hk6 hlow6 HF HS HT HD Hd HB
          refine (api.base.save p _ _ _ w6 hT6 hD6).mono ?_
          rintro e w7 ⟨rfl, hb7⟩
          rw [bytesOf_of]
          have hT7 := api.base.tab hT6 hb7
          have hD7 := api.base.low hD6 hb7
          have hd7 := api.base.low hd6 hb7
          have hB7 := hB6.trans (hb7.mono hB6.size)
          clear hT6 hD6 hd6 hB6
          go_wp2_with fail
          refine (same_any api.base p4 p _ _ _ w7 hT7 hd7 hD7).mono ?_
          rintro e w8 ⟨rfl, hb8⟩
          have hB8 := hB7.trans (hb8.mono hB7.size)
          clear hT7 hD7 hd7 hB7
          go_wp2
          go_ret
          exact ⟨rfl, hB8⟩
end Go.Proofs.YtoejbngihecafaaDoor
