import Derived.Test.YtjbfgnhkgjigpaaGreatDoorGa0
import Derived.Test.YtjbfgnhkgjigpaaGreatDoorGa1
namespace Vm
def rk (c : Int) : Nat := if c < 128 then 1 else if c < 192 then 0 else if c < 224 then 2 else if c < 240 then 3 else if c < 248 then 4 else 0
def rn0 (c : Int) : Int := if c < 128 then c else if c < 224 then c - 192 else if c < 240 then c - 224 else c - 240
def contB (l : Bytes) (j : Nat) : Bool := decide (j < l.length) && (decide (128 ≤ b0 l j) && decide (b0 l j < 192))
def rok (l : Bytes) : Nat → Bool
  | 0 => true
  | n + 1 => rok l n && contB l (n + 1)
def rpart (l : Bytes) : Nat → Int
  | 0 => 0
  | 1 => rn0 (b0 l 0)
  | k + 2 => 64 * rpart l (k + 1) + b0 l (k + 1) - 128
/-- What the reference reads at the head: the character, and its size; 0: none. -/
def utfRef (l : Bytes) : Int × Nat :=
  if rk (b0 l 0) = 0 then (0, 0)
  else if rok l (rk (b0 l 0) - 1) = false then (0, 0)
  else if validB (rpart l (rk (b0 l 0))) = false then (0, 0)
  else if utfLen (rpart l (rk (b0 l 0))) = rk (b0 l 0) then (rpart l (rk (b0 l 0)), rk (b0 l 0)) else (0, 0)
theorem rpart_succ (l : Bytes) (j : Nat) (h : 1 ≤ j) : rpart l (j + 1) = 64 * rpart l j + b0 l j - 128 := by
  obtain ⟨i, rfl⟩ : ∃ i, j = i + 1 := ⟨j - 1, by omega⟩
  rfl
theorem rok_succ {l : Bytes} {j : Nat} (h1 : 1 ≤ j) (h : rok l (j - 1) = true) (h2 : contB l j = true) : rok l j = true := by
  obtain ⟨i, rfl⟩ : ∃ i, j = i + 1 := ⟨j - 1, by omega⟩
  simp only [Nat.add_sub_cancel] at h
  simp [rok, h, h2]
theorem rok_false {l : Bytes} {n k : Nat} (hk : 1 ≤ k) (hn : k ≤ n) (h : contB l k = false) : rok l n = false := by
  induction n with
  | zero => omega
  | succ n ih =>
    by_cases e : k = n + 1
    · subst e; simp [rok, h]
    · simp [rok, ih (by omega)]
theorem rok_at {l : Bytes} {n k : Nat} (hk : 1 ≤ k) (hn : k ≤ n) (h : rok l n = true) : contB l k = true := by
  cases hc : contB l k
  · rw [rok_false hk hn hc] at h; cases h
  · rfl
theorem contB_bd {l : Bytes} {j : Nat} (h : contB l j = true) : j < l.length ∧ 128 ≤ b0 l j ∧ b0 l j ≤ 191 := by
  simp only [contB, Bool.and_eq_true, decide_eq_true_eq] at h
  omega
theorem rpart_bd {l : Bytes} {k : Nat} (hk : k ≤ 4) (h1 : 1 ≤ k) (hc : rk (b0 l 0) ≠ 0) (h : rok l (k - 1) = true) : 0 ≤ rpart l k ∧ rpart l k ≤ 33554431 := by
  have hb := b0_bd l 0
  have e1 : 0 ≤ rpart l 1 ∧ rpart l 1 ≤ 127 := by
    show 0 ≤ rn0 (b0 l 0) ∧ rn0 (b0 l 0) ≤ 127
    unfold rk at hc
    unfold rn0
    (repeat' split at hc) <;> (repeat' split) <;> omega
  have : k = 1 ∨ k = 2 ∨ k = 3 ∨ k = 4 := by omega
  have s2 : rpart l 2 = 64 * rpart l 1 + b0 l 1 - 128 := rfl
  have s3 : rpart l 3 = 64 * rpart l 2 + b0 l 2 - 128 := rfl
  have s4 : rpart l 4 = 64 * rpart l 3 + b0 l 3 - 128 := rfl
  rcases this with rfl | rfl | rfl | rfl
  · omega
  · have a := contB_bd (rok_at (k := 1) (by omega) (by omega) h); omega
  · have a := contB_bd (rok_at (k := 1) (by omega) (by omega) h)
    have b := contB_bd (rok_at (k := 2) (by omega) (by omega) h); omega
  · have a := contB_bd (rok_at (k := 1) (by omega) (by omega) h)
    have b := contB_bd (rok_at (k := 2) (by omega) (by omega) h)
    have c := contB_bd (rok_at (k := 3) (by omega) (by omega) h); omega
theorem contB_in {b : ByteArray} {k j : Nat} : contB (b.data.toList.drop k) j = (decide (((k + j : Nat) : Int) < (b.size : Int)) && (decide (128 ≤ b0 b.data.toList (k + j)) && decide (b0 b.data.toList (k + j) < 192))) := by
  have e := len_drop b k
  unfold contB
  rw [b0_drop, e]
  have : decide (j < b.size - k) = decide (((k + j : Nat) : Int) < (b.size : Int)) := by
    by_cases h : k + j < b.size
    · simp [show j < b.size - k by omega]; omega
    · simp [show ¬ j < b.size - k by omega]; omega
  rw [this]
end Vm

namespace Go.Proofs.YtjbfgnhkgjigpaaGreatDoor
open Go.RowKit
theorem hide2 {p : Prop} (h : p) : Hid p := h
theorem ret_ints {k : IntKind} {a b c d : Int} (h : a = b) (h' : c = d) : Ending.returned (.tuple #[.int k a, .int k c]) = .returned (.tuple #[.int k b, .int k d]) := by rw [h, h']

theorem str_len (n : Int) : (strOfNums (Vm.utfL n)).size = Vm.utfLen n := by
  rw [← Vm.utfL_length]; simp [strOfNums, ByteArray.size]

set_option maxRecDepth 100000 in
set_option maxHeartbeats 4000000 in
theorem rutfAt_any (s : ByteArray) (i : Nat) (w : World) (hs : s.size ≤ 1099511627776) (hi : i < s.size) :
    Calls Tryz.prog 155 #[.string s, .int .i64 i] w fun e w' => e = .returned (.tuple #[.int .i64 (Vm.utfRef (s.data.toList.drop i)).1, .int .i64 (Vm.utfRef (s.data.toList.drop i)).2]) ∧ Below w.heap.size w w' := by
  have hb0 : Vm.b0 (s.data.toList.drop i) 0 = (s[i].toNat : Int) := by rw [Vm.b0_drop, Nat.add_zero, Vm.b0_byte s i hi]
  have hc := s[i].toNat_lt
  have hI : (i : Int) < (s.size : Int) := by omega
  by_cases c0 : (s[i].toNat : Int) < 128
  · have hk : Vm.rk (s[i].toNat : Int) = 1 := by unfold Vm.rk; rw [if_pos c0]
    have hp : Vm.rpart (s.data.toList.drop i) 1 = (s[i].toNat : Int) := by show Vm.rn0 _ = _; rw [hb0]; unfold Vm.rn0; rw [if_pos c0]
    have hu0 : Vm.utfRef (s.data.toList.drop i) = if Vm.validB (s[i].toNat : Int) = false then (0, 0) else if Vm.utfLen (s[i].toNat : Int) = 1 then ((s[i].toNat : Int), 1) else (0, 0) := by
      unfold Vm.utfRef; rw [hb0, hk]; simp only [hp]; rw [if_neg (by decide), if_neg (by simp [Vm.rok])]
    have HU := hide2 hu0
    have Hb := hide2 hb0
    clear hu0 hb0 hk hp
    go_enter Tryz.func155, Tryz.ntmps155
    go_wp2
    refine wp_loop_rounds 1 ?_
    rw [rounds_succ]
    go_wp2_with fail
    cases hv : Vm.validB ((s[i].toNat : Int))
    · have hu : Vm.utfRef (s.data.toList.drop i) = (0, 0) := by rw [HU.out, if_pos hv]
      have Hu := hide2 hu
      clear hu
      refine (rvalid_any _ _).mono ?_
      rintro e w1 ⟨rfl, rfl⟩
      rw [hv]
      go_wp2
      go_ret2
      exact ⟨by rw [Hu.out]; rfl, by first | exact Below.refl _ _ | assumption⟩
    · have hn : 0 ≤ (s[i].toNat : Int) ∧ (s[i].toNat : Int) ≤ 1114111 := by simp [Vm.validB] at hv; omega
      obtain ⟨hn0, hn1⟩ := hn
      have hlen := str_len ((s[i].toNat : Int))
      refine (rvalid_any _ _).mono ?_
      rintro e w1 ⟨rfl, rfl⟩
      rw [hv]
      go_wp2_with fail
      refine (rutf_any _ _ hn0 (by omega)).mono ?_
      rintro e w2 ⟨rfl, hb2⟩
      by_cases hk : Vm.utfLen ((s[i].toNat : Int)) = 1
      · have hu : Vm.utfRef (s.data.toList.drop i) = ((s[i].toNat : Int), 1) := by rw [HU.out, if_neg (by rw [hv]; decide), if_pos hk]
        have Hu := hide2 hu
        clear hu
        rw [hk] at hlen
        have hl2 : (((strOfNums (Vm.utfL ((s[i].toNat : Int)))).size : Nat) : Int) = 1 := by rw [hlen]; rfl
        have hl3 : ((((strOfNums (Vm.utfL ((s[i].toNat : Int)))).size : Nat) : Int) != 1) = false := by rw [hl2]; rfl
        have Hk := hide2 hk
        have Hv := hide2 hv
        clear hk hlen hl2 hv
        go_wp2
        go_ret2
        exact ⟨by rw [Hu.out]; rfl, by first | exact hb2 | exact Below.trans (by assumption) (hb2.mono (Below.size (by assumption)))⟩
      · have hu : Vm.utfRef (s.data.toList.drop i) = (0, 0) := by rw [HU.out, if_neg (by rw [hv]; decide), if_neg hk]
        have Hu := hide2 hu
        clear hu
        have hl3 : ((((strOfNums (Vm.utfL ((s[i].toNat : Int)))).size : Nat) : Int) != 1) = true := by rw [bne_iff_ne, hlen]; omega
        have Hk := hide2 hk
        have Hv := hide2 hv
        clear hk hlen hv
        go_wp2
        go_ret2
        exact ⟨by rw [Hu.out]; rfl, by first | exact hb2 | exact Below.trans (by assumption) (hb2.mono (Below.size (by assumption)))⟩
  · by_cases c1 : (s[i].toNat : Int) < 192
    · have hu : Vm.utfRef (s.data.toList.drop i) = (0, 0) := by
        unfold Vm.utfRef; rw [hb0, if_pos (by unfold Vm.rk; rw [if_neg c0, if_pos c1])]
      rw [hu]
      clear hu hb0
      go_enter Tryz.func155, Tryz.ntmps155
      go_wp2
      go_ret2
      exact ⟨rfl, Below.refl _ _⟩
    · by_cases c2 : (s[i].toNat : Int) < 224
      · have hk : Vm.rk (s[i].toNat : Int) = 2 := by unfold Vm.rk; rw [if_neg c0, if_neg c1, if_pos c2]
        have hp1 : Vm.rpart (s.data.toList.drop i) 1 = (s[i].toNat : Int) - 192 := by show Vm.rn0 _ = _; rw [hb0]; unfold Vm.rn0; rw [if_neg c0, if_pos c2]
        have hkn : Vm.rk (Vm.b0 (s.data.toList.drop i) 0) ≠ 0 := by rw [hb0, hk]; decide
        have hu0 : Vm.utfRef (s.data.toList.drop i) = if Vm.rok (s.data.toList.drop i) (2 - 1) = false then (0, 0) else if Vm.validB (Vm.rpart (s.data.toList.drop i) 2) = false then (0, 0) else if Vm.utfLen (Vm.rpart (s.data.toList.drop i) 2) = 2 then (Vm.rpart (s.data.toList.drop i) 2, 2) else (0, 0) := by
          unfold Vm.utfRef; rw [hb0, hk, if_neg (by decide)]
        have HU0 := hide2 hu0
        have HP1 := hide2 hp1
        have HK := hide2 hk
        have Hb := hide2 hb0
        have HKN := hide2 hkn
        clear hu0 hp1 hk hb0 hkn
        go_enter Tryz.func155, Tryz.ntmps155
        go_wp2
        go_loopw [7, 9] (fun n j wx => ∃ q : Nat, 1 ≤ q ∧ q ≤ 2 ∧ j = .int .i64 q ∧ n = .int .i64 (Vm.rpart (s.data.toList.drop i) q) ∧ Vm.rok (s.data.toList.drop i) (q - 1) = true ∧ Below w.heap.size w wx) (fun _ j _ => 2 - (intOf j).toNat)
        case atStart => exact ⟨1, Nat.le_refl _, by omega, rfl, by rw [HP1.out], rfl, Below.refl _ _⟩
        case round =>
          obtain ⟨q, hq1, hq2, rfl, rfl, hok, hbx⟩ := hrel
          have hpv := Vm.rpart_bd (l := s.data.toList.drop i) (k := q) (by omega) hq1 HKN.out hok
          have Hok := hide2 hok
          clear hok
          by_cases hlt : q < 2
          · have hltI : (q : Int) < 2 := by omega
            have hqi : ((i : Int) + (q : Int)).toNat = i + q := by omega
            have hcb := Vm.contB_in (b := s) (k := i) (j := q)
            rw [Int.natCast_add] at hcb
            cases hcv : Vm.contB (s.data.toList.drop i) q
            · rw [hcv] at hcb
              have Hcb := hide2 hcb
              clear hcb
              go_wp2_with fail
              refine (rcont_any s _ _ (by omega)).mono ?_
              rintro e w1 ⟨rfl, rfl⟩
              rw [hqi, ← Hcb.out]
              go_wp2
              go_ret2
              exact ⟨by rw [HU0.out, if_pos (Vm.rok_false hq1 (by omega) hcv)]; rfl, hbx⟩
            · rw [hcv] at hcb
              have Hcb := hide2 hcb
              obtain ⟨hc1, hc2, hc3⟩ := Vm.contB_bd hcv
              rw [Vm.len_drop] at hc1
              have hin : i + q < s.size := by omega
              have hinI : (i : Int) + (q : Int) < (s.size : Int) := by omega
              rw [Vm.b0_drop, Vm.b0_byte s (i + q) hin] at hc2 hc3
              have Hcv := hide2 hcv
              clear hcb hcv
              go_wp2_with fail
              refine (rcont_any s _ _ (by omega)).mono ?_
              rintro e w1 ⟨rfl, rfl⟩
              rw [hqi, ← Hcb.out]
              go_wp2
              refine ⟨⟨q + 1, by omega, by omega, by go_num, ?_, ?_, hbx⟩, by simp [intOf]; omega⟩
              · rw [Vm.rpart_succ _ _ hq1, Vm.b0_drop, Vm.b0_byte s (i + q) hin]
              · simp only [Nat.add_sub_cancel]; exact Vm.rok_succ hq1 Hok.out Hcv.out
          · obtain rfl : q = 2 := by omega
            have HU : Hid (Vm.utfRef (s.data.toList.drop i) = if Vm.validB (Vm.rpart (s.data.toList.drop i) 2) = false then (0, 0) else if Vm.utfLen (Vm.rpart (s.data.toList.drop i) 2) = 2 then (Vm.rpart (s.data.toList.drop i) 2, 2) else (0, 0)) := by
              show _ = _
              rw [HU0.out, if_neg]
              rw [Hok.out]; decide
            go_wp2_with fail
            cases hv : Vm.validB (Vm.rpart (s.data.toList.drop i) 2)
            · have hu : Vm.utfRef (s.data.toList.drop i) = (0, 0) := by rw [HU.out, if_pos hv]
              have Hu := hide2 hu
              clear hu
              refine (rvalid_any _ _).mono ?_
              rintro e w1 ⟨rfl, rfl⟩
              rw [hv]
              go_wp2
              go_ret2
              exact ⟨by rw [Hu.out]; rfl, by first | exact Below.refl _ _ | assumption⟩
            · have hn : 0 ≤ Vm.rpart (s.data.toList.drop i) 2 ∧ Vm.rpart (s.data.toList.drop i) 2 ≤ 1114111 := by simp [Vm.validB] at hv; omega
              obtain ⟨hn0, hn1⟩ := hn
              have hlen := str_len (Vm.rpart (s.data.toList.drop i) 2)
              refine (rvalid_any _ _).mono ?_
              rintro e w1 ⟨rfl, rfl⟩
              rw [hv]
              go_wp2_with fail
              refine (rutf_any _ _ hn0 (by omega)).mono ?_
              rintro e w2 ⟨rfl, hb2⟩
              by_cases hk : Vm.utfLen (Vm.rpart (s.data.toList.drop i) 2) = 2
              · have hu : Vm.utfRef (s.data.toList.drop i) = (Vm.rpart (s.data.toList.drop i) 2, 2) := by rw [HU.out, if_neg (by rw [hv]; decide), if_pos hk]
                have Hu := hide2 hu
                clear hu
                rw [hk] at hlen
                have hl2 : (((strOfNums (Vm.utfL (Vm.rpart (s.data.toList.drop i) 2))).size : Nat) : Int) = 2 := by rw [hlen]; rfl
                have hl3 : ((((strOfNums (Vm.utfL (Vm.rpart (s.data.toList.drop i) 2))).size : Nat) : Int) != 2) = false := by rw [hl2]; rfl
                have Hk := hide2 hk
                have Hv := hide2 hv
                clear hk hlen hl2 hv
                go_wp2
                go_ret2
                exact ⟨by rw [Hu.out]; rfl, by first | exact hb2 | exact Below.trans (by assumption) (hb2.mono (Below.size (by assumption)))⟩
              · have hu : Vm.utfRef (s.data.toList.drop i) = (0, 0) := by rw [HU.out, if_neg (by rw [hv]; decide), if_neg hk]
                have Hu := hide2 hu
                clear hu
                have hl3 : ((((strOfNums (Vm.utfL (Vm.rpart (s.data.toList.drop i) 2))).size : Nat) : Int) != 2) = true := by rw [bne_iff_ne, hlen]; omega
                have Hk := hide2 hk
                have Hv := hide2 hv
                clear hk hlen hv
                go_wp2
                go_ret2
                exact ⟨by rw [Hu.out]; rfl, by first | exact hb2 | exact Below.trans (by assumption) (hb2.mono (Below.size (by assumption)))⟩
      · by_cases c3 : (s[i].toNat : Int) < 240
        · have hk : Vm.rk (s[i].toNat : Int) = 3 := by unfold Vm.rk; rw [if_neg c0, if_neg c1, if_neg c2, if_pos c3]
          have hp1 : Vm.rpart (s.data.toList.drop i) 1 = (s[i].toNat : Int) - 224 := by show Vm.rn0 _ = _; rw [hb0]; unfold Vm.rn0; rw [if_neg c0, if_neg c2, if_pos c3]
          have hkn : Vm.rk (Vm.b0 (s.data.toList.drop i) 0) ≠ 0 := by rw [hb0, hk]; decide
          have hu0 : Vm.utfRef (s.data.toList.drop i) = if Vm.rok (s.data.toList.drop i) (3 - 1) = false then (0, 0) else if Vm.validB (Vm.rpart (s.data.toList.drop i) 3) = false then (0, 0) else if Vm.utfLen (Vm.rpart (s.data.toList.drop i) 3) = 3 then (Vm.rpart (s.data.toList.drop i) 3, 3) else (0, 0) := by
            unfold Vm.utfRef; rw [hb0, hk, if_neg (by decide)]
          have HU0 := hide2 hu0
          have HP1 := hide2 hp1
          have HK := hide2 hk
          have Hb := hide2 hb0
          have HKN := hide2 hkn
          clear hu0 hp1 hk hb0 hkn
          go_enter Tryz.func155, Tryz.ntmps155
          go_wp2
          go_loopw [7, 9] (fun n j wx => ∃ q : Nat, 1 ≤ q ∧ q ≤ 3 ∧ j = .int .i64 q ∧ n = .int .i64 (Vm.rpart (s.data.toList.drop i) q) ∧ Vm.rok (s.data.toList.drop i) (q - 1) = true ∧ Below w.heap.size w wx) (fun _ j _ => 3 - (intOf j).toNat)
          case atStart => exact ⟨1, Nat.le_refl _, by omega, rfl, by rw [HP1.out], rfl, Below.refl _ _⟩
          case round =>
            obtain ⟨q, hq1, hq2, rfl, rfl, hok, hbx⟩ := hrel
            have hpv := Vm.rpart_bd (l := s.data.toList.drop i) (k := q) (by omega) hq1 HKN.out hok
            have Hok := hide2 hok
            clear hok
            by_cases hlt : q < 3
            · have hltI : (q : Int) < 3 := by omega
              have hqi : ((i : Int) + (q : Int)).toNat = i + q := by omega
              have hcb := Vm.contB_in (b := s) (k := i) (j := q)
              rw [Int.natCast_add] at hcb
              cases hcv : Vm.contB (s.data.toList.drop i) q
              · rw [hcv] at hcb
                have Hcb := hide2 hcb
                clear hcb
                go_wp2_with fail
                refine (rcont_any s _ _ (by omega)).mono ?_
                rintro e w1 ⟨rfl, rfl⟩
                rw [hqi, ← Hcb.out]
                go_wp2
                go_ret2
                exact ⟨by rw [HU0.out, if_pos (Vm.rok_false hq1 (by omega) hcv)]; rfl, hbx⟩
              · rw [hcv] at hcb
                have Hcb := hide2 hcb
                obtain ⟨hc1, hc2, hc3⟩ := Vm.contB_bd hcv
                rw [Vm.len_drop] at hc1
                have hin : i + q < s.size := by omega
                have hinI : (i : Int) + (q : Int) < (s.size : Int) := by omega
                rw [Vm.b0_drop, Vm.b0_byte s (i + q) hin] at hc2 hc3
                have Hcv := hide2 hcv
                clear hcb hcv
                go_wp2_with fail
                refine (rcont_any s _ _ (by omega)).mono ?_
                rintro e w1 ⟨rfl, rfl⟩
                rw [hqi, ← Hcb.out]
                go_wp2
                refine ⟨⟨q + 1, by omega, by omega, by go_num, ?_, ?_, hbx⟩, by simp [intOf]; omega⟩
                · rw [Vm.rpart_succ _ _ hq1, Vm.b0_drop, Vm.b0_byte s (i + q) hin]
                · simp only [Nat.add_sub_cancel]; exact Vm.rok_succ hq1 Hok.out Hcv.out
            · obtain rfl : q = 3 := by omega
              have HU : Hid (Vm.utfRef (s.data.toList.drop i) = if Vm.validB (Vm.rpart (s.data.toList.drop i) 3) = false then (0, 0) else if Vm.utfLen (Vm.rpart (s.data.toList.drop i) 3) = 3 then (Vm.rpart (s.data.toList.drop i) 3, 3) else (0, 0)) := by
                show _ = _
                rw [HU0.out, if_neg]
                rw [Hok.out]; decide
              go_wp2_with fail
              cases hv : Vm.validB (Vm.rpart (s.data.toList.drop i) 3)
              · have hu : Vm.utfRef (s.data.toList.drop i) = (0, 0) := by rw [HU.out, if_pos hv]
                have Hu := hide2 hu
                clear hu
                refine (rvalid_any _ _).mono ?_
                rintro e w1 ⟨rfl, rfl⟩
                rw [hv]
                go_wp2
                go_ret2
                exact ⟨by rw [Hu.out]; rfl, by first | exact Below.refl _ _ | assumption⟩
              · have hn : 0 ≤ Vm.rpart (s.data.toList.drop i) 3 ∧ Vm.rpart (s.data.toList.drop i) 3 ≤ 1114111 := by simp [Vm.validB] at hv; omega
                obtain ⟨hn0, hn1⟩ := hn
                have hlen := str_len (Vm.rpart (s.data.toList.drop i) 3)
                refine (rvalid_any _ _).mono ?_
                rintro e w1 ⟨rfl, rfl⟩
                rw [hv]
                go_wp2_with fail
                refine (rutf_any _ _ hn0 (by omega)).mono ?_
                rintro e w2 ⟨rfl, hb2⟩
                by_cases hk : Vm.utfLen (Vm.rpart (s.data.toList.drop i) 3) = 3
                · have hu : Vm.utfRef (s.data.toList.drop i) = (Vm.rpart (s.data.toList.drop i) 3, 3) := by rw [HU.out, if_neg (by rw [hv]; decide), if_pos hk]
                  have Hu := hide2 hu
                  clear hu
                  rw [hk] at hlen
                  have hl2 : (((strOfNums (Vm.utfL (Vm.rpart (s.data.toList.drop i) 3))).size : Nat) : Int) = 3 := by rw [hlen]; rfl
                  have hl3 : ((((strOfNums (Vm.utfL (Vm.rpart (s.data.toList.drop i) 3))).size : Nat) : Int) != 3) = false := by rw [hl2]; rfl
                  have Hk := hide2 hk
                  have Hv := hide2 hv
                  clear hk hlen hl2 hv
                  go_wp2
                  go_ret2
                  exact ⟨by rw [Hu.out]; rfl, by first | exact hb2 | exact Below.trans (by assumption) (hb2.mono (Below.size (by assumption)))⟩
                · have hu : Vm.utfRef (s.data.toList.drop i) = (0, 0) := by rw [HU.out, if_neg (by rw [hv]; decide), if_neg hk]
                  have Hu := hide2 hu
                  clear hu
                  have hl3 : ((((strOfNums (Vm.utfL (Vm.rpart (s.data.toList.drop i) 3))).size : Nat) : Int) != 3) = true := by rw [bne_iff_ne, hlen]; omega
                  have Hk := hide2 hk
                  have Hv := hide2 hv
                  clear hk hlen hv
                  go_wp2
                  go_ret2
                  exact ⟨by rw [Hu.out]; rfl, by first | exact hb2 | exact Below.trans (by assumption) (hb2.mono (Below.size (by assumption)))⟩
        · by_cases c4 : (s[i].toNat : Int) < 248
          · have hk : Vm.rk (s[i].toNat : Int) = 4 := by unfold Vm.rk; rw [if_neg c0, if_neg c1, if_neg c2, if_neg c3, if_pos c4]
            have hp1 : Vm.rpart (s.data.toList.drop i) 1 = (s[i].toNat : Int) - 240 := by show Vm.rn0 _ = _; rw [hb0]; unfold Vm.rn0; rw [if_neg c0, if_neg c2, if_neg c3]
            have hkn : Vm.rk (Vm.b0 (s.data.toList.drop i) 0) ≠ 0 := by rw [hb0, hk]; decide
            have hu0 : Vm.utfRef (s.data.toList.drop i) = if Vm.rok (s.data.toList.drop i) (4 - 1) = false then (0, 0) else if Vm.validB (Vm.rpart (s.data.toList.drop i) 4) = false then (0, 0) else if Vm.utfLen (Vm.rpart (s.data.toList.drop i) 4) = 4 then (Vm.rpart (s.data.toList.drop i) 4, 4) else (0, 0) := by
              unfold Vm.utfRef; rw [hb0, hk, if_neg (by decide)]
            have HU0 := hide2 hu0
            have HP1 := hide2 hp1
            have HK := hide2 hk
            have Hb := hide2 hb0
            have HKN := hide2 hkn
            clear hu0 hp1 hk hb0 hkn
            go_enter Tryz.func155, Tryz.ntmps155
            go_wp2
            go_loopw [7, 9] (fun n j wx => ∃ q : Nat, 1 ≤ q ∧ q ≤ 4 ∧ j = .int .i64 q ∧ n = .int .i64 (Vm.rpart (s.data.toList.drop i) q) ∧ Vm.rok (s.data.toList.drop i) (q - 1) = true ∧ Below w.heap.size w wx) (fun _ j _ => 4 - (intOf j).toNat)
            case atStart => exact ⟨1, Nat.le_refl _, by omega, rfl, by rw [HP1.out], rfl, Below.refl _ _⟩
            case round =>
              obtain ⟨q, hq1, hq2, rfl, rfl, hok, hbx⟩ := hrel
              have hpv := Vm.rpart_bd (l := s.data.toList.drop i) (k := q) (by omega) hq1 HKN.out hok
              have Hok := hide2 hok
              clear hok
              by_cases hlt : q < 4
              · have hltI : (q : Int) < 4 := by omega
                have hqi : ((i : Int) + (q : Int)).toNat = i + q := by omega
                have hcb := Vm.contB_in (b := s) (k := i) (j := q)
                rw [Int.natCast_add] at hcb
                cases hcv : Vm.contB (s.data.toList.drop i) q
                · rw [hcv] at hcb
                  have Hcb := hide2 hcb
                  clear hcb
                  go_wp2_with fail
                  refine (rcont_any s _ _ (by omega)).mono ?_
                  rintro e w1 ⟨rfl, rfl⟩
                  rw [hqi, ← Hcb.out]
                  go_wp2
                  go_ret2
                  exact ⟨by rw [HU0.out, if_pos (Vm.rok_false hq1 (by omega) hcv)]; rfl, hbx⟩
                · rw [hcv] at hcb
                  have Hcb := hide2 hcb
                  obtain ⟨hc1, hc2, hc3⟩ := Vm.contB_bd hcv
                  rw [Vm.len_drop] at hc1
                  have hin : i + q < s.size := by omega
                  have hinI : (i : Int) + (q : Int) < (s.size : Int) := by omega
                  rw [Vm.b0_drop, Vm.b0_byte s (i + q) hin] at hc2 hc3
                  have Hcv := hide2 hcv
                  clear hcb hcv
                  go_wp2_with fail
                  refine (rcont_any s _ _ (by omega)).mono ?_
                  rintro e w1 ⟨rfl, rfl⟩
                  rw [hqi, ← Hcb.out]
                  go_wp2
                  refine ⟨⟨q + 1, by omega, by omega, by go_num, ?_, ?_, hbx⟩, by simp [intOf]; omega⟩
                  · rw [Vm.rpart_succ _ _ hq1, Vm.b0_drop, Vm.b0_byte s (i + q) hin]
                  · simp only [Nat.add_sub_cancel]; exact Vm.rok_succ hq1 Hok.out Hcv.out
              · obtain rfl : q = 4 := by omega
                have HU : Hid (Vm.utfRef (s.data.toList.drop i) = if Vm.validB (Vm.rpart (s.data.toList.drop i) 4) = false then (0, 0) else if Vm.utfLen (Vm.rpart (s.data.toList.drop i) 4) = 4 then (Vm.rpart (s.data.toList.drop i) 4, 4) else (0, 0)) := by
                  show _ = _
                  rw [HU0.out, if_neg]
                  rw [Hok.out]; decide
                go_wp2_with fail
                cases hv : Vm.validB (Vm.rpart (s.data.toList.drop i) 4)
                · have hu : Vm.utfRef (s.data.toList.drop i) = (0, 0) := by rw [HU.out, if_pos hv]
                  have Hu := hide2 hu
                  clear hu
                  refine (rvalid_any _ _).mono ?_
                  rintro e w1 ⟨rfl, rfl⟩
                  rw [hv]
                  go_wp2
                  go_ret2
                  exact ⟨by rw [Hu.out]; rfl, by first | exact Below.refl _ _ | assumption⟩
                · have hn : 0 ≤ Vm.rpart (s.data.toList.drop i) 4 ∧ Vm.rpart (s.data.toList.drop i) 4 ≤ 1114111 := by simp [Vm.validB] at hv; omega
                  obtain ⟨hn0, hn1⟩ := hn
                  have hlen := str_len (Vm.rpart (s.data.toList.drop i) 4)
                  refine (rvalid_any _ _).mono ?_
                  rintro e w1 ⟨rfl, rfl⟩
                  rw [hv]
                  go_wp2_with fail
                  refine (rutf_any _ _ hn0 (by omega)).mono ?_
                  rintro e w2 ⟨rfl, hb2⟩
                  by_cases hk : Vm.utfLen (Vm.rpart (s.data.toList.drop i) 4) = 4
                  · have hu : Vm.utfRef (s.data.toList.drop i) = (Vm.rpart (s.data.toList.drop i) 4, 4) := by rw [HU.out, if_neg (by rw [hv]; decide), if_pos hk]
                    have Hu := hide2 hu
                    clear hu
                    rw [hk] at hlen
                    have hl2 : (((strOfNums (Vm.utfL (Vm.rpart (s.data.toList.drop i) 4))).size : Nat) : Int) = 4 := by rw [hlen]; rfl
                    have hl3 : ((((strOfNums (Vm.utfL (Vm.rpart (s.data.toList.drop i) 4))).size : Nat) : Int) != 4) = false := by rw [hl2]; rfl
                    have Hk := hide2 hk
                    have Hv := hide2 hv
                    clear hk hlen hl2 hv
                    go_wp2
                    go_ret2
                    exact ⟨by rw [Hu.out]; rfl, by first | exact hb2 | exact Below.trans (by assumption) (hb2.mono (Below.size (by assumption)))⟩
                  · have hu : Vm.utfRef (s.data.toList.drop i) = (0, 0) := by rw [HU.out, if_neg (by rw [hv]; decide), if_neg hk]
                    have Hu := hide2 hu
                    clear hu
                    have hl3 : ((((strOfNums (Vm.utfL (Vm.rpart (s.data.toList.drop i) 4))).size : Nat) : Int) != 4) = true := by rw [bne_iff_ne, hlen]; omega
                    have Hk := hide2 hk
                    have Hv := hide2 hv
                    clear hk hlen hv
                    go_wp2
                    go_ret2
                    exact ⟨by rw [Hu.out]; rfl, by first | exact hb2 | exact Below.trans (by assumption) (hb2.mono (Below.size (by assumption)))⟩
          · have hu : Vm.utfRef (s.data.toList.drop i) = (0, 0) := by
              unfold Vm.utfRef; rw [hb0, if_pos (by unfold Vm.rk; rw [if_neg c0, if_neg c1, if_neg c2, if_neg c3, if_neg c4])]
            rw [hu]
            clear hu hb0
            go_enter Tryz.func155, Tryz.ntmps155
            go_wp2
            go_ret2
            exact ⟨rfl, Below.refl _ _⟩
end Go.Proofs.YtjbfgnhkgjigpaaGreatDoor
