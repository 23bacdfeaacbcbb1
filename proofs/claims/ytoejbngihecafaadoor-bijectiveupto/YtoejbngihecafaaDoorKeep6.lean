import Derived.Test.YtoejbngihecafaaDoorKeep5
namespace Vm
open Go.Proofs.YtoejbngihecafaaDoor
/-- The line and the column of the place ahead of the k-th. -/
def prevL (A : List At) (k : Nat) : Int := if k = 0 then 0 else linesA (A.take (k - 1))
def prevC (A : List At) (k : Nat) : Int := if k = 0 then -1 else colA (A.take (k - 1))
theorem prev_step (A : List At) (k : Nat) (hk : k ≤ A.length) : ((linesA (A.take k) : Int) = prevL A k ∧ prevC A k < colA (A.take k)) ∨ ((linesA (A.take k) : Int) = prevL A k + 1 ∧ (colA (A.take k) : Int) = 0) := by
  cases k with
  | zero => exact .inl ⟨by simp [linesA, prevL], by simp [colA, prevC]⟩
  | succ k =>
    obtain ⟨x, hx, _⟩ := get_some (A := A) (k := k) (by omega)
    have e1 : prevL A (k + 1) = linesA (A.take k) := by simp [prevL]
    have e2 : prevC A (k + 1) = colA (A.take k) := by simp [prevC]
    rw [linesA_take hx, colA_take hx, e1, e2]
    have hu := unA_pos x
    by_cases he : x.1 ≤ 2
    · rw [if_pos he, if_pos he]; exact .inr ⟨by omega, by omega⟩
    · rw [if_neg he, if_neg he]; exact .inl ⟨by omega, by omega⟩
theorem prevL_succ (A : List At) (k : Nat) : prevL A (k + 1) = linesA (A.take k) := by simp [prevL]
theorem prevC_succ (A : List At) (k : Nat) : prevC A (k + 1) = colA (A.take k) := by simp [prevC]
end Vm
namespace Go.Proofs.YtoejbngihecafaaDoor
open Go.RowKit
variable {T : World → Prop} {D : World → Nat → Int → Bool → ByteArray → Prop}

set_option maxRecDepth 100000 in
set_option maxHeartbeats 2000000 in
theorem bijective_any (api : ApiL T D) (b : ByteArray) (c : Int) (w : World) (ht : T w) (hb : b.size ≤ 1073741824) (h1 : -9223372036854775808 ≤ c) (h2 : c ≤ 9223372036854775807) :
    Calls Tryd.prog 6 #[.string b, .int .i64 c] w fun e w' => e = .returned (.bool true) ∧ Below w.heap.size w w' := by
  have O := hide2 (opened_any api.toApi b c w ht (by omega) h1 h2)
  have hbs := ofBody_size b (encOf b (Vm.pick c 8))
  generalize encOf b (Vm.pick c 8) = enc at *
  generalize ofMark b enc = mark at *
  generalize ofBody b enc = body at *
  have hok := Vm.atoms_ok enc body.data.toList
  have hbl : body.data.toList.length = body.size := rfl
  have hal : (Vm.atoms enc body.data.toList).length ≤ 1073741824 := Nat.le_trans (Vm.atoms_len enc body.data.toList) (by omega)
  have A3 := hide2 (fun p w => api.state p enc mark body w)
  have AO := hide2 (fun p w h k => offsets_any api p enc mark body w h k hal)
  have AP := hide2 (fun p o w => api.position p enc mark body o w)
  have AF := hide2 (fun p l c w => api.offset p enc mark body l c w)
  unfold shown at A3
  obtain ⟨tl, htl⟩ : ∃ tl, tl = decide (Vm.sizeA (Vm.atoms enc body.data.toList) < body.size) := ⟨_, rfl⟩
  rw [← htl] at A3
  clear htl
  generalize Vm.atoms enc body.data.toList = A at *
  generalize Vm.endingOf (Vm.cntK A 0) (Vm.cntK A 1) (Vm.cntK A 2) = en at *
  go_enter Tryd.func6, Tryd.ntmps6
  go_wp2_with fail
  refine O.out.mono ?_
  rintro e w1 ⟨p, rfl, hd, hb1⟩
  have ht1 := api.tab ht hb1
  go_wp2_with fail
  refine (A3.out p w1 ht1 hd).mono ?_
  rintro e w2 ⟨rfl, hb2⟩
  have ht2 := api.tab ht1 hb2
  have hd2 := api.low hd hb2
  have hb02 := hb1.trans (hb2.mono hb1.size)
  have hba := (Below.refl w2.heap.size w2).alloc (Nat.le_refl _) (.cells #[.int .i64 enc, .bool mark, .int .i64 (Vm.bytesA A), .int .i64 A.length, .int .i64 (Vm.unitsA A), .int .i64 ((Vm.linesA A : Int) + 1), .int .i64 (Vm.cntK A 4), .bool tl, .int .i64 en] 50)
  have ht3 := api.tab ht2 hba
  have hd3 := api.low hd2 hba
  go_wp2_with fail
  have BX := hide2 (Bx9.new w2 50 (.int .i64 enc) (.bool mark) (.int .i64 (Vm.bytesA A)) (.int .i64 A.length) (.int .i64 (Vm.unitsA A)) (.int .i64 ((Vm.linesA A : Int) + 1)) (.int .i64 (Vm.cntK A 4)) (.bool tl) (.int .i64 en))
  have hb03 := hb02.trans (hba.mono hb02.size)
  refine (AO.out p _ ht3 hd3).mono ?_
  rintro e w4 ⟨g, cap, rfl, hown, hb4⟩
  have BX4 := hide2 (BX.out.below hb4)
  have HT4 := hide2 (api.tab ht3 hb4)
  have HD4 := hide2 (api.low hd3 hb4)
  have HB4 := hide2 (hb03.trans (hb4.mono hb03.size))
  have HO := hide2 hown
  have HOK := hide2 hok
  clear BX hown hb4 ht3 hd3 hba hb03 hb02 ht2 hd2 hb1 hb2 ht1 hd ht O A3 AO hok
  generalize hZ : w2.heap.size = Z at *
  clear hZ
  have c2 := BX4.out.c2
  have c3 := BX4.out.c3
  have hz4 := block_lt c2
  have hneb : (((A.length : Int) + 1) == ((A.length : Int) + 1)) = true := by simp
  go_wp2_with fail
  go_loopw [9, 10, 11] (fun line col i wx => ∃ k : Nat, k ≤ A.length + 1 ∧ line = .int .i64 (Vm.prevL A k) ∧ col = .int .i64 (Vm.prevC A k) ∧ i = .int .i64 k ∧ Below w4.heap.size w4 wx) (fun _ _ i _ => A.length + 1 - (intOf i).toNat)
  case atStart => exact ⟨0, Nat.zero_le _, rfl, rfl, rfl, Below.refl _ _⟩
  case round =>
    obtain ⟨k, hk, rfl, rfl, rfl, hbx⟩ := hrel
    have HTX := hide2 (fun w5 (hb : Below wr.heap.size wr w5) => api.tab (api.tab HT4.out hbx) hb)
    have HDX := hide2 (fun w5 (hb : Below wr.heap.size wr w5) => api.low (api.low HD4.out hbx) hb)
    by_cases hlt : k < A.length + 1
    · have hltI : (k : Int) < (A.length : Int) + 1 := by omega
      have hltI2 : (k : Int) < ((A.length + 1 : Nat) : Int) := by omega
      have qk := (HO.out.below hbx).cellAt k _ (Vm.offL_at A _ k hlt)
      have hzg := block_lt qk
      have hst := Vm.prev_step A k (by omega)
      have hV := Vm.posV_at (A := A) (k := k) (by omega)
      have hU := Vm.offV_pos HOK.out (k := k) (by omega)
      have P1 := hide2 (AP.out p (Vm.bytesA (A.take k)))
      have P2 := hide2 (AF.out p (Vm.linesA (A.take k)) (Vm.colA (A.take k)))
      rw [hV] at P1
      rw [hU] at P2
      simp only at P1 P2
      have hbk := Vm.bytesA_le (A.take k)
      have hlk := Vm.linesA_le (A.take k)
      have hck : Vm.colA (A.take k) ≤ Vm.unitsA (A.take k) := by
        have := Vm.units_col HOK.out k (by omega)
        omega
      have huk := Vm.unitsA_le (A.take k)
      have mt : (A.take k).length ≤ k := by simp; omega
      have hs1 := hide2 (Vm.prevL_succ A k)
      have hs2 := hide2 (Vm.prevC_succ A k)
      generalize Vm.linesA (A.take k) = n1 at *
      generalize Vm.colA (A.take k) = c1 at *
      generalize Vm.bytesA (A.take k) = b1 at *
      generalize Vm.prevL A k = pl at *
      generalize Vm.prevC A k = pc at *
      clear hV hU
      rcases hst with ⟨hn, hc⟩ | ⟨hn, hc⟩
      · have g1 : ¬ (n1 : Int) < pl := by omega
        have g2 : ¬ pl + 1 < (n1 : Int) := by omega
        have g3 : ((n1 : Int) == pl) = true := by simpa using hn
        have g4 : ¬ (c1 : Int) ≤ pc := by omega
        have g5 : ¬ pl < (n1 : Int) := by omega
        have g6 : ((b1 : Int) == (b1 : Int)) = true := by simp
        have hwl : IntKind.i64.wrap (pl + 1) = pl + 1 := by rw [IntKind.wrap_i64]; omega
        clear hn
        go_wp2_with fail
        refine (P1.out _ (HTX.out _ (Below.refl _ _)) (HDX.out _ (Below.refl _ _))).mono ?_
        rintro e w5 ⟨rfl, hb5⟩
        have d5 := (hb5.cell (p := ⟨g, k, none⟩) hzg).trans qk
        have z5 := block_lt d5
        clear P1
        go_wp2_with fail
        refine (P2.out _ (HTX.out _ hb5) (HDX.out _ hb5)).mono ?_
        rintro e w6 ⟨rfl, hb6⟩
        have hb56 := hb5.trans (hb6.mono hb5.size)
        have d6 := (hb56.cell (p := ⟨g, k, none⟩) hzg).trans qk
        have z6 := block_lt d6
        have hbx6 := hbx.trans (hb56.mono hbx.size)
        clear P2 d5 hb5 hb6
        go_wp2_with fail
        refine ⟨⟨k + 1, by omega, by rw [hs1.out], by rw [hs2.out], by go_num, hbx6⟩, by simp [intOf]; omega⟩
      · have g1 : ¬ (n1 : Int) < pl := by omega
        have g2 : ¬ pl + 1 < (n1 : Int) := by omega
        have g3 : ((n1 : Int) == pl) = false := by simp; omega
        have g4 : ((c1 : Int) == 0) = true := by simpa using hc
        have g7 : ((c1 : Int) != 0) = false := by simp [hc]
        have g5 : pl < (n1 : Int) := by omega
        have g6 : ((b1 : Int) == (b1 : Int)) = true := by simp
        have hwl : IntKind.i64.wrap (pl + 1) = pl + 1 := by rw [IntKind.wrap_i64]; omega
        clear hn hc
        go_wp2_with fail
        refine (P1.out _ (HTX.out _ (Below.refl _ _)) (HDX.out _ (Below.refl _ _))).mono ?_
        rintro e w5 ⟨rfl, hb5⟩
        have d5 := (hb5.cell (p := ⟨g, k, none⟩) hzg).trans qk
        have z5 := block_lt d5
        clear P1
        go_wp2_with fail
        refine (P2.out _ (HTX.out _ hb5) (HDX.out _ hb5)).mono ?_
        rintro e w6 ⟨rfl, hb6⟩
        have hb56 := hb5.trans (hb6.mono hb5.size)
        have d6 := (hb56.cell (p := ⟨g, k, none⟩) hzg).trans qk
        have z6 := block_lt d6
        have hbx6 := hbx.trans (hb56.mono hbx.size)
        clear P2 d5 hb5 hb6
        go_wp2_with fail
        refine ⟨⟨k + 1, by omega, by rw [hs1.out], by rw [hs2.out], by go_num, hbx6⟩, by simp [intOf]; omega⟩
    · obtain rfl : k = A.length + 1 := by omega
      have hL : Vm.prevL A (A.length + 1) = Vm.linesA A := by rw [Vm.prevL_succ, List.take_length]
      have P1 := hide2 (AP.out p ((Vm.bytesA A : Int) + 1))
      rw [Vm.posV_out (.inr (by omega))] at P1
      have P2 := hide2 (AF.out p ((Vm.linesA A : Int) + 1) 0)
      rw [show Vm.offV A ((Vm.linesA A : Int) + 1) 0 = (0, 10) by unfold Vm.offV; rw [if_pos (.inr (by omega))]] at P2
      simp only at P1 P2
      have hbk := Vm.bytesA_le A
      have hlk := Vm.linesA_le A
      have BXR := hide2 (BX4.out.below hbx)
      have e2 := BXR.out.c2
      have ez := block_lt e2
      rw [hL]
      clear hL c2 c3 BX4
      generalize Vm.linesA A = N at *
      generalize Vm.bytesA A = bs at *
      have hw1 : IntKind.i64.wrap ((bs : Int) + 1) = (bs : Int) + 1 := by rw [IntKind.wrap_i64]; omega
      have hw2 : IntKind.i64.wrap ((N : Int) + 1) = (N : Int) + 1 := by rw [IntKind.wrap_i64]; omega
      go_wp2_with fail
      refine (P1.out _ (HTX.out _ (Below.refl _ _)) (HDX.out _ (Below.refl _ _))).mono ?_
      rintro e w5 ⟨rfl, hb5⟩
      clear P1 e2
      go_wp2_with fail
      refine (P2.out _ (HTX.out _ hb5) (HDX.out _ hb5)).mono ?_
      rintro e w6 ⟨rfl, hb6⟩
      have hb56 := hb5.trans (hb6.mono hb5.size)
      have BX6 := hide2 (BXR.out.below hb56)
      have e5 := BX6.out.c5
      have ez6 := block_lt e5
      have HBF := hide2 (HB4.out.trans ((hbx.trans (hb56.mono hbx.size)).mono HB4.out.size))
      clear P2 hb5 hb6
      have hneq : ((N : Int) == (N : Int)) = true := by simp
      go_wp2_with fail
      go_ret
      exact ⟨rfl, HBF.out⟩
end Go.Proofs.YtoejbngihecafaaDoor
