import Derived.Test.YtjbfgnhkgjigpaaGreatDoorGa8
import Derived.Test.YtjbfgnhkgjigpaaGreatDoorGc5
import Derived.Test.YtjbfgnhkgjigpaaGreatDoorGd1
namespace Go.Proofs.YtjbfgnhkgjigpaaGreatDoor
open Go.RowKit

theorem has_prefix (s p : ByteArray) (w : World) : Calls Tryz.prog 102 #[.string s, .string p] w fun e w' => e = .returned (.bool (Lib.hasPrefix s.data.toList p.data.toList)) ∧ w' = w :=
  Any.strings_HasPrefix lays99 s p w

set_option maxRecDepth 100000 in
set_option maxHeartbeats 400000 in
theorem mark_any (enc : Int) (w : World) (ht : TabEnc w) (h0 : 0 ≤ enc) (h3 : enc ≤ 3) :
    Calls Tryz.prog 89 #[.int .i64 enc] w fun e w' => e = .returned (.string (markB enc)) ∧ Below w.heap.size w w' := by
  have c0 := ht.m0
  have c1 := ht.m1
  have c2 := ht.m2
  have c3 := ht.m3
  generalize e0 : markB 0 = m0 at *
  generalize e1 : markB 1 = m1 at *
  generalize e2 : markB 2 = m2 at *
  generalize e3 : markB 3 = m3 at *
  have E0 := hide2 e0
  have E1 := hide2 e1
  have E2 := hide2 e2
  have E3 := hide2 e3
  clear e0 e1 e2 e3 ht
  have hcase : enc = 0 ∨ enc = 1 ∨ enc = 2 ∨ enc = 3 := by omega
  rcases hcase with rfl | rfl | rfl | rfl
  · go_enter Tryz.func89, Tryz.ntmps89
    go_wp2
    go_ret
    exact ⟨ret_str E0.out.symm, Below.refl _ _⟩
  · go_enter Tryz.func89, Tryz.ntmps89
    go_wp2
    go_ret
    exact ⟨ret_str E1.out.symm, Below.refl _ _⟩
  · go_enter Tryz.func89, Tryz.ntmps89
    go_wp2
    go_ret
    exact ⟨ret_str E2.out.symm, Below.refl _ _⟩
  · go_enter Tryz.func89, Tryz.ntmps89
    go_wp2
    go_ret
    exact ⟨ret_str E3.out.symm, Below.refl _ _⟩

theorem pre_first {l : List UInt8} {x : UInt8} {p : List UInt8} (h : (x :: p).isPrefixOf l = true) : l.head? = some x := by
  cases l with
  | nil => simp at h
  | cons y l => simp at h; simp [h.1]
/-- The first mark that fits is the last one that fits. -/
theorem sniff_first (b : ByteArray) (enc : Int) : sniffTo b enc 3 = if Lib.hasPrefix b.data.toList (markB 0).data.toList = true then 0 else if Lib.hasPrefix b.data.toList (markB 1).data.toList = true then 1 else if Lib.hasPrefix b.data.toList (markB 2).data.toList = true then 2 else enc := by
  have d : ∀ k : Nat, k ≤ 2 → ofMark b k = Lib.hasPrefix b.data.toList (markB k).data.toList := by
    intro k hk
    unfold ofMark Lib.hasPrefix
    have : decide ((markB (k : Int)).size ≠ 0) = true := by
      have : k = 0 ∨ k = 1 ∨ k = 2 := by omega
      rcases this with rfl | rfl | rfl <;> decide
    rw [this, Bool.true_and]
  have x0 := @pre_first b.data.toList 239 [187, 191]
  have x1 := @pre_first b.data.toList 255 [254]
  have x2 := @pre_first b.data.toList 254 [255]
  show (if ofMark b ((2 : Nat) : Int) then ((2 : Nat) : Int) else if ofMark b ((1 : Nat) : Int) then ((1 : Nat) : Int) else if ofMark b ((0 : Nat) : Int) then ((0 : Nat) : Int) else enc) = _
  rw [d 2 (by decide), d 1 (by decide), d 0 (by decide)]
  have y0 : Lib.hasPrefix b.data.toList (markB 0).data.toList = true → b.data.toList.head? = some 239 := x0
  have y1 : Lib.hasPrefix b.data.toList (markB 1).data.toList = true → b.data.toList.head? = some 255 := x1
  have y2 : Lib.hasPrefix b.data.toList (markB 2).data.toList = true → b.data.toList.head? = some 254 := x2
  show (if Lib.hasPrefix b.data.toList (markB 2).data.toList = true then (2 : Int) else if Lib.hasPrefix b.data.toList (markB 1).data.toList = true then (1 : Int) else if Lib.hasPrefix b.data.toList (markB 0).data.toList = true then (0 : Int) else enc) = _
  cases h0 : Lib.hasPrefix b.data.toList (markB 0).data.toList <;> cases h1 : Lib.hasPrefix b.data.toList (markB 1).data.toList <;> cases h2 : Lib.hasPrefix b.data.toList (markB 2).data.toList
  all_goals first
    | rfl
    | (exfalso; have a := y0 h0; have c := y1 h1; rw [a] at c; exact absurd c (by decide))
    | (exfalso; have a := y0 h0; have c := y2 h2; rw [a] at c; exact absurd c (by decide))
    | (exfalso; have a := y1 h1; have c := y2 h2; rw [a] at c; exact absurd c (by decide))
set_option maxRecDepth 100000 in
set_option maxHeartbeats 1000000 in
theorem sniffed_any (b : ByteArray) (enc : Int) (w : World) (ht : TabEnc w) :
    Calls Tryz.prog 96 #[.string b, .int .i64 enc] w fun e w' => e = .returned (.int .i64 (sniffTo b enc 3)) ∧ Below w.heap.size w w' := by
  obtain ⟨m0, r0, l0, g0, m1, r1, l1, g1, m2, r2, l2, g2, m3, r3, l3, g3⟩ := ht
  generalize e0 : markB 0 = M0 at *
  generalize e1 : markB 1 = M1 at *
  generalize e2 : markB 2 = M2 at *
  have e3 : markB 3 = ⟨#[]⟩ := rfl
  rw [e3] at m3
  have n0 : M0.toList.isEmpty = false := by rw [← e0]; kernel_rfl
  have o0 : ¬ M0.toList = [] := by intro h; rw [h] at n0; simp at n0
  have n1 : M1.toList.isEmpty = false := by rw [← e1]; kernel_rfl
  have o1 : ¬ M1.toList = [] := by intro h; rw [h] at n1; simp at n1
  have n2 : M2.toList.isEmpty = false := by rw [← e2]; kernel_rfl
  have o2 : ¬ M2.toList = [] := by intro h; rw [h] at n2; simp at n2
  have hs : sniffTo b enc 3 = if Lib.hasPrefix b.data.toList M0.data.toList = true then 0 else if Lib.hasPrefix b.data.toList M1.data.toList = true then 1 else if Lib.hasPrefix b.data.toList M2.data.toList = true then 2 else enc := by
    rw [← e0, ← e1, ← e2]; exact sniff_first b enc
  have HS := hide2 hs
  clear e0 e1 e2 e3 hs
  have i0 : ∀ w, (Instr.index 178 (.agg #[.string M0, .int .i32 1114111, .int .i64 0, .int .i64 0, .string M1, .int .i32 1114111, .int .i64 0, .int .i64 1, .string M2, .int .i32 1114111, .int .i64 1, .int .i64 0, .string ⟨#[]⟩, .int .i32 255, .int .i64 0, .int .i64 0]) (.int .i64 0)).run Tryz.prog w = .ok (.agg #[.string M0, .int .i32 1114111, .int .i64 0, .int .i64 0]) w := fun _ => by kernel_rfl
  have i1 : ∀ w, (Instr.index 178 (.agg #[.string M0, .int .i32 1114111, .int .i64 0, .int .i64 0, .string M1, .int .i32 1114111, .int .i64 0, .int .i64 1, .string M2, .int .i32 1114111, .int .i64 1, .int .i64 0, .string ⟨#[]⟩, .int .i32 255, .int .i64 0, .int .i64 0]) (.int .i64 1)).run Tryz.prog w = .ok (.agg #[.string M1, .int .i32 1114111, .int .i64 0, .int .i64 1]) w := fun _ => by kernel_rfl
  have i2 : ∀ w, (Instr.index 178 (.agg #[.string M0, .int .i32 1114111, .int .i64 0, .int .i64 0, .string M1, .int .i32 1114111, .int .i64 0, .int .i64 1, .string M2, .int .i32 1114111, .int .i64 1, .int .i64 0, .string ⟨#[]⟩, .int .i32 255, .int .i64 0, .int .i64 0]) (.int .i64 2)).run Tryz.prog w = .ok (.agg #[.string M2, .int .i32 1114111, .int .i64 1, .int .i64 0]) w := fun _ => by kernel_rfl
  have i3 : ∀ w, (Instr.index 178 (.agg #[.string M0, .int .i32 1114111, .int .i64 0, .int .i64 0, .string M1, .int .i32 1114111, .int .i64 0, .int .i64 1, .string M2, .int .i32 1114111, .int .i64 1, .int .i64 0, .string ⟨#[]⟩, .int .i32 255, .int .i64 0, .int .i64 0]) (.int .i64 3)).run Tryz.prog w = .ok (.agg #[.string ⟨#[]⟩, .int .i32 255, .int .i64 0, .int .i64 0]) w := fun _ => by kernel_rfl
  cases p0 : Lib.hasPrefix b.data.toList M0.data.toList
  · cases p1 : Lib.hasPrefix b.data.toList M1.data.toList
    · cases p2 : Lib.hasPrefix b.data.toList M2.data.toList
      · skip
        have hv : sniffTo b enc 3 = enc := by rw [HS.out]; simp [p0, p1, p2]
        rw [hv]; clear hv HS
        go_enter Tryz.func96, Tryz.ntmps96
        go_wp2_with fail
        refine wp_loop_rounds 5 ?_
        rw [rounds_succ]
        go_wp2_with (go_at_call 102; refine (has_prefix _ _ _).mono ?_; rintro e w' ⟨rfl, rfl⟩)
        rw [rounds_succ]
        go_wp2_with (go_at_call 102; refine (has_prefix _ _ _).mono ?_; rintro e w' ⟨rfl, rfl⟩)
        rw [rounds_succ]
        go_wp2_with (go_at_call 102; refine (has_prefix _ _ _).mono ?_; rintro e w' ⟨rfl, rfl⟩)
        rw [rounds_succ]
        go_wp2_with (go_at_call 102; refine (has_prefix _ _ _).mono ?_; rintro e w' ⟨rfl, rfl⟩)
        rw [rounds_succ]
        go_wp2_with (go_at_call 102; refine (has_prefix _ _ _).mono ?_; rintro e w' ⟨rfl, rfl⟩)
        go_ret
        exact ⟨rfl, by repeat (first | exact Below.refl _ _ | refine Below.alloc ?_ (by simp <;> omega) _)⟩
      · skip
        have hv : sniffTo b enc 3 = 2 := by rw [HS.out]; simp [p0, p1, p2]
        rw [hv]; clear hv HS
        go_enter Tryz.func96, Tryz.ntmps96
        go_wp2_with fail
        refine wp_loop_rounds 3 ?_
        rw [rounds_succ]
        go_wp2_with (go_at_call 102; refine (has_prefix _ _ _).mono ?_; rintro e w' ⟨rfl, rfl⟩)
        rw [rounds_succ]
        go_wp2_with (go_at_call 102; refine (has_prefix _ _ _).mono ?_; rintro e w' ⟨rfl, rfl⟩)
        rw [rounds_succ]
        go_wp2_with (go_at_call 102; refine (has_prefix _ _ _).mono ?_; rintro e w' ⟨rfl, rfl⟩)
        go_ret
        exact ⟨rfl, by repeat (first | exact Below.refl _ _ | refine Below.alloc ?_ (by simp <;> omega) _)⟩
    · skip
      have hv : sniffTo b enc 3 = 1 := by rw [HS.out]; simp [p0, p1]
      rw [hv]; clear hv HS
      go_enter Tryz.func96, Tryz.ntmps96
      go_wp2_with fail
      refine wp_loop_rounds 2 ?_
      rw [rounds_succ]
      go_wp2_with (go_at_call 102; refine (has_prefix _ _ _).mono ?_; rintro e w' ⟨rfl, rfl⟩)
      rw [rounds_succ]
      go_wp2_with (go_at_call 102; refine (has_prefix _ _ _).mono ?_; rintro e w' ⟨rfl, rfl⟩)
      go_ret
      exact ⟨rfl, by repeat (first | exact Below.refl _ _ | refine Below.alloc ?_ (by simp <;> omega) _)⟩
  · skip
    have hv : sniffTo b enc 3 = 0 := by rw [HS.out]; simp [p0]
    rw [hv]; clear hv HS
    go_enter Tryz.func96, Tryz.ntmps96
    go_wp2_with fail
    refine wp_loop_rounds 1 ?_
    rw [rounds_succ]
    go_wp2_with (go_at_call 102; refine (has_prefix _ _ _).mono ?_; rintro e w' ⟨rfl, rfl⟩)
    go_ret
    exact ⟨rfl, by repeat (first | exact Below.refl _ _ | refine Below.alloc ?_ (by simp <;> omega) _)⟩
end Go.Proofs.YtjbfgnhkgjigpaaGreatDoor

namespace Go.Proofs.YtjbfgnhkgjigpaaGreatDoor
open Go.RowKit

/-- The mark's bytes, if there is one. -/
def mkB (enc : Int) (mark : Bool) : ByteArray := if mark then markB enc else ⟨#[]⟩
theorem mkB_size (enc : Int) (mark : Bool) : (mkB enc mark).size ≤ 3 := by
  unfold mkB
  cases mark
  · exact Nat.zero_le _
  · simp only [if_true]; have := markB_size enc; omega

set_option maxRecDepth 100000 in
set_option maxHeartbeats 1000000 in
theorem markBytes_any (enc : Int) (mark : Bool) (n : Nd) (tail : ByteArray) (w : World) (ht : Tabs w) (h0 : 0 ≤ enc) (h3 : enc ≤ 3) :
    Calls Tryz.prog 84 #[.agg #[.int .i64 enc, .bool mark, .iface n.ty (.pointer (some ⟨n.blk, 0, none⟩)), .string tail]] w fun e w' => e = .returned (.string (mkB enc mark)) ∧ Below w.heap.size w w' := by
  have hb0 := (Below.refl w.heap.size w).alloc (Nat.le_refl _) (.cells #[.int .i64 enc, .bool mark, .iface n.ty (.pointer (some ⟨n.blk, 0, none⟩)), .string tail] 73)
  cases mark with
  | false =>
    have HB := hide1 hb0
    clear hb0
    go_enter Tryz.func84, Tryz.ntmps84
    go_wp2
    go_ret
    exact ⟨rfl, HB.out⟩
  | true =>
    have HM := hide1 (mark_any enc _ (ht.below hb0).enc h0 h3)
    have HB := hide1 hb0
    clear hb0
    go_enter Tryz.func84, Tryz.ntmps84
    go_wp2_with fail
    refine HM.out.mono ?_
    rintro e w1 ⟨rfl, hb1⟩
    have HB1 := hide1 (HB.out.trans (hb1.mono HB.out.size))
    clear hb1 HM HB
    go_wp2
    go_ret
    exact ⟨rfl, HB1.out⟩

set_option maxRecDepth 100000 in
set_option maxHeartbeats 1000000 in
theorem part_any (s : ByteArray) (f t : Int) (w : World) (hs : s.size ≤ 1099511627776) :
    Calls Tryz.prog 86 #[.string s, .int .i64 f, .int .i64 t] w fun e w' => ∃ r : ByteArray, e = .returned (.string r) ∧ r.data.toList = Vm.partL s.data.toList f t ∧ w' = w := by
  by_cases h : min t (s.size : Int) ≤ max f 0
  · have hp : Vm.partL s.data.toList f t = [] := by
      unfold Vm.partL
      apply List.drop_eq_nil_of_le
      rw [List.length_take]
      have : s.data.toList.length = s.size := rfl
      omega
    rw [hp]
    go_enter Tryz.func86, Tryz.ntmps86
    go_wp2_with fail
    go_ret
    exact ⟨_, rfl, rfl, rfl⟩
  · have x1 : (0 : Int) ≤ max f 0 := by omega
    have x2 : max f 0 ≤ min t (s.size : Int) := by omega
    have x3 : (0 : Int) ≤ min t (s.size : Int) := by omega
    have x4 : min t (s.size : Int) ≤ (s.size : Int) := by omega
    have HX := hide1 (Vm.partL_extract s (max f 0).toNat (min t (s.size : Int)).toNat f t (by omega) (by omega))
    go_enter Tryz.func86, Tryz.ntmps86
    go_wp2_with fail
    go_ret
    exact ⟨_, rfl, HX.out, rfl⟩

/-- What a walk over a content leans on. -/
structure CtR (w0 : World) (enc : Int) (n : Nd) (R : List (Cn × ByteArray)) (w : World) : Prop where
  tabs : Tabs w
  tr : TrAt w enc (some n) R
  low : Below w0.heap.size w0 w
theorem CtR.step {w0 : World} {enc : Int} {n : Nd} {R : List (Cn × ByteArray)} {w w' : World} (h : CtR w0 enc n R w) (hb : Below w.heap.size w w') : CtR w0 enc n R w' :=
  ⟨h.tabs.below hb, h.tr.low hb, h.low.trans (hb.mono h.low.size)⟩
section
variable {Z : Nat} {w0 : World} {enc : Int} {mark : Bool} {n : Nd} {R : List (Cn × ByteArray)} {tail : ByteArray} {w1 w2 : World}
theorem Ct_step (H : w1.cell? ⟨Z, 0, none⟩ = some (.int .i64 enc) ∧ w1.cell? ⟨Z, 1, none⟩ = some (.bool mark) ∧ w1.cell? ⟨Z, 2, none⟩ = some (.iface n.ty (.pointer (some ⟨n.blk, 0, none⟩))) ∧ w1.cell? ⟨Z, 3, none⟩ = some (.string tail) ∧ CtR w0 enc n R w1) (hb : Below w1.heap.size w1 w2) : w2.cell? ⟨Z, 0, none⟩ = some (.int .i64 enc) ∧ w2.cell? ⟨Z, 1, none⟩ = some (.bool mark) ∧ w2.cell? ⟨Z, 2, none⟩ = some (.iface n.ty (.pointer (some ⟨n.blk, 0, none⟩))) ∧ w2.cell? ⟨Z, 3, none⟩ = some (.string tail) ∧ CtR w0 enc n R w2 := by
  obtain ⟨h1, h2, h3, h4, h5⟩ := H
  exact ⟨(hb.cell (p := ⟨Z, 0, none⟩) (block_lt h1)).trans h1, (hb.cell (p := ⟨Z, 1, none⟩) (block_lt h1)).trans h2, (hb.cell (p := ⟨Z, 2, none⟩) (block_lt h1)).trans h3, (hb.cell (p := ⟨Z, 3, none⟩) (block_lt h1)).trans h4, h5.step hb⟩
theorem Ct_drew (H : w1.cell? ⟨Z, 0, none⟩ = some (.int .i64 enc) ∧ w1.cell? ⟨Z, 1, none⟩ = some (.bool mark) ∧ w1.cell? ⟨Z, 2, none⟩ = some (.iface n.ty (.pointer (some ⟨n.blk, 0, none⟩))) ∧ w1.cell? ⟨Z, 3, none⟩ = some (.string tail) ∧ CtR w0 enc n R w1) : w1.drew.cell? ⟨Z, 0, none⟩ = some (.int .i64 enc) ∧ w1.drew.cell? ⟨Z, 1, none⟩ = some (.bool mark) ∧ w1.drew.cell? ⟨Z, 2, none⟩ = some (.iface n.ty (.pointer (some ⟨n.blk, 0, none⟩))) ∧ w1.drew.cell? ⟨Z, 3, none⟩ = some (.string tail) ∧ CtR w0 enc n R w1.drew := Ct_step H ((Below.refl _ _).drew)
theorem Ct_tabs (H : w1.cell? ⟨Z, 0, none⟩ = some (.int .i64 enc) ∧ w1.cell? ⟨Z, 1, none⟩ = some (.bool mark) ∧ w1.cell? ⟨Z, 2, none⟩ = some (.iface n.ty (.pointer (some ⟨n.blk, 0, none⟩))) ∧ w1.cell? ⟨Z, 3, none⟩ = some (.string tail) ∧ CtR w0 enc n R w1) : Tabs w1 := H.2.2.2.2.tabs
theorem Ct_tr (H : w1.cell? ⟨Z, 0, none⟩ = some (.int .i64 enc) ∧ w1.cell? ⟨Z, 1, none⟩ = some (.bool mark) ∧ w1.cell? ⟨Z, 2, none⟩ = some (.iface n.ty (.pointer (some ⟨n.blk, 0, none⟩))) ∧ w1.cell? ⟨Z, 3, none⟩ = some (.string tail) ∧ CtR w0 enc n R w1) : TrAt w1 enc (some n) R := H.2.2.2.2.tr
theorem Ct_low (H : w1.cell? ⟨Z, 0, none⟩ = some (.int .i64 enc) ∧ w1.cell? ⟨Z, 1, none⟩ = some (.bool mark) ∧ w1.cell? ⟨Z, 2, none⟩ = some (.iface n.ty (.pointer (some ⟨n.blk, 0, none⟩))) ∧ w1.cell? ⟨Z, 3, none⟩ = some (.string tail) ∧ CtR w0 enc n R w1) : Below w0.heap.size w0 w1 := H.2.2.2.2.low
end

set_option maxRecDepth 100000 in
set_option maxHeartbeats 1000000 in
theorem size_any (enc : Int) (mark : Bool) (n : Nd) (R : List (Cn × ByteArray)) (tail : ByteArray) (w : World) (ht : Tabs w) (hr : TrAt w enc (some n) R) (h0 : 0 ≤ enc) (h3 : enc ≤ 3) (hl : (rowB R).length ≤ 1099511627776) (htl : tail.size ≤ 1099511627776) :
    Calls Tryz.prog 58 #[.agg #[.int .i64 enc, .bool mark, .iface n.ty (.pointer (some ⟨n.blk, 0, none⟩)), .string tail]] w fun e w' => e = .returned (.int .i64 (((mkB enc mark).size + (rowB R).length + tail.size : Nat) : Int)) ∧ Below w.heap.size w w' := by
  have hb0 := (Below.refl w.heap.size w).alloc (Nat.le_refl _) (.cells #[.int .i64 enc, .bool mark, .iface n.ty (.pointer (some ⟨n.blk, 0, none⟩)), .string tail] 73)
  have hsz := rowA_size hr.ok
  have hms := mkB_size enc mark
  have HM := hide1 (fun w1 (h : Tabs w1) => markBytes_any enc mark n tail w1 h h0 h3)
  have HC := hide1 (fun w1 (h : TrAt w1 enc (some n) R) => h.counts)
  have hc0 : CtR w enc n R (w.alloc (.cells #[.int .i64 enc, .bool mark, .iface n.ty (.pointer (some ⟨n.blk, 0, none⟩)), .string tail] 73)) := ⟨ht.below hb0, hr.low hb0, hb0⟩
  have HS0 := hide1 hc0
  clear hb0 hr ht hc0
  have fb := field_body
  simp only [trv, cnOf, Cn.val] at HC
  generalize mkB enc mark = mb at *
  go_enter Tryz.func58, Tryz.ntmps58
  go_wp2_with fail
  have hS : (w.alloc (.cells #[.int .i64 enc, .bool mark, .iface n.ty (.pointer (some ⟨n.blk, 0, none⟩)), .string tail] 73)).cell? ⟨w.heap.size, 0, none⟩ = some (.int .i64 enc) ∧ (w.alloc (.cells #[.int .i64 enc, .bool mark, .iface n.ty (.pointer (some ⟨n.blk, 0, none⟩)), .string tail] 73)).cell? ⟨w.heap.size, 1, none⟩ = some (.bool mark) ∧ (w.alloc (.cells #[.int .i64 enc, .bool mark, .iface n.ty (.pointer (some ⟨n.blk, 0, none⟩)), .string tail] 73)).cell? ⟨w.heap.size, 2, none⟩ = some (.iface n.ty (.pointer (some ⟨n.blk, 0, none⟩))) ∧ (w.alloc (.cells #[.int .i64 enc, .bool mark, .iface n.ty (.pointer (some ⟨n.blk, 0, none⟩)), .string tail] 73)).cell? ⟨w.heap.size, 3, none⟩ = some (.string tail) ∧ CtR w enc n R (w.alloc (.cells #[.int .i64 enc, .bool mark, .iface n.ty (.pointer (some ⟨n.blk, 0, none⟩)), .string tail] 73)) := ⟨by simp, by simp, by simp, by simp, HS0.out⟩
  generalize hZ : w.heap.size = Z at *
  have HZ := hide1 hZ
  clear hZ
  have HSS := hide1 hS
  clear HS0
  obtain ⟨p0, p1, p2, p3, _⟩ := hS
  generalize (w.alloc (.cells #[.int .i64 enc, .bool mark, .iface n.ty (.pointer (some ⟨n.blk, 0, none⟩)), .string tail] 73)) = W at *
  have hSd := Ct_drew HSS.out
  go_region_held3 (fun w' => w'.cell? ⟨Z, 0, none⟩ = some (.int .i64 enc) ∧ w'.cell? ⟨Z, 1, none⟩ = some (.bool mark) ∧ w'.cell? ⟨Z, 2, none⟩ = some (.iface n.ty (.pointer (some ⟨n.blk, 0, none⟩))) ∧ w'.cell? ⟨Z, 3, none⟩ = some (.string tail) ∧ CtR w enc n R w')
    (first | assumption | exact HSS.out | exact Ct_drew HSS.out)
    (first
      | (go_at_call 84; refine (HM.out _ (Ct_tabs (by assumption))).mono ?_; rintro e w3 ⟨rfl, hb3⟩; have hS3 := Ct_step (by assumption) hb3)
      | (go_at_call 46; refine (HC.out _ (Ct_tr (by assumption))).mono ?_; rintro e w4 ⟨rfl, hb4⟩; have hS4 := Ct_step (by assumption) hb4))
  clear p0 p1 p2 p3
  have hw1 : IntKind.i64.wrap ((mb.size : Int) + ((rowB R).length : Int)) = (mb.size : Int) + ((rowB R).length : Int) := by rw [IntKind.wrap_i64]; omega
  have hw2 : IntKind.i64.wrap ((mb.size : Int) + ((rowB R).length : Int) + (tail.size : Int)) = (mb.size : Int) + ((rowB R).length : Int) + (tail.size : Int) := by rw [IntKind.wrap_i64]; omega
  rw [hw1, hw2]
  have hlow := Ct_low hS4
  clear hS3 hS4 hSd
  go_wp2
  go_ret
  refine ⟨?_, hlow⟩
  simp
end Go.Proofs.YtjbfgnhkgjigpaaGreatDoor
