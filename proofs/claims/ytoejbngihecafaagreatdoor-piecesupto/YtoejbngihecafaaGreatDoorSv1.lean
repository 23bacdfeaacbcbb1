import Derived.Test.YtoejbngihecafaaGreatDoorLd7toApiP
import Derived.Test.YtoejbngihecafaaGreatDoorQb
namespace Go.Proofs.YtoejbngihecafaaGreatDoor
open Go.RowKit

/-- A saver in memory: its content, how many bytes it has given. -/
structure SvAt (w : World) (s : Nat) (bs : List UInt8) (g : Nat) (enc : Int) (mark : Bool) (n : Option Nd) (R : List (Cn × ByteArray)) (tail : ByteArray) : Prop where
  blk : w.heap[s]? = some (.cells #[.int .i64 enc, .bool mark, trv n, .string tail, .int .i64 g] 115)
  tr : TrAt w enc n R
  h0 : 0 ≤ enc
  h3 : enc ≤ 3
  bytes : bs = ctB enc mark R tail
  size : (rowB R).length + tail.size ≤ 1099511627776
  le : g ≤ bs.length
def SV (w : World) (s : Nat) (bs : List UInt8) (g : Nat) : Prop := ∃ enc mark n R tail, SvAt w s bs g enc mark n R tail
section
variable {w : World} {s : Nat} {bs : List UInt8} {g : Nat} {enc : Int} {mark : Bool} {n : Option Nd} {R : List (Cn × ByteArray)} {tail : ByteArray}
theorem SvAt.low {w' : World} (h : SvAt w s bs g enc mark n R tail) (hb : Below w.heap.size w w') : SvAt w' s bs g enc mark n R tail :=
  ⟨(hb.block s (heap_lt h.blk)).trans h.blk, h.tr.low hb, h.h0, h.h3, h.bytes, h.size, h.le⟩
theorem SvAt.at_ (h : SvAt w s bs g enc mark n R tail) :
    w.cell? ⟨s, 0, none⟩ = some (.int .i64 enc) ∧ w.cell? ⟨s, 1, none⟩ = some (.bool mark) ∧ w.cell? ⟨s, 2, none⟩ = some (trv n) ∧ w.cell? ⟨s, 3, none⟩ = some (.string tail) ∧ w.cell? ⟨s, 4, none⟩ = some (.int .i64 g) :=
  ⟨by rw [Lib.cell_of_heap h.blk]; rfl, by rw [Lib.cell_of_heap h.blk]; rfl, by rw [Lib.cell_of_heap h.blk]; rfl, by rw [Lib.cell_of_heap h.blk]; rfl, by rw [Lib.cell_of_heap h.blk]; rfl⟩
theorem SvAt.len (h : SvAt w s bs g enc mark n R tail) : bs.length = (mkB enc mark).size + (rowB R).length + tail.size := by
  rw [h.bytes]; unfold ctB; rw [List.length_append, List.length_append]
  have e1 : (mkB enc mark).data.toList.length = (mkB enc mark).size := rfl
  have e2 : tail.data.toList.length = tail.size := rfl
  omega
theorem SvAt.nb (h : SvAt w s bs g enc mark n R tail) : NoNd w s := by
  have ht : tyAt w s = some 115 := by unfold tyAt; rw [h.blk]
  unfold NoNd; rw [ht]; exact ⟨by decide, by decide⟩
theorem SvAt.set (h : SvAt w s bs g enc mark n R tail) (v : Int) (g' : Nat) (hv : v = g') (hg : g' ≤ bs.length) : SvAt (w.setCell ⟨s, 4, none⟩ (.int .i64 v)) s bs g' enc mark n R tail := by
  subst hv
  have t1 : Tn s w (w.setCell ⟨s, 4, none⟩ (.int .i64 g')) := (Tn.refl _ _).setCell _
  refine ⟨?_, h.tr.tn2 h.nb t1, h.h0, h.h3, h.bytes, h.size, hg⟩
  show (w.heap.modify s _)[s]? = _
  rw [Array.getElem?_modify, if_pos rfl, h.blk]
  rfl
end
set_option maxRecDepth 100000 in
set_option maxHeartbeats 1000000 in
theorem docSaver (p : Nat) (enc : Int) (mark : Bool) (body : ByteArray) (w : World) (hd : DD w p enc mark body) :
    Calls Tryz.prog 48 #[.pointer (some ⟨p, 0, none⟩)] w fun e w' => ∃ s, e = .returned (.pointer (some ⟨s, 0, none⟩)) ∧ w.heap.size ≤ s ∧ SV w' s (bytesOf enc mark body).data.toList 0 ∧ Below w.heap.size w w' := by
  obtain ⟨n, R, tail, h⟩ := hd
  obtain ⟨p0, p1, p2, p3⟩ := h.at_
  have hz := block_lt p0
  have HD := hide1 h
  clear h
  go_enter Tryz.func48, Tryz.ntmps48
  go_wp2_with fail
  go_ret
  have hba := (Below.refl w.heap.size w).alloc (Nat.le_refl _) (.cells #[.int .i64 enc, .bool mark, trv n, .string tail, .int .i64 0] 115)
  have hl := HD.out.lens
  have hs := HD.out.size
  exact ⟨_, rfl, Nat.le_refl _, ⟨enc, mark, n, R, tail, heap_alloc_new w _, HD.out.tr.low hba, HD.out.h0, HD.out.h3, HD.out.ct, by omega, Nat.zero_le _⟩, hba⟩

/-- The tables go through whatever leaves their blocks alone. -/
theorem Tabs.kept {w w' : World} (h : Tabs w) (h1 : w'.heap[2]? = w.heap[2]?) (h2 : w'.heap[6]? = w.heap[6]?) (h3 : w'.heap[5]? = w.heap[5]?) : Tabs w' := by
  have g1 : ∀ o, w'.cell? ⟨2, o, none⟩ = w.cell? ⟨2, o, none⟩ := fun o => World.cell?_of_block (w := w) (a := ⟨2, o, none⟩) h1
  have g2 : ∀ o, w'.cell? ⟨6, o, none⟩ = w.cell? ⟨6, o, none⟩ := fun o => World.cell?_of_block (w := w) (a := ⟨6, o, none⟩) h2
  have g3 : ∀ o, w'.cell? ⟨5, o, none⟩ = w.cell? ⟨5, o, none⟩ := fun o => World.cell?_of_block (w := w) (a := ⟨5, o, none⟩) h3
  refine ⟨⟨fun k hk => (g2 _).trans (h.seq.up k hk), fun k hk => (g2 _).trans (h.seq.size k hk), fun k hk => (g2 _).trans (h.seq.bits k hk), fun k hk => (g2 _).trans (h.seq.least k hk), fun k hk => (g2 _).trans (h.seq.most k hk)⟩,
    ⟨(g3 _).trans h.half.c0, (g3 _).trans h.half.c1, (g3 _).trans h.half.c2, (g3 _).trans h.half.c3⟩, ?_⟩
  exact ⟨(g1 _).trans h.enc.m0, (g1 _).trans h.enc.g0, (g1 _).trans h.enc.l0, (g1 _).trans h.enc.h0, (g1 _).trans h.enc.m1, (g1 _).trans h.enc.g1, (g1 _).trans h.enc.l1, (g1 _).trans h.enc.h1, (g1 _).trans h.enc.m2, (g1 _).trans h.enc.g2, (g1 _).trans h.enc.l2, (g1 _).trans h.enc.h2, (g1 _).trans h.enc.m3, (g1 _).trans h.enc.g3, (g1 _).trans h.enc.l3, (g1 _).trans h.enc.h3⟩
/-- No table lies at a block whose first cell is an int. -/
theorem Tabs.tn {w w' : World} {q : Nat} {a : Int} (h : Tabs w) (hq : w.cell? ⟨q, 0, none⟩ = some (.int .i64 a)) (hs : Tn q w w') : Tabs w' := by
  have e1 := h.enc.m0
  have e2 := h.seq.up 0 (by decide)
  have e3 := h.half.c0
  refine h.kept (hs.keep _ (block_lt e1) (fun e => ?_)) (hs.keep _ (block_lt e2) (fun e => ?_)) (hs.keep _ (block_lt e3) (fun e => ?_))
  · subst e; rw [hq] at e1; cases e1
  · subst e; rw [Nat.zero_mul, hq] at e2; cases e2
  · subst e; rw [hq] at e3; cases e3
set_option maxRecDepth 100000 in
set_option maxHeartbeats 1000000 in
theorem fill_any (s : Nat) (bs : List UInt8) (g : Nat) (c : Int) (w : World) (ht : Tabs w) (hs : SV w s bs g) :
    Calls Tryz.prog 21 #[.pointer (some ⟨s, 0, none⟩), .int .i64 c] w fun e w' => e = .returned (.string ⟨((bs.drop g).take c.toNat).toArray⟩) ∧ SV w' s bs (g + min c.toNat (bs.length - g)) ∧ Tn s w w' := by
  obtain ⟨enc, mark, n, R, tail, h⟩ := hs
  have hlen := h.len
  have hle := h.le
  have hsz := h.size
  have hms := mkB_size enc mark
  have h0 := h.h0
  have h3 := h.h3
  have HZ := hide1 (fun (x : Bl w) => size_any enc mark n R tail x.val (ht.below x.2) (h.tr.low x.2) h.h0 h.h3 (by omega) (by omega))
  rw [← hlen] at HZ
  have q0 : ∀ x : Bl w, x.val.cell? ⟨s, 0, none⟩ = some (.int .i64 enc) := fun x => (h.low x.2).at_.1
  have q1 : ∀ x : Bl w, x.val.cell? ⟨s, 1, none⟩ = some (.bool mark) := fun x => (h.low x.2).at_.2.1
  have q2 : ∀ x : Bl w, x.val.cell? ⟨s, 2, none⟩ = some (trv n) := fun x => (h.low x.2).at_.2.2.1
  have q3 : ∀ x : Bl w, x.val.cell? ⟨s, 3, none⟩ = some (.string tail) := fun x => (h.low x.2).at_.2.2.2.1
  have q4 : ∀ x : Bl w, x.val.cell? ⟨s, 4, none⟩ = some (.int .i64 g) := fun x => (h.low x.2).at_.2.2.2.2
  have hz := heap_lt h.blk
  have H := hide1 h
  have HT := hide1 ht
  clear h ht
  have f4 : ∀ x : Bl w, x.val.frozen? ⟨s, 4, none⟩ = false := fun x => Lib.frozen_of_heap (H.out.low x.2).blk 4
  have hzx : ∀ x : Bl w, s < x.val.heap.size := fun x => heap_lt (H.out.low x.2).blk
  generalize hL : bs.length = L at *
  have hLb : L ≤ 2199023255552 := by omega
  have HL := hide1 hL
  clear hlen hL
  have hwl : IntKind.i64.wrap ((L : Int) - (g : Int)) = (L : Int) - (g : Int) := by rw [IntKind.wrap_i64]; omega
  obtain ⟨k, hk⟩ : ∃ k, k = min c ((L : Int) - (g : Int)) := ⟨_, rfl⟩
  have hmin := hk.symm
  have hmo : Tryz.prog.follows Departure.mixedOrders = true := by kernel_rfl
  by_cases h1 : k < 1
  · have hF : min c.toNat (L - g) = 0 := by omega
    have HF := hide1 hF
    have HE := hide1 (show ((bs.drop g).take c.toNat) = [] by
      apply List.eq_nil_of_length_eq_zero
      rw [List.length_take, List.length_drop, HL.out]; exact hF)
    clear hk hF
    go_enter Tryz.func21, Tryz.ntmps21
    go_wp2_with fail
    refine wp_region_bl hmo (by kernel_rfl) ?_
    repeat (go_big_quiet_step (refine Calls.bl_of (HZ.out _)))
    refine wpQuiet_nil ?_
    intro _ hw'
    obtain ⟨x5, hx5⟩ := hw'
    subst hx5
    go_wp2_with fail
    go_ret
    refine ⟨by rw [HE.out]; rfl, ⟨enc, mark, n, R, tail, ?_⟩, ⟨x5.2.os, x5.2.tape, x5.2.output, x5.2.size, fun k hk _ => x5.2.block k hk⟩⟩
    rw [HF.out]; exact H.out.low x5.2
  · obtain ⟨m, rfl⟩ : ∃ m : Nat, k = m := ⟨k.toNat, by omega⟩
    have hF : min c.toNat (L - g) = m := by omega
    have hgm : g + m ≤ L := by omega
    have HF := hide1 hF
    have HE := hide1 (show Vm.partL (ctB enc mark R tail) (g : Int) ((g + m : Nat) : Int) = ((bs.drop g).take c.toNat) by
      rw [← H.out.bytes]
      unfold Vm.partL
      rw [show ((g : Int)).toNat = g by omega, show (((g + m : Nat) : Int)).toNat = g + m by omega, List.drop_take, show g + m - g = m by omega]
      by_cases hcm : c.toNat ≤ L - g
      · rw [show c.toNat = m by omega]
      · rw [List.take_of_length_le (by rw [List.length_drop, HL.out]; omega), List.take_of_length_le (by rw [List.length_drop, HL.out]; omega)])
    clear hk hF
    have hw1 : IntKind.i64.wrap ((g : Int) + (m : Int)) = (g : Int) + (m : Int) := by rw [IntKind.wrap_i64]; omega
    have hw2 : IntKind.i64.wrap (g : Int) = (g : Int) := by rw [IntKind.wrap_i64]; omega
    have h1I : ¬ (m : Int) < 1 := h1
    have H6 := hide1 (fun (x : Bl w) => (H.out.low x.2).set ((g : Int) + (m : Int)) (g + m) (by omega) (by rw [HL.out]; exact hgm))
    go_enter Tryz.func21, Tryz.ntmps21
    go_wp2_with fail
    refine wp_region_bl hmo (by kernel_rfl) ?_
    repeat (go_big_quiet_step (refine Calls.bl_of (HZ.out _)))
    refine wpQuiet_nil ?_
    intro _ hw'
    obtain ⟨x5, hx5⟩ := hw'
    subst hx5
    go_wp2_with fail
    have H7 := hide1 (H6.out x5)
    have HT7 := hide1 (HT.out.below x5.2)
    have ts : Tn s x5.val (x5.val.setCell ⟨s, 4, none⟩ (.int .i64 ((g : Int) + (m : Int)))) := (Tn.refl _ _).setCell _
    have TS := hide1 ((⟨x5.2.os, x5.2.tape, x5.2.output, x5.2.size, fun k hk _ => x5.2.block k hk⟩ : Tn s w x5.val).trans ts)
    have HT8 := hide1 (HT7.out.tn (H.out.low x5.2).at_.1 ts)
    clear H6 HZ q0 q1 q2 q3 q4 f4 hzx ts HT7
    generalize x5.val.setCell ⟨s, 4, none⟩ (.int .i64 ((g : Int) + (m : Int))) = w6 at *
    have q0 : ∀ x : Bl w6, x.val.cell? ⟨s, 0, none⟩ = some (.int .i64 enc) := fun x => (H7.out.low x.2).at_.1
    have q1 : ∀ x : Bl w6, x.val.cell? ⟨s, 1, none⟩ = some (.bool mark) := fun x => (H7.out.low x.2).at_.2.1
    have q2 : ∀ x : Bl w6, x.val.cell? ⟨s, 2, none⟩ = some (trv n) := fun x => (H7.out.low x.2).at_.2.2.1
    have q3 : ∀ x : Bl w6, x.val.cell? ⟨s, 3, none⟩ = some (.string tail) := fun x => (H7.out.low x.2).at_.2.2.2.1
    have q4 : ∀ x : Bl w6, x.val.cell? ⟨s, 4, none⟩ = some (.int .i64 ((g : Int) + (m : Int))) := fun x => by have := (H7.out.low x.2).at_.2.2.2.2; rwa [Int.natCast_add] at this
    have HP := hide1 (fun (x : Bl w6) => piece_any enc mark n R tail g (g + m) x.val (HT8.out.below x.2) (H7.out.tr.low x.2) h0 h3 (by omega) (by omega) (by omega) (by omega))
    rw [HE.out] at HP
    simp only [Int.natCast_add] at HP
    refine wp_region_bl hmo (by kernel_rfl) ?_
    repeat (go_big_quiet_step (refine Calls.bl_of (HP.out _)))
    refine wpQuiet_nil ?_
    intro _ hw'
    obtain ⟨x8, hx8⟩ := hw'
    subst hx8
    go_wp2_with fail
    go_ret
    refine ⟨rfl, ⟨enc, mark, n, R, tail, ?_⟩, TS.out.low x8.2⟩
    rw [HF.out]; exact H7.out.low x8.2
end Go.Proofs.YtoejbngihecafaaGreatDoor
