import Derived.Test.YtjbfgnhkgjigpaaDoorProg
import Derived.WalkKit
import Derived.WalkSpells
import Derived.WalkLawsBesides
import Derived.Handy
import Derived.Deep.RegionWith
import Derived.BigRegion
import Derived.Deep.CutRange
import Derived.Deep.MidRow
import Derived.Deep.RegionHeld3
import Derived.Deep.Heap
namespace Go.Proofs.YtjbfgnhkgjigpaaDoor
open Go.RowKit

/-- What is counted of atoms. -/
structure Cn where
  body : Nat
  bytes : Nat
  chars : Nat
  units : Nat
  esc : Nat
  lf : Nat
  crlf : Nat
  cr : Nat
def Cn.val (c : Cn) : Value := .agg #[.int .i64 c.body, .int .i64 c.bytes, .int .i64 c.chars, .int .i64 c.units, .int .i64 c.esc, .int .i64 c.lf, .int .i64 c.crlf, .int .i64 c.cr]
def Cn.plus (c d : Cn) : Cn := ⟨c.body + d.body, c.bytes + d.bytes, c.chars + d.chars, c.units + d.units, c.esc + d.esc, c.lf + d.lf, c.crlf + d.crlf, c.cr + d.cr⟩
/-- No count is great. -/
structure Cn.Small (c : Cn) : Prop where
  h0 : c.body ≤ 1152921504606846976
  h1 : c.bytes ≤ 1152921504606846976
  h2 : c.chars ≤ 1152921504606846976
  h3 : c.units ≤ 1152921504606846976
  h4 : c.esc ≤ 1152921504606846976
  h5 : c.lf ≤ 1152921504606846976
  h6 : c.crlf ≤ 1152921504606846976
  h7 : c.cr ≤ 1152921504606846976

set_option maxRecDepth 100000 in
set_option maxHeartbeats 1000000 in
theorem plus_any (c d : Cn) (w : World) (hc : c.Small) (hd : d.Small) :
    Calls Tryd.prog 104 #[c.val, d.val] w fun e w' => e = .returned (c.plus d).val ∧ Below w.heap.size w w' := by
  obtain ⟨c0, c1, c2, c3, c4, c5, c6, c7⟩ := c
  obtain ⟨d0, d1, d2, d3, d4, d5, d6, d7⟩ := d
  obtain ⟨x0, x1, x2, x3, x4, x5, x6, x7⟩ := hc
  obtain ⟨y0, y1, y2, y3, y4, y5, y6, y7⟩ := hd
  simp only at x0 x1 x2 x3 x4 x5 x6 x7 y0 y1 y2 y3 y4 y5 y6 y7
  simp only [Cn.val, Cn.plus]
  have i0 : ∀ w, (Instr.index 82 (.agg #[.int .i64 d5, .int .i64 d6, .int .i64 d7]) (.int .i64 0)).run Tryd.prog w = .ok (.int .i64 d5) w := fun _ => by kernel_rfl
  have i1 : ∀ w, (Instr.index 82 (.agg #[.int .i64 d5, .int .i64 d6, .int .i64 d7]) (.int .i64 1)).run Tryd.prog w = .ok (.int .i64 d6) w := fun _ => by kernel_rfl
  have i2 : ∀ w, (Instr.index 82 (.agg #[.int .i64 d5, .int .i64 d6, .int .i64 d7]) (.int .i64 2)).run Tryd.prog w = .ok (.int .i64 d7) w := fun _ => by kernel_rfl
  go_enter Tryd.func104, Tryd.ntmps104
  go_wp2_with fail
  refine wp_loop_rounds 4 ?_
  rw [rounds_succ]
  go_wp2_with fail
  rw [rounds_succ]
  go_wp2_with fail
  rw [rounds_succ]
  go_wp2_with fail
  rw [rounds_succ]
  go_wp2_with fail
  refine bodyPost_ret (v := .agg #[.int .i64 (c0 + d0 : Nat), .int .i64 (c1 + d1 : Nat), .int .i64 (c2 + d2 : Nat), .int .i64 (c3 + d3 : Nat), .int .i64 (c4 + d4 : Nat), .int .i64 (c5 + d5 : Nat), .int .i64 (c6 + d6 : Nat), .int .i64 (c7 + d7 : Nat)]) (by simp [results, Tryd.results104, go_sem]) rfl ⟨rfl, ?_⟩
  exact (((Below.refl _ _).alloc (Nat.le_refl _) _).alloc (by simp) _).alloc (by simp; omega) _

set_option maxRecDepth 100000 in
set_option maxHeartbeats 1000000 in
theorem lineEnds_any (c : Cn) (w : World) (hc : c.Small) :
    Calls Tryd.prog 42 #[c.val] w fun e w' => e = .returned (.int .i64 ((c.lf + c.crlf + c.cr : Nat) : Int)) ∧ Below w.heap.size w w' := by
  obtain ⟨c0, c1, c2, c3, c4, c5, c6, c7⟩ := c
  obtain ⟨x0, x1, x2, x3, x4, x5, x6, x7⟩ := hc
  simp only at x0 x1 x2 x3 x4 x5 x6 x7
  simp only [Cn.val]
  go_enter Tryd.func42, Tryd.ntmps42
  go_wp2
  go_ret
  exact ⟨by simp, (Below.refl _ _).alloc (Nat.le_refl _) _⟩

/-- The kind of which there are most. -/
def Cn.ending (c : Cn) : Int := if (if c.lf < c.crlf then c.crlf else c.lf) < c.cr then 2 else if c.lf < c.crlf then 1 else 0
set_option maxRecDepth 100000 in
set_option maxHeartbeats 1000000 in
theorem ending_any (c : Cn) (w : World) (hc : c.Small) :
    Calls Tryd.prog 43 #[c.val] w fun e w' => e = .returned (.int .i64 c.ending) ∧ Below w.heap.size w w' := by
  obtain ⟨c0, c1, c2, c3, c4, c5, c6, c7⟩ := c
  obtain ⟨x0, x1, x2, x3, x4, x5, x6, x7⟩ := hc
  simp only at x0 x1 x2 x3 x4 x5 x6 x7
  simp only [Cn.val, Cn.ending]
  have i0 : ∀ w, (Instr.index 82 (.agg #[.int .i64 c5, .int .i64 c6, .int .i64 c7]) (.int .i64 0)).run Tryd.prog w = .ok (.int .i64 c5) w := fun _ => by kernel_rfl
  have i1 : ∀ w, (Instr.index 82 (.agg #[.int .i64 c5, .int .i64 c6, .int .i64 c7]) (.int .i64 1)).run Tryd.prog w = .ok (.int .i64 c6) w := fun _ => by kernel_rfl
  have i2 : ∀ w, (Instr.index 82 (.agg #[.int .i64 c5, .int .i64 c6, .int .i64 c7]) (.int .i64 2)).run Tryd.prog w = .ok (.int .i64 c7) w := fun _ => by kernel_rfl
  by_cases hh : c5 < c6
  · by_cases hk : c6 < c7
    · have hv : (if (if c5 < c6 then c6 else c5) < c7 then (2 : Int) else if c5 < c6 then 1 else 0) = 2 := by rw [if_pos hh, if_pos hk]
      rw [hv]
      go_enter Tryd.func43, Tryd.ntmps43
      go_wp2_with fail
      refine wp_loop_rounds 4 ?_
      repeat (rw [rounds_succ]; go_wp2_with fail)
      go_ret
      exact ⟨rfl, (Below.refl _ _).alloc (Nat.le_refl _) _⟩
    · have hv : (if (if c5 < c6 then c6 else c5) < c7 then (2 : Int) else if c5 < c6 then 1 else 0) = 1 := by rw [if_pos hh, if_neg hk, if_pos hh]
      rw [hv]
      go_enter Tryd.func43, Tryd.ntmps43
      go_wp2_with fail
      refine wp_loop_rounds 4 ?_
      repeat (rw [rounds_succ]; go_wp2_with fail)
      go_ret
      exact ⟨rfl, (Below.refl _ _).alloc (Nat.le_refl _) _⟩
  · by_cases hk : c5 < c7
    · have hv : (if (if c5 < c6 then c6 else c5) < c7 then (2 : Int) else if c5 < c6 then 1 else 0) = 2 := by rw [if_neg hh, if_pos hk]
      rw [hv]
      go_enter Tryd.func43, Tryd.ntmps43
      go_wp2_with fail
      refine wp_loop_rounds 4 ?_
      repeat (rw [rounds_succ]; go_wp2_with fail)
      go_ret
      exact ⟨rfl, (Below.refl _ _).alloc (Nat.le_refl _) _⟩
    · have hv : (if (if c5 < c6 then c6 else c5) < c7 then (2 : Int) else if c5 < c6 then 1 else 0) = 0 := by rw [if_neg hh, if_neg hk, if_neg hh]
      rw [hv]
      go_enter Tryd.func43, Tryd.ntmps43
      go_wp2_with fail
      refine wp_loop_rounds 4 ?_
      repeat (rw [rounds_succ]; go_wp2_with fail)
      go_ret
      exact ⟨rfl, (Below.refl _ _).alloc (Nat.le_refl _) _⟩

set_option maxHeartbeats 400000 in
theorem counts_any (c : Cn) (w : World) :
    Calls Tryd.prog 126 #[c.val] w fun e w' => e = .returned c.val ∧ Below w.heap.size w w' := by
  simp only [Cn.val]
  go_enter Tryd.func126, Tryd.ntmps126
  go_wp2
  refine bodyPost_ret (v := c.val) (by simp [results, Tryd.results126, go_sem, Cn.val]) rfl ⟨rfl, ?_⟩
  exact (((Below.refl _ _).alloc (Nat.le_refl _) _).alloc (by simp) _)

/-- A node's head: what is counted, and its height. -/
def Cn.head (c : Cn) (h : Nat) : Value := .agg #[.int .i64 c.body, .int .i64 c.bytes, .int .i64 c.chars, .int .i64 c.units, .int .i64 c.esc, .int .i64 c.lf, .int .i64 c.crlf, .int .i64 c.cr, .int .i64 h]
set_option maxHeartbeats 400000 in
theorem level_any (c : Cn) (h : Nat) (w : World) :
    Calls Tryd.prog 132 #[c.head h] w fun e w' => e = .returned (.int .i64 h) ∧ Below w.heap.size w w' := by
  simp only [Cn.head]
  go_enter Tryd.func132, Tryd.ntmps132
  go_wp2
  go_ret
  exact ⟨rfl, (Below.refl _ _).alloc (Nat.le_refl _) _⟩
end Go.Proofs.YtjbfgnhkgjigpaaDoor

namespace Go.Proofs.YtjbfgnhkgjigpaaDoor
open Go.RowKit

/-- Only block b turns, and new ones come. -/
structure Tn (b : Nat) (w w' : World) : Prop where
  os : w'.os = w.os
  tape : w'.tape = w.tape
  output : w'.output = w.output
  size : w.heap.size ≤ w'.heap.size
  keep : ∀ k, k < w.heap.size → k ≠ b → w'.heap[k]? = w.heap[k]?
theorem Tn.refl (b : Nat) (w : World) : Tn b w w := ⟨rfl, rfl, rfl, Nat.le_refl _, fun _ _ _ => rfl⟩
theorem Tn.trans {b : Nat} {w1 w2 w3 : World} (h : Tn b w1 w2) (k : Tn b w2 w3) : Tn b w1 w3 :=
  ⟨k.os.trans h.os, k.tape.trans h.tape, k.output.trans h.output, Nat.le_trans h.size k.size, fun i h1 h2 => (k.keep i (Nat.lt_of_lt_of_le h1 h.size) h2).trans (h.keep i h1 h2)⟩
theorem Tn.alloc {b : Nat} {w w' : World} (h : Tn b w w') (o : Obj) : Tn b w (w'.alloc o) := by
  refine h.trans ⟨rfl, rfl, rfl, by simp, fun k hk _ => ?_⟩
  have hb := (Below.refl w'.heap.size w').alloc (Nat.le_refl _) o
  exact hb.block k hk
theorem Tn.setCell {b j : Nat} {w w' : World} (h : Tn b w w') (v : Value) : Tn b w (w'.setCell ⟨b, j, none⟩ v) := by
  exact h.trans ⟨rfl, rfl, rfl, by simp [World.setCell], fun k hk hne => Below.heap_setCell _ _ _ _ hne⟩

/-- Counts in memory. -/
structure CnAt (w : World) (b : Nat) (c : Cn) : Prop where
  c0 : w.cell? ⟨b, 0, none⟩ = some (.int .i64 c.body)
  c1 : w.cell? ⟨b, 1, none⟩ = some (.int .i64 c.bytes)
  c2 : w.cell? ⟨b, 2, none⟩ = some (.int .i64 c.chars)
  c3 : w.cell? ⟨b, 3, none⟩ = some (.int .i64 c.units)
  c4 : w.cell? ⟨b, 4, none⟩ = some (.int .i64 c.esc)
  c5 : w.cell? ⟨b, 5, none⟩ = some (.int .i64 c.lf)
  c6 : w.cell? ⟨b, 6, none⟩ = some (.int .i64 c.crlf)
  c7 : w.cell? ⟨b, 7, none⟩ = some (.int .i64 c.cr)
  fr : ∀ j, w.frozen? ⟨b, j, none⟩ = false

theorem hide1 {p : Prop} (h : p) : Hid p := h
theorem blk_lt {w : World} {b o : Nat} {v : Value} (h : w.cell? ⟨b, o, none⟩ = some v) : b < w.heap.size := by
  unfold World.cell? at h
  by_cases hb : b < w.heap.size
  · exact hb
  · rw [Array.getElem?_eq_none (show w.heap.size ≤ b by omega)] at h; simp at h

theorem Tn.drew {b : Nat} {w w' : World} (h : Tn b w w') : Tn b w w'.drew := h.trans ⟨rfl, rfl, rfl, Nat.le_refl _, fun _ _ _ => rfl⟩
theorem sc8_ne (W : World) (B i j : Nat) (v : Value) (h : i ≠ j) : (W.setCell ⟨B, i, none⟩ v).cell? ⟨B, j, none⟩ = W.cell? ⟨B, j, none⟩ :=
  World.cell?_setCell_other _ _ _ _ (by intro e; injection e with e1 e2; exact h e2)
theorem sc8_eq (W : World) (B i : Nat) (v u : Value) (h : W.cell? ⟨B, i, none⟩ = some u) : (W.setCell ⟨B, i, none⟩ v).cell? ⟨B, i, none⟩ = some v := World.cell?_setCell_same' W _ v (by rw [h]; rfl)
theorem new8 (W : World) (B : Nat) (l : Array Value) (t : TypeId) (j : Nat) (v : Value) (hB : B = W.heap.size) (h : l[j]? = some v) : (W.alloc (.cells l t)).drew.cell? ⟨B, j, none⟩ = some v := by
  show (W.alloc (.cells l t)).cell? ⟨B, j, none⟩ = some v
  subst hB
  simp [h]
theorem CnAt.drew {w : World} {b : Nat} {c : Cn} (h : CnAt w b c) : CnAt w.drew b c := ⟨h.c0, h.c1, h.c2, h.c3, h.c4, h.c5, h.c6, h.c7, h.fr⟩
theorem CnAt.below {w w' : World} {b : Nat} {c : Cn} (h : CnAt w b c) (hb : Below w.heap.size w w') : CnAt w' b c := by
  have hB := blk_lt h.c0
  have g : ∀ o, w'.cell? ⟨b, o, none⟩ = w.cell? ⟨b, o, none⟩ := fun o => hb.cell (p := ⟨b, o, none⟩) hB
  exact ⟨(g _).trans h.c0, (g _).trans h.c1, (g _).trans h.c2, (g _).trans h.c3, (g _).trans h.c4, (g _).trans h.c5, (g _).trans h.c6, (g _).trans h.c7, fun j => (hb.frozen (p := ⟨b, j, none⟩) hB).trans (h.fr j)⟩
theorem CnAt.alloc {w : World} {b : Nat} {c : Cn} (h : CnAt w b c) (o : Obj) : CnAt (w.alloc o) b c := h.below ((Below.refl _ _).alloc (Nat.le_refl _) o)
variable {w : World} {b : Nat} {c : Cn}
theorem CnAt.set0 (h : CnAt w b c) (n : Nat) : CnAt (w.setCell ⟨b, 0, none⟩ (.int .i64 n)) b { c with body := n } :=
  ⟨sc8_eq _ _ 0 _ _ h.c0, by rw [sc8_ne _ _ 0 1 _ (by decide)]; exact h.c1, by rw [sc8_ne _ _ 0 2 _ (by decide)]; exact h.c2, by rw [sc8_ne _ _ 0 3 _ (by decide)]; exact h.c3, by rw [sc8_ne _ _ 0 4 _ (by decide)]; exact h.c4, by rw [sc8_ne _ _ 0 5 _ (by decide)]; exact h.c5, by rw [sc8_ne _ _ 0 6 _ (by decide)]; exact h.c6, by rw [sc8_ne _ _ 0 7 _ (by decide)]; exact h.c7, fun j => by rw [World.frozen?_setCell]; exact h.fr j⟩
theorem CnAt.set1 (h : CnAt w b c) (n : Nat) : CnAt (w.setCell ⟨b, 1, none⟩ (.int .i64 n)) b { c with bytes := n } :=
  ⟨by rw [sc8_ne _ _ 1 0 _ (by decide)]; exact h.c0, sc8_eq _ _ 1 _ _ h.c1, by rw [sc8_ne _ _ 1 2 _ (by decide)]; exact h.c2, by rw [sc8_ne _ _ 1 3 _ (by decide)]; exact h.c3, by rw [sc8_ne _ _ 1 4 _ (by decide)]; exact h.c4, by rw [sc8_ne _ _ 1 5 _ (by decide)]; exact h.c5, by rw [sc8_ne _ _ 1 6 _ (by decide)]; exact h.c6, by rw [sc8_ne _ _ 1 7 _ (by decide)]; exact h.c7, fun j => by rw [World.frozen?_setCell]; exact h.fr j⟩
theorem CnAt.set2 (h : CnAt w b c) (n : Nat) : CnAt (w.setCell ⟨b, 2, none⟩ (.int .i64 n)) b { c with chars := n } :=
  ⟨by rw [sc8_ne _ _ 2 0 _ (by decide)]; exact h.c0, by rw [sc8_ne _ _ 2 1 _ (by decide)]; exact h.c1, sc8_eq _ _ 2 _ _ h.c2, by rw [sc8_ne _ _ 2 3 _ (by decide)]; exact h.c3, by rw [sc8_ne _ _ 2 4 _ (by decide)]; exact h.c4, by rw [sc8_ne _ _ 2 5 _ (by decide)]; exact h.c5, by rw [sc8_ne _ _ 2 6 _ (by decide)]; exact h.c6, by rw [sc8_ne _ _ 2 7 _ (by decide)]; exact h.c7, fun j => by rw [World.frozen?_setCell]; exact h.fr j⟩
theorem CnAt.set3 (h : CnAt w b c) (n : Nat) : CnAt (w.setCell ⟨b, 3, none⟩ (.int .i64 n)) b { c with units := n } :=
  ⟨by rw [sc8_ne _ _ 3 0 _ (by decide)]; exact h.c0, by rw [sc8_ne _ _ 3 1 _ (by decide)]; exact h.c1, by rw [sc8_ne _ _ 3 2 _ (by decide)]; exact h.c2, sc8_eq _ _ 3 _ _ h.c3, by rw [sc8_ne _ _ 3 4 _ (by decide)]; exact h.c4, by rw [sc8_ne _ _ 3 5 _ (by decide)]; exact h.c5, by rw [sc8_ne _ _ 3 6 _ (by decide)]; exact h.c6, by rw [sc8_ne _ _ 3 7 _ (by decide)]; exact h.c7, fun j => by rw [World.frozen?_setCell]; exact h.fr j⟩
theorem CnAt.set4 (h : CnAt w b c) (n : Nat) : CnAt (w.setCell ⟨b, 4, none⟩ (.int .i64 n)) b { c with esc := n } :=
  ⟨by rw [sc8_ne _ _ 4 0 _ (by decide)]; exact h.c0, by rw [sc8_ne _ _ 4 1 _ (by decide)]; exact h.c1, by rw [sc8_ne _ _ 4 2 _ (by decide)]; exact h.c2, by rw [sc8_ne _ _ 4 3 _ (by decide)]; exact h.c3, sc8_eq _ _ 4 _ _ h.c4, by rw [sc8_ne _ _ 4 5 _ (by decide)]; exact h.c5, by rw [sc8_ne _ _ 4 6 _ (by decide)]; exact h.c6, by rw [sc8_ne _ _ 4 7 _ (by decide)]; exact h.c7, fun j => by rw [World.frozen?_setCell]; exact h.fr j⟩
theorem CnAt.set5 (h : CnAt w b c) (n : Nat) : CnAt (w.setCell ⟨b, 5, none⟩ (.int .i64 n)) b { c with lf := n } :=
  ⟨by rw [sc8_ne _ _ 5 0 _ (by decide)]; exact h.c0, by rw [sc8_ne _ _ 5 1 _ (by decide)]; exact h.c1, by rw [sc8_ne _ _ 5 2 _ (by decide)]; exact h.c2, by rw [sc8_ne _ _ 5 3 _ (by decide)]; exact h.c3, by rw [sc8_ne _ _ 5 4 _ (by decide)]; exact h.c4, sc8_eq _ _ 5 _ _ h.c5, by rw [sc8_ne _ _ 5 6 _ (by decide)]; exact h.c6, by rw [sc8_ne _ _ 5 7 _ (by decide)]; exact h.c7, fun j => by rw [World.frozen?_setCell]; exact h.fr j⟩
theorem CnAt.set6 (h : CnAt w b c) (n : Nat) : CnAt (w.setCell ⟨b, 6, none⟩ (.int .i64 n)) b { c with crlf := n } :=
  ⟨by rw [sc8_ne _ _ 6 0 _ (by decide)]; exact h.c0, by rw [sc8_ne _ _ 6 1 _ (by decide)]; exact h.c1, by rw [sc8_ne _ _ 6 2 _ (by decide)]; exact h.c2, by rw [sc8_ne _ _ 6 3 _ (by decide)]; exact h.c3, by rw [sc8_ne _ _ 6 4 _ (by decide)]; exact h.c4, by rw [sc8_ne _ _ 6 5 _ (by decide)]; exact h.c5, sc8_eq _ _ 6 _ _ h.c6, by rw [sc8_ne _ _ 6 7 _ (by decide)]; exact h.c7, fun j => by rw [World.frozen?_setCell]; exact h.fr j⟩
theorem CnAt.set7 (h : CnAt w b c) (n : Nat) : CnAt (w.setCell ⟨b, 7, none⟩ (.int .i64 n)) b { c with cr := n } :=
  ⟨by rw [sc8_ne _ _ 7 0 _ (by decide)]; exact h.c0, by rw [sc8_ne _ _ 7 1 _ (by decide)]; exact h.c1, by rw [sc8_ne _ _ 7 2 _ (by decide)]; exact h.c2, by rw [sc8_ne _ _ 7 3 _ (by decide)]; exact h.c3, by rw [sc8_ne _ _ 7 4 _ (by decide)]; exact h.c4, by rw [sc8_ne _ _ 7 5 _ (by decide)]; exact h.c5, by rw [sc8_ne _ _ 7 6 _ (by decide)]; exact h.c6, sc8_eq _ _ 7 _ _ h.c7, fun j => by rw [World.frozen?_setCell]; exact h.fr j⟩

/-- What is counted with one atom more. -/
def Cn.add (c : Cn) (k r : Int) (s n : Nat) : Cn :=
  ⟨c.body + s, c.bytes + n, c.chars + 1, c.units + (if 65535 < r then 2 else 1), c.esc + (if k = 4 then 1 else 0), c.lf + (if k = 0 then 1 else 0), c.crlf + (if k = 1 then 1 else 0), c.cr + (if k = 2 then 1 else 0)⟩

set_option maxRecDepth 100000 in
set_option maxHeartbeats 2000000 in
theorem add_any (b : Nat) (c : Cn) (k r : Int) (s n : Nat) (w : World) (hc : CnAt w b c) (hs : c.Small) (hk0 : 0 ≤ k) (hk4 : k ≤ 4) (hs2 : s ≤ 8) (hn : n ≤ 4)
    (HR : ∀ w, Calls Tryd.prog 92 #[.int .i32 r] w fun e w' => e = .returned (.int .i64 n) ∧ w' = w) :
    Calls Tryd.prog 80 #[.pointer (some ⟨b, 0, none⟩), .agg #[.int .i64 k, .int .i32 r, .int .i64 s]] w fun e w' => e = .returned (.tuple #[]) ∧
      CnAt w' b (c.add k r s n) ∧ Tn b w w' := by
  have HC := hide1 hc
  obtain ⟨c0, c1, _, _, _, _, _, _, fr⟩ := hc
  have x0 := hs.h0
  have x1 := hs.h1
  have HS := hide1 hs
  clear hs
  have hb := blk_lt c0
  have f0 := fr 0
  have f1 := fr 1
  have H := hide1 HR
  clear HR fr
  go_enter Tryd.func80, Tryd.ntmps80
  go_wp2_with fail
  go_cut [4] from 4 to 12 (fun _ wx => CnAt wx b { c with body := c.body + s } ∧ wx.cell? ⟨w.heap.size, 0, none⟩ = some (.int .i64 k) ∧ wx.cell? ⟨w.heap.size, 1, none⟩ = some (.int .i32 r) ∧ Tn b w wx)
  case first =>
    go_region
    all_goals
      go_wp2_with fail
      go_meet
      exact ⟨((HC.out.set0 (c.body + s)).alloc _).drew, new8 _ _ _ _ 0 _ (by simp [World.setCell]) rfl, new8 _ _ _ _ 1 _ (by simp [World.setCell]) rfl, (((Tn.refl b w).setCell _).alloc _).drew⟩
  case rest =>
    obtain ⟨hc1, p0, p1, t1⟩ := hcut
    rename World => w1
    have hsz := t1.size
    have hne : b ≠ w.heap.size := by omega
    clear c0 c1 f0 f1 HC
    have c1 := hc1.c1
    have f1 := hc1.fr 1
    have HC := hide1 hc1
    clear hc1
    go_wp2_with fail
    go_cut [4] from 4 to 22 (fun _ wx => CnAt wx b { c with body := c.body + s, bytes := c.bytes + n } ∧ wx.cell? ⟨w.heap.size, 0, none⟩ = some (.int .i64 k) ∧ wx.cell? ⟨w.heap.size, 1, none⟩ = some (.int .i32 r) ∧ Tn b w wx)
    case first =>
      have hbz := blk_lt p0
      go_region_with (go_at_call 92; refine (H.out _).mono ?_; rintro e w' ⟨rfl, rfl⟩)
      all_goals
        go_wp2_with fail
        go_meet
        have hw : IntKind.i64.wrap ((c.bytes : Int) + (n : Int)) = ((c.bytes + n : Nat) : Int) := by
          rw [IntKind.wrap_i64]; omega
        rw [hw]
        refine ⟨(HC.out.set1 (c.bytes + n)).drew, ?_, ?_, (t1.setCell _).drew⟩
        · show (w1.setCell _ _).cell? _ = _
          rw [World.cell?_setCell_other _ _ _ _ (by intro e; injection e with e1 e2; exact hne e1)]; exact p0
        · show (w1.setCell _ _).cell? _ = _
          rw [World.cell?_setCell_other _ _ _ _ (by intro e; injection e with e1 e2; exact hne e1)]; exact p1
    case rest =>
      obtain ⟨hc2, q0, q1, t2⟩ := hcut
      rename World => w2
      clear HC c1 f1 p0 p1
      have hs := HS.out
      obtain ⟨x0, x1, x2, x3, x4, x5, x6, x7⟩ := hs
      have HC := hide1 hc2
      obtain ⟨c0, c1, c2, c3, c4, c5, c6, c7, fr⟩ := hc2
      have f2 := fr 2
      have f3 := fr 3
      have f4 := fr 4
      have f5 := fr 5
      have f6 := fr 6
      have f7 := fr 7
      clear fr t1 HS
      simp only at c0 c1 c2 c3 c4 c5 c6 c7
      have hb2 := blk_lt c0
      have hb3 := blk_lt q0
      have hk : k = 0 ∨ k = 1 ∨ k = 2 ∨ k = 3 ∨ k = 4 := by omega
      by_cases hr : 65535 < r
      · rcases hk with rfl | rfl | rfl | rfl | rfl
        · have ha : c.add 0 r s n = ⟨c.body + s, c.bytes + n, c.chars + 1, c.units + 2, c.esc, c.lf + 1, c.crlf, c.cr⟩ := by simp [Cn.add, hr]
          have HA := hide1 ha; clear ha
          go_wp2_with fail
          go_region
          all_goals
            go_wp2_with fail
            go_returns
            rw [HA.out]
            exact ⟨rfl, ((((HC.out.set2 (c.chars + 1)).set3 (c.units + 1)).set3 (c.units + 2)).set5 (c.lf + 1)).drew, ((((t2.setCell _).setCell _).setCell _).setCell _).drew⟩
        · have ha : c.add 1 r s n = ⟨c.body + s, c.bytes + n, c.chars + 1, c.units + 2, c.esc, c.lf, c.crlf + 1, c.cr⟩ := by simp [Cn.add, hr]
          have HA := hide1 ha; clear ha
          go_wp2_with fail
          go_region
          all_goals
            go_wp2_with fail
            go_returns
            rw [HA.out]
            exact ⟨rfl, ((((HC.out.set2 (c.chars + 1)).set3 (c.units + 1)).set3 (c.units + 2)).set6 (c.crlf + 1)).drew, ((((t2.setCell _).setCell _).setCell _).setCell _).drew⟩
        · have ha : c.add 2 r s n = ⟨c.body + s, c.bytes + n, c.chars + 1, c.units + 2, c.esc, c.lf, c.crlf, c.cr + 1⟩ := by simp [Cn.add, hr]
          have HA := hide1 ha; clear ha
          go_wp2_with fail
          go_region
          all_goals
            go_wp2_with fail
            go_returns
            rw [HA.out]
            exact ⟨rfl, ((((HC.out.set2 (c.chars + 1)).set3 (c.units + 1)).set3 (c.units + 2)).set7 (c.cr + 1)).drew, ((((t2.setCell _).setCell _).setCell _).setCell _).drew⟩
        · have ha : c.add 3 r s n = ⟨c.body + s, c.bytes + n, c.chars + 1, c.units + 2, c.esc, c.lf, c.crlf, c.cr⟩ := by simp [Cn.add, hr]
          have HA := hide1 ha; clear ha
          go_wp2_with fail
          go_returns
          rw [HA.out]
          exact ⟨rfl, (((HC.out.set2 (c.chars + 1)).set3 (c.units + 1)).set3 (c.units + 2)), ((t2.setCell _).setCell _).setCell _⟩
        · have ha : c.add 4 r s n = ⟨c.body + s, c.bytes + n, c.chars + 1, c.units + 2, c.esc + 1, c.lf, c.crlf, c.cr⟩ := by simp [Cn.add, hr]
          have HA := hide1 ha; clear ha
          go_wp2_with fail
          go_returns
          rw [HA.out]
          exact ⟨rfl, (((HC.out.set2 (c.chars + 1)).set3 (c.units + 1)).set3 (c.units + 2)).set4 (c.esc + 1), ((((t2.setCell _).setCell _).setCell _).setCell _)⟩
      · rcases hk with rfl | rfl | rfl | rfl | rfl
        · have ha : c.add 0 r s n = ⟨c.body + s, c.bytes + n, c.chars + 1, c.units + 1, c.esc, c.lf + 1, c.crlf, c.cr⟩ := by simp [Cn.add, hr]
          have HA := hide1 ha; clear ha
          go_wp2_with fail
          go_region
          all_goals
            go_wp2_with fail
            go_returns
            rw [HA.out]
            exact ⟨rfl, (((HC.out.set2 (c.chars + 1)).set3 (c.units + 1)).set5 (c.lf + 1)).drew, (((t2.setCell _).setCell _).setCell _).drew⟩
        · have ha : c.add 1 r s n = ⟨c.body + s, c.bytes + n, c.chars + 1, c.units + 1, c.esc, c.lf, c.crlf + 1, c.cr⟩ := by simp [Cn.add, hr]
          have HA := hide1 ha; clear ha
          go_wp2_with fail
          go_region
          all_goals
            go_wp2_with fail
            go_returns
            rw [HA.out]
            exact ⟨rfl, (((HC.out.set2 (c.chars + 1)).set3 (c.units + 1)).set6 (c.crlf + 1)).drew, (((t2.setCell _).setCell _).setCell _).drew⟩
        · have ha : c.add 2 r s n = ⟨c.body + s, c.bytes + n, c.chars + 1, c.units + 1, c.esc, c.lf, c.crlf, c.cr + 1⟩ := by simp [Cn.add, hr]
          have HA := hide1 ha; clear ha
          go_wp2_with fail
          go_region
          all_goals
            go_wp2_with fail
            go_returns
            rw [HA.out]
            exact ⟨rfl, (((HC.out.set2 (c.chars + 1)).set3 (c.units + 1)).set7 (c.cr + 1)).drew, (((t2.setCell _).setCell _).setCell _).drew⟩
        · have ha : c.add 3 r s n = ⟨c.body + s, c.bytes + n, c.chars + 1, c.units + 1, c.esc, c.lf, c.crlf, c.cr⟩ := by simp [Cn.add, hr]
          have HA := hide1 ha; clear ha
          go_wp2_with fail
          go_returns
          rw [HA.out]
          exact ⟨rfl, ((HC.out.set2 (c.chars + 1)).set3 (c.units + 1)), (t2.setCell _).setCell _⟩
        · have ha : c.add 4 r s n = ⟨c.body + s, c.bytes + n, c.chars + 1, c.units + 1, c.esc + 1, c.lf, c.crlf, c.cr⟩ := by simp [Cn.add, hr]
          have HA := hide1 ha; clear ha
          go_wp2_with fail
          go_returns
          rw [HA.out]
          exact ⟨rfl, ((HC.out.set2 (c.chars + 1)).set3 (c.units + 1)).set4 (c.esc + 1), (((t2.setCell _).setCell _).setCell _)⟩
end Go.Proofs.YtjbfgnhkgjigpaaDoor

namespace Go.Proofs.YtjbfgnhkgjigpaaDoor
open Go.RowKit

/-- A node: its block, what is counted, and what is below it. -/
inductive Nd where
  | leaf (B : Nat) (c : Cn) (body : ByteArray)
  | inner (B : Nat) (c : Cn) (h : Nat) (l r : Nd)
def Nd.val : Nd → Value
  | .leaf B _ _ => .iface 135 (.pointer (some ⟨B, 0, none⟩))
  | .inner B _ _ _ _ => .iface 157 (.pointer (some ⟨B, 0, none⟩))
def Nd.cn : Nd → Cn
  | .leaf _ c _ => c
  | .inner _ c _ _ _ => c
def Nd.lev : Nd → Nat
  | .leaf _ _ _ => 0
  | .inner _ _ h _ _ => h
/-- The leaves from left to right. -/
def Nd.row : Nd → List (Cn × ByteArray)
  | .leaf _ c s => [(c, s)]
  | .inner _ _ _ l r => l.row ++ r.row
/-- It lies in memory. -/
def Nd.In (w : World) : Nd → Prop
  | .leaf B c s => w.heap[B]? = some (.cells #[.int .i64 c.body, .int .i64 c.bytes, .int .i64 c.chars, .int .i64 c.units, .int .i64 c.esc, .int .i64 c.lf, .int .i64 c.crlf, .int .i64 c.cr, .int .i64 0, .string s] 139)
  | .inner B c h l r => w.heap[B]? = some (.cells #[.int .i64 c.body, .int .i64 c.bytes, .int .i64 c.chars, .int .i64 c.units, .int .i64 c.esc, .int .i64 c.lf, .int .i64 c.crlf, .int .i64 c.cr, .int .i64 h, l.val, r.val] 159) ∧ l.In w ∧ r.In w
/-- What is counted, and the heights, are as they should be. -/
def Nd.Ok : Nd → Prop
  | .leaf _ c s => c.body = s.size
  | .inner _ c h l r => c = l.cn.plus r.cn ∧ h = 1 + max l.lev r.lev ∧ l.Ok ∧ r.Ok

theorem heap_lt {w : World} {b : Nat} {o : Obj} (h : w.heap[b]? = some o) : b < w.heap.size := by
  by_cases hb : b < w.heap.size
  · exact hb
  · rw [Array.getElem?_eq_none (show w.heap.size ≤ b by omega)] at h; cases h
theorem Nd.low {w w' : World} (hb : Below w.heap.size w w') : ∀ {n : Nd}, n.In w → n.In w'
  | .leaf B _ _, h => (hb.block B (heap_lt h)).trans h
  | .inner B _ _ _ _, h => ⟨(hb.block B (heap_lt h.1)).trans h.1, Nd.low hb h.2.1, Nd.low hb h.2.2⟩
/-- All its blocks lie below N. -/
def Nd.Und (N : Nat) : Nd → Prop
  | .leaf B _ _ => B < N
  | .inner B _ _ l r => B < N ∧ l.Und N ∧ r.Und N
theorem Nd.und {w : World} : ∀ {n : Nd}, n.In w → n.Und w.heap.size
  | .leaf _ _ _, h => heap_lt h
  | .inner _ _ _ _ _, h => ⟨heap_lt h.1, Nd.und h.2.1, Nd.und h.2.2⟩
theorem Nd.Und.mono {N M : Nat} (h : N ≤ M) : ∀ {n : Nd}, n.Und N → n.Und M
  | .leaf _ _ _, k => Nat.lt_of_lt_of_le k h
  | .inner _ _ _ _ _, k => ⟨Nat.lt_of_lt_of_le k.1 h, Nd.Und.mono h k.2.1, Nd.Und.mono h k.2.2⟩
theorem Nd.kept {N : Nat} {w w' : World} (hb : ∀ k, k < N → w'.heap[k]? = w.heap[k]?) : ∀ {n : Nd}, n.Und N → n.In w → n.In w'
  | .leaf B _ _, u, h => (hb B u).trans h
  | .inner B _ _ _ _, u, h => ⟨(hb B u.1).trans h.1, Nd.kept hb u.2.1 h.2.1, Nd.kept hb u.2.2 h.2.2⟩

theorem at_of {w : World} {B : Nat} {l : Array Value} {t : TypeId} (h : w.heap[B]? = some (.cells l t)) (o : Nat) (cs : List Value) (hl : ∀ j v, cs[j]? = some v → l[o + j]? = some v) : w.rangeAt B o cs := by
  intro j v hv
  rw [Lib.cell_of_heap h]
  exact hl j v hv
theorem pre_of {α : Type} (a b : List α) (o j : Nat) (v : α) (ho : o = 0) (h : a[j]? = some v) : (a ++ b).toArray[o + j]? = some v := by
  subst ho
  rw [Nat.zero_add, List.getElem?_toArray, List.getElem?_append_left (by by_cases hj : j < a.length; exact hj; rw [List.getElem?_eq_none (by omega)] at h; cases h)]
  exact h
/-- What a method through the interface is given. -/
theorem meth_leaf_counts (f B : Nat) (w : World) : (method (f + 1) 135 (.pointer (some ⟨B, 0, none⟩)) "vellum/atoms.counts").run Tryd.prog w = (loadVar 84 ⟨B, 0, none⟩ >>= fun v => pure (126, v)).run Tryd.prog w := by
  kernel_rfl
theorem meth_inner_counts (f B : Nat) (w : World) : (method (f + 1) 157 (.pointer (some ⟨B, 0, none⟩)) "vellum/atoms.counts").run Tryd.prog w = (loadVar 84 ⟨B, 0, none⟩ >>= fun v => pure (126, v)).run Tryd.prog w := by
  kernel_rfl
theorem meth_leaf_level (f B : Nat) (w : World) : (method (f + 1) 135 (.pointer (some ⟨B, 0, none⟩)) "vellum/atoms.level").run Tryd.prog w = (loadVar 137 ⟨B, 0, none⟩ >>= fun v => pure (132, v)).run Tryd.prog w := by
  kernel_rfl
theorem meth_inner_level (f B : Nat) (w : World) : (method (f + 1) 157 (.pointer (some ⟨B, 0, none⟩)) "vellum/atoms.level").run Tryd.prog w = (loadVar 137 ⟨B, 0, none⟩ >>= fun v => pure (132, v)).run Tryd.prog w := by
  kernel_rfl
def Nd.ty : Nd → TypeId
  | .leaf _ _ _ => 135
  | .inner _ _ _ _ _ => 157
def Nd.blk : Nd → Nat
  | .leaf B _ _ => B
  | .inner B _ _ _ _ => B
theorem Nd.val_eq (n : Nd) : n.val = .iface n.ty (.pointer (some ⟨n.blk, 0, none⟩)) := by cases n <;> rfl
theorem Nd.blk_lt {n : Nd} {w : World} (h : n.In w) : n.blk < w.heap.size := by
  cases n
  · exact heap_lt h
  · exact heap_lt h.1
def Cn.list (c : Cn) : List Value := [.int .i64 c.body, .int .i64 c.bytes, .int .i64 c.chars, .int .i64 c.units, .int .i64 c.esc, .int .i64 c.lf, .int .i64 c.crlf, .int .i64 c.cr]
theorem Nd.load_cn {n : Nd} {w : World} (h : n.In w) : (loadVar 84 ⟨n.blk, 0, none⟩).run Tryd.prog w = .ok n.cn.val w := by
  refine run_loadVar_mid w n.blk 0 84 n.cn.list _ ?_ Tryd.underlying84 rfl (by kernel_rfl)
  cases n with
  | leaf B c s => exact at_of h 0 _ (fun j v hv => pre_of c.list [.int .i64 0, .string s] 0 j v rfl hv)
  | inner B c k l r => exact at_of h.1 0 _ (fun j v hv => pre_of c.list [.int .i64 k, l.val, r.val] 0 j v rfl hv)
theorem Nd.load_head {n : Nd} {w : World} (h : n.In w) : (loadVar 137 ⟨n.blk, 0, none⟩).run Tryd.prog w = .ok (n.cn.head n.lev) w := by
  refine run_loadVar_mid w n.blk 0 137 (n.cn.list ++ [.int .i64 n.lev]) _ ?_ Tryd.underlying137 rfl (by kernel_rfl)
  cases n with
  | leaf B c s => exact at_of h 0 _ (fun j v hv => pre_of (c.list ++ [.int .i64 0]) [.string s] 0 j v rfl hv)
  | inner B c k l r => exact at_of h.1 0 _ (fun j v hv => pre_of (c.list ++ [.int .i64 k]) [l.val, r.val] 0 j v rfl hv)
theorem meth_counts (n : Nd) (f : Nat) (w : World) (h : n.In w) : (method (f + 1) n.ty (.pointer (some ⟨n.blk, 0, none⟩)) "vellum/atoms.counts").run Tryd.prog w = .ok (126, n.cn.val) w := by
  have hl := Nd.load_cn h
  cases n
  · refine (meth_leaf_counts f _ w).trans ?_
    rw [Sem.run_bind]
    rw [hl]; rfl
  · refine (meth_inner_counts f _ w).trans ?_
    rw [Sem.run_bind]
    rw [hl]; rfl
theorem meth_level (n : Nd) (f : Nat) (w : World) (h : n.In w) : (method (f + 1) n.ty (.pointer (some ⟨n.blk, 0, none⟩)) "vellum/atoms.level").run Tryd.prog w = .ok (132, n.cn.head n.lev) w := by
  have hl := Nd.load_head h
  cases n
  · refine (meth_leaf_level f _ w).trans ?_
    rw [Sem.run_bind]
    rw [hl]; rfl
  · refine (meth_inner_level f _ w).trans ?_
    rw [Sem.run_bind]
    rw [hl]; rfl

theorem CnAt.new (w : World) (t : TypeId) : CnAt (w.alloc (.cells #[.int .i64 0, .int .i64 0, .int .i64 0, .int .i64 0, .int .i64 0, .int .i64 0, .int .i64 0, .int .i64 0] t)) w.heap.size ⟨0, 0, 0, 0, 0, 0, 0, 0⟩ :=
  ⟨by simp, by simp, by simp, by simp, by simp, by simp, by simp, by simp, fun j => by simp [go_sem]⟩

theorem eight_below {N b : Nat} {w w' : World} (h : Below N w w') (hl : N ≤ b) (v0 v1 v2 v3 v4 v5 v6 v7 : Value) : Below N w ((((((((w'.setCell ⟨b, 0, none⟩ v0).setCell ⟨b, 1, none⟩ v1).setCell ⟨b, 2, none⟩ v2).setCell ⟨b, 3, none⟩ v3).setCell ⟨b, 4, none⟩ v4).setCell ⟨b, 5, none⟩ v5).setCell ⟨b, 6, none⟩ v6).setCell ⟨b, 7, none⟩ v7) :=
  ((((((((h.setCell (p := ⟨b, 0, none⟩) hl _).setCell (p := ⟨b, 1, none⟩) hl _).setCell (p := ⟨b, 2, none⟩) hl _).setCell (p := ⟨b, 3, none⟩) hl _).setCell (p := ⟨b, 4, none⟩) hl _).setCell (p := ⟨b, 5, none⟩) hl _).setCell (p := ⟨b, 6, none⟩) hl _).setCell (p := ⟨b, 7, none⟩) hl _)

set_option maxRecDepth 100000 in
set_option maxHeartbeats 1000000 in
theorem tcounts_any (n : Nd) (w : World) (h : n.In w) :
    Calls Tryd.prog 41 #[.agg #[n.val]] w fun e w' => e = .returned n.cn.val ∧ Below w.heap.size w w' := by
  rw [n.val_eq]
  have hz := Nd.blk_lt h
  have HN := hide1 h
  clear h
  go_enter Tryd.func41, Tryd.ntmps41
  go_wp2_with fail
  rw [meth_counts n 292 _ (Nd.low (((Below.refl _ _).alloc (Nat.le_refl _) _).alloc (by simp) _) HN.out)]
  have hn := CnAt.new (w.alloc (.cells #[.iface n.ty (.pointer (some ⟨n.blk, 0, none⟩))] 67)) 84
  have HC := hide1 hn
  clear hn
  generalize hcn : n.cn = c
  obtain ⟨d0, d1, d2, d3, d4, d5, d6, d7⟩ := c
  have HV := hide1 hcn
  clear hcn
  have hbb : Below w.heap.size w ((w.alloc (.cells #[.iface n.ty (.pointer (some ⟨n.blk, 0, none⟩))] 67)).alloc (.cells #[.int .i64 0, .int .i64 0, .int .i64 0, .int .i64 0, .int .i64 0, .int .i64 0, .int .i64 0, .int .i64 0] 84)) := ((Below.refl _ _).alloc (Nat.le_refl _) _).alloc (by simp) _
  have HB := hide1 hbb
  clear hbb
  simp only [Cn.val]
  go_wp2_with fail
  refine (counts_any ⟨d0, d1, d2, d3, d4, d5, d6, d7⟩ _).mono ?_
  rintro e w' ⟨rfl, hb⟩
  have hk := HC.out.below hb
  have hs1 : (w.alloc (.cells #[.iface n.ty (.pointer (some ⟨n.blk, 0, none⟩))] 67)).heap.size = w.heap.size + 1 := by simp
  rw [hs1] at hk
  obtain ⟨c0, c1, c2, c3, c4, c5, c6, c7, fr⟩ := hk
  have f0 := fr 0
  have f1 := fr 1
  have f2 := fr 2
  have f3 := fr 3
  have f4 := fr 4
  have f5 := fr 5
  have f6 := fr 6
  have f7 := fr 7
  have hb' := HB.out.trans (hb.mono HB.out.size)
  clear fr HC HN HB hb hs1
  simp only [Cn.val] at *
  go_wp2_with fail
  refine bodyPost_ret (v := .agg #[.int .i64 d0, .int .i64 d1, .int .i64 d2, .int .i64 d3, .int .i64 d4, .int .i64 d5, .int .i64 d6, .int .i64 d7]) (by simp [results, Tryd.results41, go_sem, c0, c1, c2, c3, c4, c5, c6, c7]) rfl ⟨?_, ?_⟩
  · rw [HV.out]; rfl
  · exact eight_below hb' (Nat.le_succ _) _ _ _ _ _ _ _ _
set_option maxRecDepth 100000 in
set_option maxHeartbeats 1000000 in
theorem tcounts_nil (w : World) :
    Calls Tryd.prog 41 #[.agg #[.nilIface]] w fun e w' => e = .returned (Cn.mk 0 0 0 0 0 0 0 0).val ∧ Below w.heap.size w w' := by
  simp only [Cn.val]
  go_enter Tryd.func41, Tryd.ntmps41
  go_wp2
  refine bodyPost_ret (v := .agg #[.int .i64 0, .int .i64 0, .int .i64 0, .int .i64 0, .int .i64 0, .int .i64 0, .int .i64 0, .int .i64 0]) (by simp [results, Tryd.results41, go_sem]) rfl ⟨rfl, ?_⟩
  go_grown
end Go.Proofs.YtjbfgnhkgjigpaaDoor

namespace Go.Proofs.YtjbfgnhkgjigpaaDoor
open Go.RowKit

theorem above_fin (n m : Nd) (w w5 : World) (o : Obj) (c : Cn) (x : Nat) (hp : n.cn.plus m.cn = c) (hx : max n.lev m.lev = x) (hn : n.In w5) (hm : m.In w5) (hb : Below w.heap.size w w5) :
    ∃ B, Ending.returned (.iface 157 (.pointer (some ⟨w5.heap.size + 1, 0, none⟩))) = .returned (Nd.inner B (n.cn.plus m.cn) (1 + max n.lev m.lev) n m).val ∧ w.heap.size ≤ B ∧
      (Nd.inner B (n.cn.plus m.cn) (1 + max n.lev m.lev) n m).In ((w5.alloc o).alloc (.cells #[.int .i64 c.body, .int .i64 c.bytes, .int .i64 c.chars, .int .i64 c.units, .int .i64 c.esc, .int .i64 c.lf, .int .i64 c.crlf, .int .i64 c.cr, .int .i64 (1 + (x : Int)), .iface n.ty (.pointer (some ⟨n.blk, 0, none⟩)), .iface m.ty (.pointer (some ⟨m.blk, 0, none⟩))] 159)) ∧
      Below w.heap.size w ((w5.alloc o).alloc (.cells #[.int .i64 c.body, .int .i64 c.bytes, .int .i64 c.chars, .int .i64 c.units, .int .i64 c.esc, .int .i64 c.lf, .int .i64 c.crlf, .int .i64 c.cr, .int .i64 (1 + (x : Int)), .iface n.ty (.pointer (some ⟨n.blk, 0, none⟩)), .iface m.ty (.pointer (some ⟨m.blk, 0, none⟩))] 159)) := by
  subst hp hx
  have hz := hb.size
  refine ⟨w5.heap.size + 1, rfl, by omega, ⟨?_, ?_, ?_⟩, ?_⟩
  · rw [n.val_eq, m.val_eq]
    have h := Go.Deep.blk_alloc_new (w5.alloc o) (.cells #[.int .i64 (n.cn.plus m.cn).body, .int .i64 (n.cn.plus m.cn).bytes, .int .i64 (n.cn.plus m.cn).chars, .int .i64 (n.cn.plus m.cn).units, .int .i64 (n.cn.plus m.cn).esc, .int .i64 (n.cn.plus m.cn).lf, .int .i64 (n.cn.plus m.cn).crlf, .int .i64 (n.cn.plus m.cn).cr, .int .i64 (1 + ((max n.lev m.lev : Nat) : Int)), .iface n.ty (.pointer (some ⟨n.blk, 0, none⟩)), .iface m.ty (.pointer (some ⟨m.blk, 0, none⟩))] 159)
    rw [World.size_alloc] at h
    exact h
  · exact Nd.low (((Below.refl _ _).alloc (Nat.le_refl _) _).alloc (by simp) _) hn
  · exact Nd.low (((Below.refl _ _).alloc (Nat.le_refl _) _).alloc (by simp) _) hm
  · exact (hb.alloc hz _).alloc (by simp; omega) _
set_option maxRecDepth 100000 in
set_option maxHeartbeats 1000000 in
theorem above_any (n m : Nd) (w : World) (hn : n.In w) (hm : m.In w) (sn : n.cn.Small) (sm : m.cn.Small) (ln : n.lev ≤ 1152921504606846976) (lm : m.lev ≤ 1152921504606846976) :
    Calls Tryd.prog 94 #[n.val, m.val] w fun e w' => ∃ B, e = .returned (Nd.inner B (n.cn.plus m.cn) (1 + max n.lev m.lev) n m).val ∧ w.heap.size ≤ B ∧ (Nd.inner B (n.cn.plus m.cn) (1 + max n.lev m.lev) n m).In w' ∧ Below w.heap.size w w' := by
  rw [n.val_eq, m.val_eq]
  have hz := Nd.blk_lt hn
  have hz2 := Nd.blk_lt hm
  have HN := hide1 hn
  have HM := hide1 hm
  clear hn hm
  go_enter Tryd.func94, Tryd.ntmps94
  go_wp2_with fail
  rw [meth_counts n 292 _ HN.out]
  go_wp2_with fail
  refine (counts_any n.cn _).mono ?_
  rintro e w1 ⟨rfl, hb1⟩
  have HN1 := hide1 (Nd.low hb1 HN.out)
  have HM1 := hide1 (Nd.low hb1 HM.out)
  go_wp2_with fail
  rw [meth_counts m 292 _ HM1.out]
  go_wp2_with fail
  refine (counts_any m.cn _).mono ?_
  rintro e w2 ⟨rfl, hb2⟩
  have HN2 := hide1 (Nd.low hb2 HN1.out)
  have HM2 := hide1 (Nd.low hb2 HM1.out)
  go_wp2_with fail
  refine (plus_any n.cn m.cn _ sn sm).mono ?_
  rintro e w3 ⟨rfl, hb3⟩
  have HN3 := hide1 (Nd.low hb3 HN2.out)
  have HM3 := hide1 (Nd.low hb3 HM2.out)
  have hb3' : Below w.heap.size w w3 := (hb1.trans (hb2.mono hb1.size)).trans (hb3.mono (Nat.le_trans hb1.size hb2.size))
  clear HN HM HN1 HM1 HN2 HM2 hb1 hb2 hb3
  clear w1 w2
  go_wp2_with fail
  rw [meth_level n 292 _ HN3.out]
  go_wp2_with fail
  refine (level_any n.cn n.lev _).mono ?_
  rintro e w4 ⟨rfl, hb4⟩
  have HN4 := hide1 (Nd.low hb4 HN3.out)
  have HM4 := hide1 (Nd.low hb4 HM3.out)
  go_wp2_with fail
  rw [meth_level m 292 _ HM4.out]
  go_wp2_with fail
  refine (level_any m.cn m.lev _).mono ?_
  rintro e w5 ⟨rfl, hb5⟩
  have HN5 := hide1 (Nd.low hb5 HN4.out)
  have HM5 := hide1 (Nd.low hb5 HM4.out)
  have HB5 := hide1 ((hb3'.trans (hb4.mono hb3'.size)).trans (hb5.mono (Nat.le_trans hb3'.size hb4.size)))
  clear HN3 HM3 HN4 HM4 hb3' hb4 hb5
  clear w3 w4
  generalize hp : n.cn.plus m.cn = p
  have HP := hide1 hp
  clear hp
  obtain ⟨d0, d1, d2, d3, d4, d5, d6, d7⟩ := p
  simp only [Cn.val]
  generalize hk : n.lev = k at *
  generalize hj : m.lev = j at *
  have HK := hide1 hk
  have HJ := hide1 hj
  clear hk hj
  clear sn sm
  go_wp2_with fail
  · go_ret
    exact above_fin n m w w5 _ _ j HP.out (by rw [HK.out, HJ.out]; omega) HN5.out HM5.out HB5.out
  · go_ret
    exact above_fin n m w w5 _ _ k HP.out (by rw [HK.out, HJ.out]; omega) HN5.out HM5.out HB5.out
end Go.Proofs.YtjbfgnhkgjigpaaDoor

namespace Go.Proofs.YtjbfgnhkgjigpaaDoor
open Go.RowKit

theorem Cn.plus_assoc (a b c : Cn) : (a.plus b).plus c = a.plus (b.plus c) := by simp [Cn.plus, Nat.add_assoc]
theorem Cn.Small.left {a b : Cn} (h : (a.plus b).Small) : a.Small := by
  obtain ⟨h0, h1, h2, h3, h4, h5, h6, h7⟩ := h
  simp only [Cn.plus] at *
  constructor <;> omega
theorem Cn.Small.right {a b : Cn} (h : (a.plus b).Small) : b.Small := by
  obtain ⟨h0, h1, h2, h3, h4, h5, h6, h7⟩ := h
  simp only [Cn.plus] at *
  constructor <;> omega
theorem Nd.lev_row : ∀ {n : Nd}, n.Ok → n.lev < n.row.length
  | .leaf _ _ _, _ => by simp [Nd.lev, Nd.row]
  | .inner _ _ h l r, ⟨_, hh, hl, hr⟩ => by
    have := Nd.lev_row hl
    have := Nd.lev_row hr
    simp only [Nd.lev, Nd.row, List.length_append] at *
    omega
/-- What making one tree of two gives. -/
structure Made (n m : Nd) (w : World) (e : Ending) (w' : World) (r : Nd) : Prop where
  val : e = .returned r.val
  inn : r.In w'
  ok : r.Ok
  cn : r.cn = n.cn.plus m.cn
  row : r.row = n.row ++ m.row
  lo : max n.lev m.lev ≤ r.lev
  up : r.lev ≤ 1 + max n.lev m.lev
  below : Below w.heap.size w w'

/-- Two nodes, through the steps of a walk. -/
structure Two (n m : Nd) (w0 w : World) : Prop where
  n : n.In w
  m : m.In w
  b : Below w0.heap.size w0 w
theorem Two.step {n m : Nd} {w0 w w1 : World} (h : Two n m w0 w) (hb : Below w.heap.size w w1) : Two n m w0 w1 :=
  ⟨Nd.low hb h.n, Nd.low hb h.m, h.b.trans (hb.mono h.b.size)⟩
theorem above_made {n m : Nd} {w w' : World} {B : Nat} (on : n.Ok) (om : m.Ok) (hi : (Nd.inner B (n.cn.plus m.cn) (1 + max n.lev m.lev) n m).In w') (hb : Below w.heap.size w w') (e : Ending) (he : e = .returned (Nd.inner B (n.cn.plus m.cn) (1 + max n.lev m.lev) n m).val) :
    Made n m w e w' (.inner B (n.cn.plus m.cn) (1 + max n.lev m.lev) n m) :=
  ⟨he, hi, ⟨rfl, rfl, on, om⟩, rfl, rfl, by simp only [Nd.lev]; omega, by simp only [Nd.lev]; omega, hb⟩

set_option maxRecDepth 100000 in
set_option maxHeartbeats 1000000 in
theorem leveled_C (n m : Nd) (w : World) (hn : n.In w) (hm : m.In w) (on : n.Ok) (om : m.Ok) (hs : (n.cn.plus m.cn).Small) (hr : n.row.length + m.row.length ≤ 1152921504606846976) (h1 : n.lev ≤ m.lev + 1) (h2 : m.lev ≤ n.lev + 1) :
    Calls Tryd.prog 93 #[n.val, m.val] w fun e w' => ∃ r, Made n m w e w' r := by
  have l1 := Nd.lev_row on
  have l2 := Nd.lev_row om
  have HA := hide1 (fun w1 (hn : n.In w1) (hm : m.In w1) => above_any n m w1 hn hm hs.left hs.right (by omega) (by omega))
  have HO := hide1 on
  have HO2 := hide1 om
  have H := hide1 (Two.mk hn hm (Below.refl w.heap.size w))
  rw [n.val_eq, m.val_eq] at *
  generalize hk : n.lev = k at l1 l2 h1 h2
  generalize hj : m.lev = j at l1 l2 h1 h2
  have HK := hide1 hk
  have HJ := hide1 hj
  clear hk hj hn hm on om
  go_enter Tryd.func93, Tryd.ntmps93
  go_wp2_with fail
  rw [meth_level n 292 _ H.out.n, HK.out]
  go_wp2_with fail
  refine (level_any n.cn k _).mono ?_
  rintro e w1 ⟨rfl, hb⟩
  replace H := hide1 (H.out.step hb)
  clear hb
  go_wp2_with fail
  rw [meth_level m 292 _ H.out.m, HJ.out]
  go_wp2_with fail
  refine (level_any m.cn j _).mono ?_
  rintro e w2 ⟨rfl, hb⟩
  replace H := hide1 (H.out.step hb)
  clear hb w1
  go_wp2_with fail
  rw [meth_level m 292 _ H.out.m, HJ.out]
  go_wp2_with fail
  refine (level_any m.cn j _).mono ?_
  rintro e w1 ⟨rfl, hb⟩
  replace H := hide1 (H.out.step hb)
  clear hb w2
  go_wp2_with fail
  rw [meth_level n 292 _ H.out.n, HK.out]
  go_wp2_with fail
  refine (level_any n.cn k _).mono ?_
  rintro e w2 ⟨rfl, hb⟩
  replace H := hide1 (H.out.step hb)
  clear hb w1
  go_wp2_with fail
  refine (HA.out _ H.out.n H.out.m).mono ?_
  rintro e w3 ⟨B, rfl, hB, hi, hb⟩
  have hb3 := H.out.b.trans (hb.mono H.out.b.size)
  go_wp2_with fail
  go_ret
  exact ⟨_, above_made HO.out HO2.out hi hb3 _ rfl⟩
end Go.Proofs.YtjbfgnhkgjigpaaDoor

namespace Go.Proofs.YtjbfgnhkgjigpaaDoor
open Go.RowKit

theorem assert_inner (v : Value) (w : World) : (Instr.typeAssert (.iface 157 v) 65 157 false).run Tryd.prog w = .ok v w := by kernel_rfl
theorem inner_at {B : Nat} {c : Cn} {k : Nat} {l r : Nd} {w : World} (h : (Nd.inner B c k l r).In w) : w.cell? ⟨B, 9, none⟩ = some (.iface l.ty (.pointer (some ⟨l.blk, 0, none⟩))) ∧ w.cell? ⟨B, 10, none⟩ = some (.iface r.ty (.pointer (some ⟨r.blk, 0, none⟩))) := by
  have h1 := h.1
  rw [l.val_eq, r.val_eq] at h1
  constructor
  · rw [Lib.cell_of_heap h1]; rfl
  · rw [Lib.cell_of_heap h1]; rfl

theorem above_val (n m : Nd) (w : World) (hn : n.In w) (hm : m.In w) (sn : n.cn.Small) (sm : m.cn.Small) (ln : n.lev ≤ 1152921504606846976) (lm : m.lev ≤ 1152921504606846976) :
    Calls Tryd.prog 94 #[.iface n.ty (.pointer (some ⟨n.blk, 0, none⟩)), .iface m.ty (.pointer (some ⟨m.blk, 0, none⟩))] w fun e w' => ∃ B, e = .returned (.iface 157 (.pointer (some ⟨B, 0, none⟩))) ∧ (Nd.inner B (n.cn.plus m.cn) (1 + max n.lev m.lev) n m).In w' ∧ Below w.heap.size w w' := by
  rw [← n.val_eq, ← m.val_eq]
  refine (above_any n m w hn hm sn sm ln lm).mono ?_
  rintro e w' ⟨B, rfl, _, hi, hb⟩
  exact ⟨B, rfl, hi, hb⟩
theorem made_A1 {Bn B1 B2 h : Nat} {c : Cn} {l r m : Nd} {w w' : World} (on : (Nd.inner Bn c h l r).Ok) (om : m.Ok) (h1 : m.lev + 1 < h) (h2 : r.lev ≤ l.lev)
    (hi : (Nd.inner B2 (l.cn.plus (r.cn.plus m.cn)) (1 + max l.lev (1 + max r.lev m.lev)) l (Nd.inner B1 (r.cn.plus m.cn) (1 + max r.lev m.lev) r m)).In w') (hb : Below w.heap.size w w') :
    Made (Nd.inner Bn c h l r) m w (.returned (.iface 157 (.pointer (some ⟨B2, 0, none⟩)))) w' (Nd.inner B2 (l.cn.plus (r.cn.plus m.cn)) (1 + max l.lev (1 + max r.lev m.lev)) l (Nd.inner B1 (r.cn.plus m.cn) (1 + max r.lev m.lev) r m)) := by
  obtain ⟨hc, hh, ol, or⟩ := on
  refine ⟨rfl, hi, ⟨rfl, rfl, ol, rfl, rfl, or, om⟩, ?_, ?_, ?_, ?_, hb⟩
  · show _ = c.plus m.cn
    rw [hc, Cn.plus_assoc]; rfl
  · simp [Nd.row]
  · show max h m.lev ≤ 1 + max l.lev (1 + max r.lev m.lev)
    omega
  · show 1 + max l.lev (1 + max r.lev m.lev) ≤ 1 + max h m.lev
    omega
section
variable {Bn : Nat} {c : Cn} {h : Nat} {l r m : Nd} {w w1 w2 : World}
theorem A_start (H : Two (Nd.inner Bn c h l r) m w w1) : w1.cell? ⟨Bn, 9, none⟩ = some (.iface l.ty (.pointer (some ⟨l.blk, 0, none⟩))) ∧ w1.cell? ⟨Bn, 10, none⟩ = some (.iface r.ty (.pointer (some ⟨r.blk, 0, none⟩))) ∧ Two (Nd.inner Bn c h l r) m w w1 :=
  ⟨(inner_at H.n).1, (inner_at H.n).2, H⟩
theorem A_step (H : w1.cell? ⟨Bn, 9, none⟩ = some (.iface l.ty (.pointer (some ⟨l.blk, 0, none⟩))) ∧ w1.cell? ⟨Bn, 10, none⟩ = some (.iface r.ty (.pointer (some ⟨r.blk, 0, none⟩))) ∧ Two (Nd.inner Bn c h l r) m w w1) (hb : Below w1.heap.size w1 w2) :
    w2.cell? ⟨Bn, 9, none⟩ = some (.iface l.ty (.pointer (some ⟨l.blk, 0, none⟩))) ∧ w2.cell? ⟨Bn, 10, none⟩ = some (.iface r.ty (.pointer (some ⟨r.blk, 0, none⟩))) ∧ Two (Nd.inner Bn c h l r) m w w2 := A_start (H.2.2.step hb)
theorem A_drew (H : w1.cell? ⟨Bn, 9, none⟩ = some (.iface l.ty (.pointer (some ⟨l.blk, 0, none⟩))) ∧ w1.cell? ⟨Bn, 10, none⟩ = some (.iface r.ty (.pointer (some ⟨r.blk, 0, none⟩))) ∧ Two (Nd.inner Bn c h l r) m w w1) :
    w1.drew.cell? ⟨Bn, 9, none⟩ = some (.iface l.ty (.pointer (some ⟨l.blk, 0, none⟩))) ∧ w1.drew.cell? ⟨Bn, 10, none⟩ = some (.iface r.ty (.pointer (some ⟨r.blk, 0, none⟩))) ∧ Two (Nd.inner Bn c h l r) m w w1.drew := A_step H ((Below.refl _ _).drew)
theorem A_l (H : w1.cell? ⟨Bn, 9, none⟩ = some (.iface l.ty (.pointer (some ⟨l.blk, 0, none⟩))) ∧ w1.cell? ⟨Bn, 10, none⟩ = some (.iface r.ty (.pointer (some ⟨r.blk, 0, none⟩))) ∧ Two (Nd.inner Bn c h l r) m w w1) : l.In w1 := H.2.2.n.2.1
theorem A_r (H : w1.cell? ⟨Bn, 9, none⟩ = some (.iface l.ty (.pointer (some ⟨l.blk, 0, none⟩))) ∧ w1.cell? ⟨Bn, 10, none⟩ = some (.iface r.ty (.pointer (some ⟨r.blk, 0, none⟩))) ∧ Two (Nd.inner Bn c h l r) m w w1) : r.In w1 := H.2.2.n.2.2
theorem A_m (H : w1.cell? ⟨Bn, 9, none⟩ = some (.iface l.ty (.pointer (some ⟨l.blk, 0, none⟩))) ∧ w1.cell? ⟨Bn, 10, none⟩ = some (.iface r.ty (.pointer (some ⟨r.blk, 0, none⟩))) ∧ Two (Nd.inner Bn c h l r) m w w1) : m.In w1 := H.2.2.m
end
set_option maxRecDepth 100000 in
set_option maxHeartbeats 1000000 in
theorem leveled_A1 (Bn : Nat) (c : Cn) (h : Nat) (l r m : Nd) (w : World) (hn : (Nd.inner Bn c h l r).In w) (hm : m.In w) (on : (Nd.inner Bn c h l r).Ok) (om : m.Ok) (hs : (c.plus m.cn).Small) (hr : (Nd.inner Bn c h l r).row.length + m.row.length ≤ 1152921504606846976) (h1 : m.lev + 1 < h) (h2 : r.lev ≤ l.lev) :
    Calls Tryd.prog 93 #[(Nd.inner Bn c h l r).val, m.val] w fun e w' => ∃ q, Made (Nd.inner Bn c h l r) m w e w' q := by
  have l1 := Nd.lev_row on
  have l2 := Nd.lev_row om
  have l3 := Nd.lev_row on.2.2.1
  have l4 := Nd.lev_row on.2.2.2
  have hrow : (Nd.inner Bn c h l r).row.length = l.row.length + r.row.length := by simp [Nd.row]
  have HO := hide1 on
  have HO2 := hide1 om
  have H := hide1 (Two.mk hn hm (Below.refl w.heap.size w))
  have hcc : c.plus m.cn = l.cn.plus (r.cn.plus m.cn) := by rw [on.1, Cn.plus_assoc]
  rw [hcc] at hs
  have HA1 := hide1 (fun w1 (hn : r.In w1) (hm : m.In w1) => above_val r m w1 hn hm hs.right.left hs.right.right (by omega) (by omega))
  have HA2 := hide1 (fun B1 w1 (hn : l.In w1) (hm : (Nd.inner B1 (r.cn.plus m.cn) (1 + max r.lev m.lev) r m).In w1) => above_val l (Nd.inner B1 (r.cn.plus m.cn) (1 + max r.lev m.lev) r m) w1 hn hm hs.left hs.right (by omega) (by show 1 + max r.lev m.lev ≤ _; omega))
  have HQ := hide1 (fun B1 B2 w' => @made_A1 Bn B1 B2 h c l r m w w' on om h1 h2)
  clear hcc hs
  have HT := hide1 (@Nd.val_eq (Nd.inner Bn c h l r))
  rw [m.val_eq]
  simp only [Nd.val]
  generalize hj : m.lev = j at l2 h1
  have HJ := hide1 hj
  clear hj hn hm on om
  have ta := assert_inner
  go_enter Tryd.func93, Tryd.ntmps93
  go_wp2_with fail
  rw [show (method 293 157 (.pointer (some ⟨Bn, 0, none⟩)) "vellum/atoms.level").run Tryd.prog _ = _ from meth_level (Nd.inner Bn c h l r) 292 _ H.out.n]
  go_wp2_with fail
  refine (level_any c h _).mono ?_
  rintro e w1 ⟨rfl, hb⟩
  replace H := hide1 (H.out.step hb)
  clear hb
  go_wp2_with fail
  rw [meth_level m 292 _ H.out.m, HJ.out]
  go_wp2_with fail
  refine (level_any m.cn j _).mono ?_
  rintro e w2 ⟨rfl, hb⟩
  replace H := hide1 (H.out.step hb)
  clear hb w1
  have hS := A_start H.out
  obtain ⟨p9, p10⟩ := inner_at H.out.n
  generalize hlk : l.lev = lk at *
  generalize hrk : r.lev = rk at *
  have HLK := hide1 hlk
  have HRK := hide1 hrk
  clear hlk hrk
  go_wp2_with fail
  go_region_held3 (fun w' => w'.cell? ⟨Bn, 9, none⟩ = some (.iface l.ty (.pointer (some ⟨l.blk, 0, none⟩))) ∧ w'.cell? ⟨Bn, 10, none⟩ = some (.iface r.ty (.pointer (some ⟨r.blk, 0, none⟩))) ∧ Two (Nd.inner Bn c h l r) m w w')
    (first | assumption | exact A_drew (by assumption))
    (first
      | rw [meth_level l 292 _ (A_l (by assumption)), HLK.out]
      | rw [meth_level r 292 _ (A_r (by assumption)), HRK.out]
      | (go_at_call 132; first | (refine (level_any l.cn lk _).mono ?_; rintro e w3 ⟨rfl, hb3⟩; have hS3 := A_step (by assumption) hb3) | (refine (level_any r.cn rk _).mono ?_; rintro e w4 ⟨rfl, hb4⟩; have hS4 := A_step (by assumption) hb4)))
  clear p9 p10
  obtain ⟨p9, p10, _⟩ := hS4
  go_wp2_with fail
  go_region_held3 (fun w' => w'.cell? ⟨Bn, 9, none⟩ = some (.iface l.ty (.pointer (some ⟨l.blk, 0, none⟩))) ∧ w'.cell? ⟨Bn, 10, none⟩ = some (.iface r.ty (.pointer (some ⟨r.blk, 0, none⟩))) ∧ Two (Nd.inner Bn c h l r) m w w')
    (first | assumption | exact A_drew (by assumption))
    (first
      | (go_at_call 94; first | (refine (HA2.out B1 _ (A_l (by assumption)) (by assumption)).mono ?_; rintro e w6 ⟨B2, rfl, hi6, hb6⟩; have hS6 := A_step (by assumption) hb6) | (refine (HA1.out _ (A_r (by assumption)) (A_m (by assumption))).mono ?_; rintro e w5 ⟨B1, rfl, hi5, hb5⟩; have hS5 := A_step (by assumption) hb5)))
  go_wp2_with fail
  go_ret
  exact ⟨_, HQ.out B1 B2 w6 hi6 hS6.2.2.b⟩
end Go.Proofs.YtjbfgnhkgjigpaaDoor

namespace Go.Proofs.YtjbfgnhkgjigpaaDoor
open Go.RowKit

theorem made_A2 {Bn Br B1 B2 B3 h hr : Nat} {c cr : Cn} {l rl rr m : Nd} {w w' : World} (on : (Nd.inner Bn c h l (Nd.inner Br cr hr rl rr)).Ok) (om : m.Ok) (h1 : m.lev + 1 < h) (h2 : l.lev < hr)
    (hi : (Nd.inner B3 ((l.cn.plus rl.cn).plus (rr.cn.plus m.cn)) (1 + max (1 + max l.lev rl.lev) (1 + max rr.lev m.lev)) (Nd.inner B1 (l.cn.plus rl.cn) (1 + max l.lev rl.lev) l rl) (Nd.inner B2 (rr.cn.plus m.cn) (1 + max rr.lev m.lev) rr m)).In w') (hb : Below w.heap.size w w') :
    Made (Nd.inner Bn c h l (Nd.inner Br cr hr rl rr)) m w (.returned (.iface 157 (.pointer (some ⟨B3, 0, none⟩)))) w' (Nd.inner B3 ((l.cn.plus rl.cn).plus (rr.cn.plus m.cn)) (1 + max (1 + max l.lev rl.lev) (1 + max rr.lev m.lev)) (Nd.inner B1 (l.cn.plus rl.cn) (1 + max l.lev rl.lev) l rl) (Nd.inner B2 (rr.cn.plus m.cn) (1 + max rr.lev m.lev) rr m)) := by
  obtain ⟨hc, hh, ol, hcr, hhr, orl, orr⟩ := on
  refine ⟨rfl, hi, ⟨rfl, rfl, ⟨rfl, rfl, ol, orl⟩, rfl, rfl, orr, om⟩, ?_, ?_, ?_, ?_, hb⟩
  · show _ = c.plus m.cn
    rw [hc]
    show (l.cn.plus rl.cn).plus (rr.cn.plus m.cn) = (l.cn.plus cr).plus m.cn
    rw [hcr, Cn.plus_assoc, Cn.plus_assoc, Cn.plus_assoc]
  · simp [Nd.row]
  · show max h m.lev ≤ 1 + max (1 + max l.lev rl.lev) (1 + max rr.lev m.lev)
    have hh' : h = 1 + max l.lev hr := hh
    omega
  · show 1 + max (1 + max l.lev rl.lev) (1 + max rr.lev m.lev) ≤ 1 + max h m.lev
    have hh' : h = 1 + max l.lev hr := hh
    omega
section
variable {Bn Br : Nat} {c cr : Cn} {h hr : Nat} {l rl rr m : Nd} {w w1 w2 : World}
theorem A2_start (H : Two (Nd.inner Bn c h l (Nd.inner Br cr hr rl rr)) m w w1) : w1.cell? ⟨Bn, 9, none⟩ = some (.iface l.ty (.pointer (some ⟨l.blk, 0, none⟩))) ∧ w1.cell? ⟨Bn, 10, none⟩ = some (.iface 157 (.pointer (some ⟨Br, 0, none⟩))) ∧ w1.cell? ⟨Br, 9, none⟩ = some (.iface rl.ty (.pointer (some ⟨rl.blk, 0, none⟩))) ∧ w1.cell? ⟨Br, 10, none⟩ = some (.iface rr.ty (.pointer (some ⟨rr.blk, 0, none⟩))) ∧ Two (Nd.inner Bn c h l (Nd.inner Br cr hr rl rr)) m w w1 :=
  ⟨(inner_at H.n).1, (inner_at H.n).2, (inner_at H.n.2.2).1, (inner_at H.n.2.2).2, H⟩
theorem A2_step (H : w1.cell? ⟨Bn, 9, none⟩ = some (.iface l.ty (.pointer (some ⟨l.blk, 0, none⟩))) ∧ w1.cell? ⟨Bn, 10, none⟩ = some (.iface 157 (.pointer (some ⟨Br, 0, none⟩))) ∧ w1.cell? ⟨Br, 9, none⟩ = some (.iface rl.ty (.pointer (some ⟨rl.blk, 0, none⟩))) ∧ w1.cell? ⟨Br, 10, none⟩ = some (.iface rr.ty (.pointer (some ⟨rr.blk, 0, none⟩))) ∧ Two (Nd.inner Bn c h l (Nd.inner Br cr hr rl rr)) m w w1) (hb : Below w1.heap.size w1 w2) : w2.cell? ⟨Bn, 9, none⟩ = some (.iface l.ty (.pointer (some ⟨l.blk, 0, none⟩))) ∧ w2.cell? ⟨Bn, 10, none⟩ = some (.iface 157 (.pointer (some ⟨Br, 0, none⟩))) ∧ w2.cell? ⟨Br, 9, none⟩ = some (.iface rl.ty (.pointer (some ⟨rl.blk, 0, none⟩))) ∧ w2.cell? ⟨Br, 10, none⟩ = some (.iface rr.ty (.pointer (some ⟨rr.blk, 0, none⟩))) ∧ Two (Nd.inner Bn c h l (Nd.inner Br cr hr rl rr)) m w w2 := A2_start (H.2.2.2.2.step hb)
theorem A2_drew (H : w1.cell? ⟨Bn, 9, none⟩ = some (.iface l.ty (.pointer (some ⟨l.blk, 0, none⟩))) ∧ w1.cell? ⟨Bn, 10, none⟩ = some (.iface 157 (.pointer (some ⟨Br, 0, none⟩))) ∧ w1.cell? ⟨Br, 9, none⟩ = some (.iface rl.ty (.pointer (some ⟨rl.blk, 0, none⟩))) ∧ w1.cell? ⟨Br, 10, none⟩ = some (.iface rr.ty (.pointer (some ⟨rr.blk, 0, none⟩))) ∧ Two (Nd.inner Bn c h l (Nd.inner Br cr hr rl rr)) m w w1) : w1.drew.cell? ⟨Bn, 9, none⟩ = some (.iface l.ty (.pointer (some ⟨l.blk, 0, none⟩))) ∧ w1.drew.cell? ⟨Bn, 10, none⟩ = some (.iface 157 (.pointer (some ⟨Br, 0, none⟩))) ∧ w1.drew.cell? ⟨Br, 9, none⟩ = some (.iface rl.ty (.pointer (some ⟨rl.blk, 0, none⟩))) ∧ w1.drew.cell? ⟨Br, 10, none⟩ = some (.iface rr.ty (.pointer (some ⟨rr.blk, 0, none⟩))) ∧ Two (Nd.inner Bn c h l (Nd.inner Br cr hr rl rr)) m w w1.drew := A2_step H ((Below.refl _ _).drew)
theorem A2_l (H : w1.cell? ⟨Bn, 9, none⟩ = some (.iface l.ty (.pointer (some ⟨l.blk, 0, none⟩))) ∧ w1.cell? ⟨Bn, 10, none⟩ = some (.iface 157 (.pointer (some ⟨Br, 0, none⟩))) ∧ w1.cell? ⟨Br, 9, none⟩ = some (.iface rl.ty (.pointer (some ⟨rl.blk, 0, none⟩))) ∧ w1.cell? ⟨Br, 10, none⟩ = some (.iface rr.ty (.pointer (some ⟨rr.blk, 0, none⟩))) ∧ Two (Nd.inner Bn c h l (Nd.inner Br cr hr rl rr)) m w w1) : l.In w1 := H.2.2.2.2.n.2.1
theorem A2_r (H : w1.cell? ⟨Bn, 9, none⟩ = some (.iface l.ty (.pointer (some ⟨l.blk, 0, none⟩))) ∧ w1.cell? ⟨Bn, 10, none⟩ = some (.iface 157 (.pointer (some ⟨Br, 0, none⟩))) ∧ w1.cell? ⟨Br, 9, none⟩ = some (.iface rl.ty (.pointer (some ⟨rl.blk, 0, none⟩))) ∧ w1.cell? ⟨Br, 10, none⟩ = some (.iface rr.ty (.pointer (some ⟨rr.blk, 0, none⟩))) ∧ Two (Nd.inner Bn c h l (Nd.inner Br cr hr rl rr)) m w w1) : (Nd.inner Br cr hr rl rr).In w1 := H.2.2.2.2.n.2.2
theorem A2_rl (H : w1.cell? ⟨Bn, 9, none⟩ = some (.iface l.ty (.pointer (some ⟨l.blk, 0, none⟩))) ∧ w1.cell? ⟨Bn, 10, none⟩ = some (.iface 157 (.pointer (some ⟨Br, 0, none⟩))) ∧ w1.cell? ⟨Br, 9, none⟩ = some (.iface rl.ty (.pointer (some ⟨rl.blk, 0, none⟩))) ∧ w1.cell? ⟨Br, 10, none⟩ = some (.iface rr.ty (.pointer (some ⟨rr.blk, 0, none⟩))) ∧ Two (Nd.inner Bn c h l (Nd.inner Br cr hr rl rr)) m w w1) : rl.In w1 := H.2.2.2.2.n.2.2.2.1
theorem A2_rr (H : w1.cell? ⟨Bn, 9, none⟩ = some (.iface l.ty (.pointer (some ⟨l.blk, 0, none⟩))) ∧ w1.cell? ⟨Bn, 10, none⟩ = some (.iface 157 (.pointer (some ⟨Br, 0, none⟩))) ∧ w1.cell? ⟨Br, 9, none⟩ = some (.iface rl.ty (.pointer (some ⟨rl.blk, 0, none⟩))) ∧ w1.cell? ⟨Br, 10, none⟩ = some (.iface rr.ty (.pointer (some ⟨rr.blk, 0, none⟩))) ∧ Two (Nd.inner Bn c h l (Nd.inner Br cr hr rl rr)) m w w1) : rr.In w1 := H.2.2.2.2.n.2.2.2.2
theorem A2_m (H : w1.cell? ⟨Bn, 9, none⟩ = some (.iface l.ty (.pointer (some ⟨l.blk, 0, none⟩))) ∧ w1.cell? ⟨Bn, 10, none⟩ = some (.iface 157 (.pointer (some ⟨Br, 0, none⟩))) ∧ w1.cell? ⟨Br, 9, none⟩ = some (.iface rl.ty (.pointer (some ⟨rl.blk, 0, none⟩))) ∧ w1.cell? ⟨Br, 10, none⟩ = some (.iface rr.ty (.pointer (some ⟨rr.blk, 0, none⟩))) ∧ Two (Nd.inner Bn c h l (Nd.inner Br cr hr rl rr)) m w w1) : m.In w1 := H.2.2.2.2.m
end
set_option maxRecDepth 100000 in
set_option maxHeartbeats 1000000 in
theorem leveled_A2 (Bn Br : Nat) (c cr : Cn) (h hr : Nat) (l rl rr m : Nd) (w : World) (hn : (Nd.inner Bn c h l (Nd.inner Br cr hr rl rr)).In w) (hm : m.In w) (on : (Nd.inner Bn c h l (Nd.inner Br cr hr rl rr)).Ok) (om : m.Ok) (hs : (c.plus m.cn).Small) (hrow : (Nd.inner Bn c h l (Nd.inner Br cr hr rl rr)).row.length + m.row.length ≤ 1152921504606846976) (h1 : m.lev + 1 < h) (h2 : l.lev < hr) :
    Calls Tryd.prog 93 #[(Nd.inner Bn c h l (Nd.inner Br cr hr rl rr)).val, m.val] w fun e w' => ∃ q, Made (Nd.inner Bn c h l (Nd.inner Br cr hr rl rr)) m w e w' q := by
  have l1 : h < _ := Nd.lev_row on
  have l2 := Nd.lev_row om
  have l3 := Nd.lev_row on.2.2.1
  have l4 := Nd.lev_row on.2.2.2.2.2.1
  have l5 := Nd.lev_row on.2.2.2.2.2.2
  have l6 : hr < _ := Nd.lev_row on.2.2.2
  have hrow2 : (Nd.inner Bn c h l (Nd.inner Br cr hr rl rr)).row.length = l.row.length + (rl.row.length + rr.row.length) := by simp [Nd.row]
  have H := hide1 (Two.mk hn hm (Below.refl w.heap.size w))
  have hcc : c.plus m.cn = (l.cn.plus rl.cn).plus (rr.cn.plus m.cn) := by
    have e1 : c = l.cn.plus cr := on.1
    have e2 : cr = rl.cn.plus rr.cn := on.2.2.2.1
    rw [e1, e2, Cn.plus_assoc, Cn.plus_assoc, Cn.plus_assoc]
  rw [hcc] at hs
  have HA1 := hide1 (fun w1 (hn : l.In w1) (hm : rl.In w1) => above_val l rl w1 hn hm hs.left.left hs.left.right (by omega) (by omega))
  have HA2 := hide1 (fun w1 (hn : rr.In w1) (hm : m.In w1) => above_val rr m w1 hn hm hs.right.left hs.right.right (by omega) (by omega))
  have HA3 := hide1 (fun B1 B2 w1 (hn : (Nd.inner B1 (l.cn.plus rl.cn) (1 + max l.lev rl.lev) l rl).In w1) (hm : (Nd.inner B2 (rr.cn.plus m.cn) (1 + max rr.lev m.lev) rr m).In w1) => above_val (Nd.inner B1 (l.cn.plus rl.cn) (1 + max l.lev rl.lev) l rl) (Nd.inner B2 (rr.cn.plus m.cn) (1 + max rr.lev m.lev) rr m) w1 hn hm hs.left hs.right (by show 1 + max l.lev rl.lev ≤ _; omega) (by show 1 + max rr.lev m.lev ≤ _; omega))
  have HQ := hide1 (fun B1 B2 B3 w' => @made_A2 Bn Br B1 B2 B3 h hr c cr l rl rr m w w' on om h1 h2)
  clear hcc hs
  rw [m.val_eq]
  simp only [Nd.val]
  generalize hj : m.lev = j at l2 h1
  have HJ := hide1 hj
  clear hj hn hm on om
  have ta := assert_inner
  go_enter Tryd.func93, Tryd.ntmps93
  go_wp2_with fail
  rw [show (method 293 157 (.pointer (some ⟨Bn, 0, none⟩)) "vellum/atoms.level").run Tryd.prog _ = _ from meth_level (Nd.inner Bn c h l (Nd.inner Br cr hr rl rr)) 292 _ H.out.n]
  go_wp2_with fail
  refine (level_any c h _).mono ?_
  rintro e w1 ⟨rfl, hb⟩
  replace H := hide1 (H.out.step hb)
  clear hb
  go_wp2_with fail
  rw [meth_level m 292 _ H.out.m, HJ.out]
  go_wp2_with fail
  refine (level_any m.cn j _).mono ?_
  rintro e w2 ⟨rfl, hb⟩
  replace H := hide1 (H.out.step hb)
  clear hb w1
  have hS := A2_start H.out
  obtain ⟨p9, p10, q9, q10, _⟩ := A2_start H.out
  generalize hlk : l.lev = lk at *
  have HLK := hide1 hlk
  clear hlk
  go_wp2_with fail
  go_region_held3 (fun w' => w'.cell? ⟨Bn, 9, none⟩ = some (.iface l.ty (.pointer (some ⟨l.blk, 0, none⟩))) ∧ w'.cell? ⟨Bn, 10, none⟩ = some (.iface 157 (.pointer (some ⟨Br, 0, none⟩))) ∧ w'.cell? ⟨Br, 9, none⟩ = some (.iface rl.ty (.pointer (some ⟨rl.blk, 0, none⟩))) ∧ w'.cell? ⟨Br, 10, none⟩ = some (.iface rr.ty (.pointer (some ⟨rr.blk, 0, none⟩))) ∧ Two (Nd.inner Bn c h l (Nd.inner Br cr hr rl rr)) m w w')
    (first | assumption | exact A2_drew (by assumption))
    (first
      | rw [meth_level l 292 _ (A2_l (by assumption)), HLK.out]
      | rw [show (method 293 157 (.pointer (some ⟨Br, 0, none⟩)) "vellum/atoms.level").run Tryd.prog _ = _ from meth_level (Nd.inner Br cr hr rl rr) 292 _ (A2_r (by assumption))]
      | (go_at_call 132; first | (refine (level_any l.cn lk _).mono ?_; rintro e w3 ⟨rfl, hb3⟩; have hS3 := A2_step (by assumption) hb3) | (refine (level_any cr hr _).mono ?_; rintro e w4 ⟨rfl, hb4⟩; have hS4 := A2_step (by assumption) hb4)))
  clear p9 p10 q9 q10
  obtain ⟨p9, p10, q9, q10, _⟩ := hS4
  go_wp2_with fail
  go_region_held3 (fun w' => w'.cell? ⟨Bn, 9, none⟩ = some (.iface l.ty (.pointer (some ⟨l.blk, 0, none⟩))) ∧ w'.cell? ⟨Bn, 10, none⟩ = some (.iface 157 (.pointer (some ⟨Br, 0, none⟩))) ∧ w'.cell? ⟨Br, 9, none⟩ = some (.iface rl.ty (.pointer (some ⟨rl.blk, 0, none⟩))) ∧ w'.cell? ⟨Br, 10, none⟩ = some (.iface rr.ty (.pointer (some ⟨rr.blk, 0, none⟩))) ∧ Two (Nd.inner Bn c h l (Nd.inner Br cr hr rl rr)) m w w')
    (first | assumption | exact A2_drew (by assumption))
    (first
      | (go_at_call 94; first
          | (refine (HA3.out B1 B2 _ (by assumption) (by assumption)).mono ?_; rintro e w7 ⟨B3, rfl, hi7, hb7⟩; have hS7 := A2_step (by assumption) hb7)
          | (have hB1 := Nat.le_refl B1; refine (HA2.out _ (A2_rr (by assumption)) (A2_m (by assumption))).mono ?_; rintro e w6 ⟨B2, rfl, hi6, hb6⟩; have hi56 := Nd.low hb6 hi5; have hS6 := A2_step (by assumption) hb6)
          | (refine (HA1.out _ (A2_l (by assumption)) (A2_rl (by assumption))).mono ?_; rintro e w5 ⟨B1, rfl, hi5, hb5⟩; have hS5 := A2_step (by assumption) hb5)))
  go_wp2_with fail
  go_ret
  exact ⟨_, HQ.out B1 B2 B3 w7 hi7 hS7.2.2.2.2.b⟩
end Go.Proofs.YtjbfgnhkgjigpaaDoor

namespace Go.Proofs.YtjbfgnhkgjigpaaDoor
open Go.RowKit

theorem made_B1 {Bm B1 B2 h : Nat} {c : Cn} {n l r : Nd} {w w' : World} (on : n.Ok) (om : (Nd.inner Bm c h l r).Ok) (h1 : n.lev + 1 < h) (h2 : l.lev ≤ r.lev)
    (hi : (Nd.inner B2 ((n.cn.plus l.cn).plus r.cn) (1 + max (1 + max n.lev l.lev) r.lev) (Nd.inner B1 (n.cn.plus l.cn) (1 + max n.lev l.lev) n l) r).In w') (hb : Below w.heap.size w w') :
    Made n (Nd.inner Bm c h l r) w (.returned (.iface 157 (.pointer (some ⟨B2, 0, none⟩)))) w' (Nd.inner B2 ((n.cn.plus l.cn).plus r.cn) (1 + max (1 + max n.lev l.lev) r.lev) (Nd.inner B1 (n.cn.plus l.cn) (1 + max n.lev l.lev) n l) r) := by
  obtain ⟨hc, hh, ol, or⟩ := om
  refine ⟨rfl, hi, ⟨rfl, rfl, ⟨rfl, rfl, on, ol⟩, or⟩, ?_, ?_, ?_, ?_, hb⟩
  · show _ = n.cn.plus c
    rw [hc, ← Cn.plus_assoc]; rfl
  · simp [Nd.row]
  · show max n.lev h ≤ 1 + max (1 + max n.lev l.lev) r.lev
    omega
  · show 1 + max (1 + max n.lev l.lev) r.lev ≤ 1 + max n.lev h
    omega
section
variable {Bm : Nat} {c : Cn} {h : Nat} {n l r : Nd} {w w1 w2 : World}
theorem B_start (H : Two n (Nd.inner Bm c h l r) w w1) : w1.cell? ⟨Bm, 9, none⟩ = some (.iface l.ty (.pointer (some ⟨l.blk, 0, none⟩))) ∧ w1.cell? ⟨Bm, 10, none⟩ = some (.iface r.ty (.pointer (some ⟨r.blk, 0, none⟩))) ∧ Two n (Nd.inner Bm c h l r) w w1 :=
  ⟨(inner_at H.m).1, (inner_at H.m).2, H⟩
theorem B_step (H : w1.cell? ⟨Bm, 9, none⟩ = some (.iface l.ty (.pointer (some ⟨l.blk, 0, none⟩))) ∧ w1.cell? ⟨Bm, 10, none⟩ = some (.iface r.ty (.pointer (some ⟨r.blk, 0, none⟩))) ∧ Two n (Nd.inner Bm c h l r) w w1) (hb : Below w1.heap.size w1 w2) : w2.cell? ⟨Bm, 9, none⟩ = some (.iface l.ty (.pointer (some ⟨l.blk, 0, none⟩))) ∧ w2.cell? ⟨Bm, 10, none⟩ = some (.iface r.ty (.pointer (some ⟨r.blk, 0, none⟩))) ∧ Two n (Nd.inner Bm c h l r) w w2 := B_start (H.2.2.step hb)
theorem B_drew (H : w1.cell? ⟨Bm, 9, none⟩ = some (.iface l.ty (.pointer (some ⟨l.blk, 0, none⟩))) ∧ w1.cell? ⟨Bm, 10, none⟩ = some (.iface r.ty (.pointer (some ⟨r.blk, 0, none⟩))) ∧ Two n (Nd.inner Bm c h l r) w w1) : w1.drew.cell? ⟨Bm, 9, none⟩ = some (.iface l.ty (.pointer (some ⟨l.blk, 0, none⟩))) ∧ w1.drew.cell? ⟨Bm, 10, none⟩ = some (.iface r.ty (.pointer (some ⟨r.blk, 0, none⟩))) ∧ Two n (Nd.inner Bm c h l r) w w1.drew := B_step H ((Below.refl _ _).drew)
theorem B_l (H : w1.cell? ⟨Bm, 9, none⟩ = some (.iface l.ty (.pointer (some ⟨l.blk, 0, none⟩))) ∧ w1.cell? ⟨Bm, 10, none⟩ = some (.iface r.ty (.pointer (some ⟨r.blk, 0, none⟩))) ∧ Two n (Nd.inner Bm c h l r) w w1) : l.In w1 := H.2.2.m.2.1
theorem B_r (H : w1.cell? ⟨Bm, 9, none⟩ = some (.iface l.ty (.pointer (some ⟨l.blk, 0, none⟩))) ∧ w1.cell? ⟨Bm, 10, none⟩ = some (.iface r.ty (.pointer (some ⟨r.blk, 0, none⟩))) ∧ Two n (Nd.inner Bm c h l r) w w1) : r.In w1 := H.2.2.m.2.2
theorem B_n (H : w1.cell? ⟨Bm, 9, none⟩ = some (.iface l.ty (.pointer (some ⟨l.blk, 0, none⟩))) ∧ w1.cell? ⟨Bm, 10, none⟩ = some (.iface r.ty (.pointer (some ⟨r.blk, 0, none⟩))) ∧ Two n (Nd.inner Bm c h l r) w w1) : n.In w1 := H.2.2.n
end
set_option maxRecDepth 100000 in
set_option maxHeartbeats 1000000 in
theorem leveled_B1 (Bm : Nat) (c : Cn) (h : Nat) (n l r : Nd) (w : World) (hn : n.In w) (hm : (Nd.inner Bm c h l r).In w) (on : n.Ok) (om : (Nd.inner Bm c h l r).Ok) (hs : (n.cn.plus c).Small) (hr : n.row.length + (Nd.inner Bm c h l r).row.length ≤ 1152921504606846976) (h1 : n.lev + 1 < h) (h2 : l.lev ≤ r.lev) :
    Calls Tryd.prog 93 #[n.val, (Nd.inner Bm c h l r).val] w fun e w' => ∃ q, Made n (Nd.inner Bm c h l r) w e w' q := by
  have l1 : h < _ := Nd.lev_row om
  have l2 := Nd.lev_row on
  have l3 := Nd.lev_row om.2.2.1
  have l4 := Nd.lev_row om.2.2.2
  have hrow : (Nd.inner Bm c h l r).row.length = l.row.length + r.row.length := by simp [Nd.row]
  have H := hide1 (Two.mk hn hm (Below.refl w.heap.size w))
  have hcc : n.cn.plus c = (n.cn.plus l.cn).plus r.cn := by rw [om.1, Cn.plus_assoc]
  rw [hcc] at hs
  have HA1 := hide1 (fun w1 (hn : n.In w1) (hm : l.In w1) => above_val n l w1 hn hm hs.left.left hs.left.right (by omega) (by omega))
  have HA2 := hide1 (fun B1 w1 (hn : (Nd.inner B1 (n.cn.plus l.cn) (1 + max n.lev l.lev) n l).In w1) (hm : r.In w1) => above_val (Nd.inner B1 (n.cn.plus l.cn) (1 + max n.lev l.lev) n l) r w1 hn hm hs.left hs.right (by show 1 + max n.lev l.lev ≤ _; omega) (by omega))
  have HQ := hide1 (fun B1 B2 w' => @made_B1 Bm B1 B2 h c n l r w w' on om h1 h2)
  clear hcc hs
  rw [n.val_eq]
  simp only [Nd.val]
  generalize hj : n.lev = j at l2 h1
  have HJ := hide1 hj
  clear hj hn hm on om
  have ta := assert_inner
  go_enter Tryd.func93, Tryd.ntmps93
  go_wp2_with fail
  rw [meth_level n 292 _ H.out.n, HJ.out]
  go_wp2_with fail
  refine (level_any n.cn j _).mono ?_
  rintro e w1 ⟨rfl, hb⟩
  replace H := hide1 (H.out.step hb)
  clear hb
  go_wp2_with fail
  rw [show (method 293 157 (.pointer (some ⟨Bm, 0, none⟩)) "vellum/atoms.level").run Tryd.prog _ = _ from meth_level (Nd.inner Bm c h l r) 292 _ H.out.m]
  go_wp2_with fail
  refine (level_any c h _).mono ?_
  rintro e w2 ⟨rfl, hb⟩
  replace H := hide1 (H.out.step hb)
  clear hb w1
  go_wp2_with fail
  rw [show (method 293 157 (.pointer (some ⟨Bm, 0, none⟩)) "vellum/atoms.level").run Tryd.prog _ = _ from meth_level (Nd.inner Bm c h l r) 292 _ H.out.m]
  go_wp2_with fail
  refine (level_any c h _).mono ?_
  rintro e w1 ⟨rfl, hb⟩
  replace H := hide1 (H.out.step hb)
  clear hb w2
  go_wp2_with fail
  rw [meth_level n 292 _ H.out.n, HJ.out]
  go_wp2_with fail
  refine (level_any n.cn j _).mono ?_
  rintro e w2 ⟨rfl, hb⟩
  replace H := hide1 (H.out.step hb)
  clear hb w1
  have hS := B_start H.out
  obtain ⟨p9, p10, _⟩ := B_start H.out
  generalize hlk : l.lev = lk at *
  generalize hrk : r.lev = rk at *
  have HLK := hide1 hlk
  have HRK := hide1 hrk
  clear hlk hrk
  go_wp2_with fail
  go_region_held3 (fun w' => w'.cell? ⟨Bm, 9, none⟩ = some (.iface l.ty (.pointer (some ⟨l.blk, 0, none⟩))) ∧ w'.cell? ⟨Bm, 10, none⟩ = some (.iface r.ty (.pointer (some ⟨r.blk, 0, none⟩))) ∧ Two n (Nd.inner Bm c h l r) w w')
    (first | assumption | exact B_drew (by assumption))
    (first
      | rw [meth_level r 292 _ (B_r (by assumption)), HRK.out]
      | rw [meth_level l 292 _ (B_l (by assumption)), HLK.out]
      | (go_at_call 132; first | (refine (level_any r.cn rk _).mono ?_; rintro e w3 ⟨rfl, hb3⟩; have hS3 := B_step (by assumption) hb3) | (refine (level_any l.cn lk _).mono ?_; rintro e w4 ⟨rfl, hb4⟩; have hS4 := B_step (by assumption) hb4)))
  clear p9 p10
  obtain ⟨p9, p10, _⟩ := hS4
  go_wp2_with fail
  go_region_held3 (fun w' => w'.cell? ⟨Bm, 9, none⟩ = some (.iface l.ty (.pointer (some ⟨l.blk, 0, none⟩))) ∧ w'.cell? ⟨Bm, 10, none⟩ = some (.iface r.ty (.pointer (some ⟨r.blk, 0, none⟩))) ∧ Two n (Nd.inner Bm c h l r) w w')
    (first | assumption | exact B_drew (by assumption))
    (first
      | (go_at_call 94; first
          | (refine (HA2.out B1 _ (by assumption) (B_r (by assumption))).mono ?_; rintro e w6 ⟨B2, rfl, hi6, hb6⟩; have hS6 := B_step (by assumption) hb6)
          | (refine (HA1.out _ (B_n (by assumption)) (B_l (by assumption))).mono ?_; rintro e w5 ⟨B1, rfl, hi5, hb5⟩; have hS5 := B_step (by assumption) hb5)))
  go_wp2_with fail
  go_ret
  exact ⟨_, HQ.out B1 B2 w6 hi6 hS6.2.2.b⟩
end Go.Proofs.YtjbfgnhkgjigpaaDoor
