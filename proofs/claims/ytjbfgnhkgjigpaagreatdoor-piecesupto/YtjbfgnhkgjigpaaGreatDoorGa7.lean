import Derived.Lib.Strings
import Derived.Lib.IndexBytes
import Derived.Test.YtjbfgnhkgjigpaaGreatDoorGa6
namespace Go.Proofs.YtjbfgnhkgjigpaaGreatDoor
open Go.RowKit

theorem markB_0 : markB 0 = ⟨#[239, 187, 191]⟩ := rfl
theorem markB_1 : markB 1 = ⟨#[255, 254]⟩ := rfl
theorem markB_2 : markB 2 = ⟨#[254, 255]⟩ := rfl
theorem markB_3 : markB 3 = ⟨#[]⟩ := rfl

set_option maxHeartbeats 400000 in
theorem rmark_any (enc : Int) (w : World) (h0 : 0 ≤ enc) (h3 : enc ≤ 3) :
    Calls Tryz.prog 32 #[.int .i64 enc] w fun e w' => e = .returned (.string (markB enc)) ∧ Below w.heap.size w w' := by
  have : enc = 0 ∨ enc = 1 ∨ enc = 2 ∨ enc = 3 := by omega
  rcases this with rfl | rfl | rfl | rfl
  · go_enter Tryz.func32, Tryz.ntmps32
    go_wp2
    go_ret
    exact ⟨rfl, (Below.refl _ _).alloc (Nat.le_refl _) _⟩
  · go_enter Tryz.func32, Tryz.ntmps32
    go_wp2
    go_ret
    exact ⟨rfl, (Below.refl _ _).alloc (Nat.le_refl _) _⟩
  · go_enter Tryz.func32, Tryz.ntmps32
    go_wp2
    go_ret
    exact ⟨rfl, (Below.refl _ _).alloc (Nat.le_refl _) _⟩
  · go_enter Tryz.func32, Tryz.ntmps32
    go_wp2
    go_ret
    exact ⟨rfl, (Below.refl _ _).alloc (Nat.le_refl _) _⟩

theorem pre_eq (s t : ByteArray) : ((s.extract 0 t.size).toList == t.toList) = t.data.toList.isPrefixOf s.data.toList := by
  rw [ByteArray.toList_eq, ByteArray.toList_eq, Lib.extract_data]
  have hl : t.size = t.data.toList.length := rfl
  rw [hl, Nat.sub_zero, List.drop_zero]
  generalize t.data.toList = a
  generalize s.data.toList = b
  rw [Bool.eq_iff_iff, beq_iff_eq, List.isPrefixOf_iff_prefix]
  exact ⟨fun h => ⟨b.drop a.length, by have := List.take_append_drop a.length b; rw [h] at this; exact this⟩, fun ⟨c, h⟩ => by rw [← h]; simp⟩
theorem pre_short (s t : ByteArray) (h : s.size < t.size) : t.data.toList.isPrefixOf s.data.toList = false := by
  cases e : t.data.toList.isPrefixOf s.data.toList
  · rfl
  · have := (List.isPrefixOf_iff_prefix.1 e).length_le
    have h1 : t.size = t.data.toList.length := rfl
    have h2 : s.size = s.data.toList.length := rfl
    omega
theorem not_empty (t : ByteArray) (h : t.size ≠ 0) : t.toList.isEmpty = false := by
  rw [ByteArray.toList_eq]
  have h1 : t.size = t.data.toList.length := rfl
  cases e : t.data.toList with
  | nil => rw [e] at h1; exact absurd h1 h
  | cons a l => rfl

set_option maxHeartbeats 400000 in
theorem rbegins_any (s t : ByteArray) (w : World) (_hs : s.size ≤ 1099511627776) (_ht : t.size ≤ 1099511627776) :
    Calls Tryz.prog 31 #[.string s, .string t] w fun e w' => e = .returned (.bool (decide (t.size ≠ 0) && t.data.toList.isPrefixOf s.data.toList)) ∧ w' = w := by
  by_cases h0 : t.size = 0
  · have e0 : t = ⟨#[]⟩ := by
      cases t with | mk d => simp [ByteArray.size] at h0; rw [h0]
    subst e0
    go_enter Tryz.func31, Tryz.ntmps31
    go_wp2
    go_ret
    exact ⟨rfl, rfl⟩
  · by_cases h1 : t.size ≤ s.size
    · have h1I : (t.size : Int) ≤ (s.size : Int) := by omega
      have hne := not_empty t h0
      have hd : decide (t.size ≠ 0) = true := by simp [h0]
      rw [hd, Bool.true_and, ← pre_eq]
      clear hd
      go_enter Tryz.func31, Tryz.ntmps31
      go_wp2
      go_ret
      exact ⟨ret_bool (by simp), rfl⟩
    · have h1I : ¬ (t.size : Int) ≤ (s.size : Int) := by omega
      have hne := not_empty t h0
      rw [pre_short s t (by omega), Bool.and_false]
      go_enter Tryz.func31, Tryz.ntmps31
      go_wp2
      go_ret
      exact ⟨rfl, rfl⟩

set_option maxRecDepth 100000 in
set_option maxHeartbeats 400000 in
theorem rshown_any (a : Vm.RA) (w : World) (h : a.2.1 = false → 0 ≤ a.1 ∧ a.1 ≤ 1114111) :
    Calls Tryz.prog 67 #[.agg #[.int .i64 a.1, .bool a.2.1, .int .i64 a.2.2.1, .int .i64 a.2.2.2.1, .int .i64 a.2.2.2.2]] w fun e w' => e = .returned (.string (strOfNums (Vm.utfL (if a.2.1 then 65533 else a.1)))) ∧ Below w.heap.size w w' := by
  obtain ⟨c, e, x, y, z⟩ := a
  cases e
  · obtain ⟨g1, g2⟩ := h rfl
    go_enter Tryz.func67, Tryz.ntmps67
    go_wp2_with fail
    refine (rutf_any _ _ g1 (by omega)).mono ?_
    rintro e w1 ⟨rfl, hb⟩
    go_wp2
    go_ret
    exact ⟨rfl, ((Below.refl _ _).alloc (Nat.le_refl _) _).trans (hb.mono (by simp))⟩
  · clear h
    go_enter Tryz.func67, Tryz.ntmps67
    go_wp2_with fail
    refine (rutf_any _ _ (by omega) (by omega)).mono ?_
    rintro e w1 ⟨rfl, hb⟩
    go_wp2
    go_ret
    exact ⟨rfl, ((Below.refl _ _).alloc (Nat.le_refl _) _).trans (hb.mono (by simp))⟩

set_option maxHeartbeats 400000 in
theorem runits_any (a : Vm.RA) (w : World) :
    Calls Tryz.prog 69 #[.agg #[.int .i64 a.1, .bool a.2.1, .int .i64 a.2.2.1, .int .i64 a.2.2.2.1, .int .i64 a.2.2.2.2]] w fun e w' => e = .returned (.int .i64 (if a.2.1 = false ∧ 65535 < a.1 then 2 else 1)) ∧ Below w.heap.size w w' := by
  obtain ⟨c, e, x, y, z⟩ := a
  cases e
  · by_cases g : 65535 < c
    · rw [if_pos ⟨rfl, g⟩]
      go_enter Tryz.func69, Tryz.ntmps69
      go_wp2
      go_ret
      exact ⟨rfl, (Below.refl _ _).alloc (Nat.le_refl _) _⟩
    · rw [if_neg (fun h => g h.2)]
      go_enter Tryz.func69, Tryz.ntmps69
      go_wp2
      go_ret
      exact ⟨rfl, (Below.refl _ _).alloc (Nat.le_refl _) _⟩
  · rw [if_neg (fun h => by simp at h)]
    go_enter Tryz.func69, Tryz.ntmps69
    go_wp2
    go_ret
    exact ⟨rfl, (Below.refl _ _).alloc (Nat.le_refl _) _⟩
end Go.Proofs.YtjbfgnhkgjigpaaGreatDoor

namespace Go.Proofs.YtjbfgnhkgjigpaaGreatDoor
open Go.RowKit

/-- Do the bytes begin with the encoding's mark? -/
def ofMark (s : ByteArray) (enc : Int) : Bool := decide ((markB enc).size ≠ 0) && (markB enc).data.toList.isPrefixOf s.data.toList
/-- The body of some bytes in an encoding. -/
def ofBody (s : ByteArray) (enc : Int) : ByteArray := if ofMark s enc then s.extract (markB enc).size s.size else s
/-- The bytes of a document. -/
def bytesOf (enc : Int) (mark : Bool) (body : ByteArray) : ByteArray := if mark then markB enc ++ body else body

theorem markB_size (enc : Int) : (markB enc).size ≤ 3 := by
  unfold markB; (repeat' split) <;> decide
theorem ofMark_size {s : ByteArray} {enc : Int} (h : ofMark s enc = true) : (markB enc).size ≤ s.size := by
  unfold ofMark at h
  simp only [Bool.and_eq_true] at h
  exact (List.isPrefixOf_iff_prefix.1 h.2).length_le
theorem ofBody_size (s : ByteArray) (enc : Int) : (ofBody s enc).size ≤ s.size := by
  unfold ofBody
  split
  · rw [ByteArray.size_extract]; omega
  · exact Nat.le_refl _
theorem bytes_ext {a b : ByteArray} (h : a.data.toList = b.data.toList) : a = b := by
  cases a; cases b; simp at h; simp [h]
theorem append_data (a b : ByteArray) : (a ++ b).data.toList = a.data.toList ++ b.data.toList := by simp
/-- Load, then Save. -/
theorem bytesOf_of (s : ByteArray) (enc : Int) : bytesOf enc (ofMark s enc) (ofBody s enc) = s := by
  unfold bytesOf ofBody
  cases h : ofMark s enc
  · rfl
  · simp only [if_true]
    apply bytes_ext
    rw [append_data, Lib.extract_to_end]
    unfold ofMark at h
    simp only [Bool.and_eq_true] at h
    obtain ⟨c, hc⟩ := List.isPrefixOf_iff_prefix.1 h.2
    have e : (markB enc).size = (markB enc).data.toList.length := rfl
    rw [e, ← hc]; simp

/-- Three cells of a block that may be written. -/
structure Bx3 (w : World) (B : Nat) (v0 v1 v2 : Value) : Prop where
  c : w.cell? ⟨B, 0, none⟩ = some v0 ∧ w.cell? ⟨B, 1, none⟩ = some v1 ∧ w.cell? ⟨B, 2, none⟩ = some v2
  f : w.frozen? ⟨B, 0, none⟩ = false ∧ w.frozen? ⟨B, 1, none⟩ = false ∧ w.frozen? ⟨B, 2, none⟩ = false
theorem Bx3.below {w w' : World} {B : Nat} {v0 v1 v2 : Value} (h : Bx3 w B v0 v1 v2) (hb : Below w.heap.size w w') : Bx3 w' B v0 v1 v2 := by
  have hB := block_lt h.c.1
  have g : ∀ o, w'.cell? ⟨B, o, none⟩ = w.cell? ⟨B, o, none⟩ := fun o => hb.cell (p := ⟨B, o, none⟩) hB
  have k : ∀ o, w'.frozen? ⟨B, o, none⟩ = w.frozen? ⟨B, o, none⟩ := fun o => hb.frozen (p := ⟨B, o, none⟩) hB
  exact ⟨⟨(g _).trans h.c.1, (g _).trans h.c.2.1, (g _).trans h.c.2.2⟩, ⟨(k _).trans h.f.1, (k _).trans h.f.2.1, (k _).trans h.f.2.2⟩⟩
theorem Bx3.new (w : World) (t : TypeId) (v0 v1 v2 : Value) : Bx3 (w.alloc (.cells #[v0, v1, v2] t)) w.heap.size v0 v1 v2 :=
  ⟨⟨by simp, by simp, by simp⟩, ⟨by simp [go_sem], by simp [go_sem], by simp [go_sem]⟩⟩
/-- Three stores into one block, read back. -/
theorem three_set {W : World} {B : Nat} {u0 u1 u2 : Value} (v0 v1 v2 : Value) (h : W.cell? ⟨B, 0, none⟩ = some u0 ∧ W.cell? ⟨B, 1, none⟩ = some u1 ∧ W.cell? ⟨B, 2, none⟩ = some u2) :
    (((W.setCell ⟨B, 0, none⟩ v0).setCell ⟨B, 1, none⟩ v1).setCell ⟨B, 2, none⟩ v2).cell? ⟨B, 0, none⟩ = some v0 ∧
    (((W.setCell ⟨B, 0, none⟩ v0).setCell ⟨B, 1, none⟩ v1).setCell ⟨B, 2, none⟩ v2).cell? ⟨B, 1, none⟩ = some v1 ∧
    (((W.setCell ⟨B, 0, none⟩ v0).setCell ⟨B, 1, none⟩ v1).setCell ⟨B, 2, none⟩ v2).cell? ⟨B, 2, none⟩ = some v2 := by
  obtain ⟨h0, h1, h2⟩ := h
  refine ⟨?_, ?_, ?_⟩
  · rw [sc_ne _ _ 2 0 _ (by decide), sc_ne _ _ 1 0 _ (by decide), sc_eq _ _ 0 _ u0 h0]
  · rw [sc_ne _ _ 2 1 _ (by decide), sc_eq _ _ 1 _ u1 (by rw [sc_ne _ _ 0 1 _ (by decide)]; exact h1)]
  · rw [sc_eq _ _ 2 _ u2 (by rw [sc_ne _ _ 1 2 _ (by decide), sc_ne _ _ 0 2 _ (by decide)]; exact h2)]
theorem three_below {w W : World} {B : Nat} (v0 v1 v2 : Value) (h : Below w.heap.size w W) (hB : w.heap.size ≤ B) :
    Below w.heap.size w (((W.setCell ⟨B, 0, none⟩ v0).setCell ⟨B, 1, none⟩ v1).setCell ⟨B, 2, none⟩ v2) :=
  ((h.setCell (p := ⟨B, 0, none⟩) hB _).setCell (p := ⟨B, 1, none⟩) hB _).setCell (p := ⟨B, 2, none⟩) hB _

set_option maxHeartbeats 400000 in
theorem rof_any (s : ByteArray) (enc : Int) (w : World) (hs : s.size ≤ 1099511627776) (h0 : 0 ≤ enc) (h3 : enc ≤ 3) :
    Calls Tryz.prog 33 #[.string s, .int .i64 enc] w fun e w' => e = .returned (.agg #[.int .i64 enc, .bool (ofMark s enc), .string (ofBody s enc)]) ∧ Below w.heap.size w w' := by
  have hms := markB_size enc
  have hmd : (decide ((markB enc).size ≠ 0) && (markB enc).data.toList.isPrefixOf s.data.toList) = ofMark s enc := rfl
  have hbd : ofBody s enc = if ofMark s enc then s.extract (markB enc).size s.size else s := rfl
  have hle := @ofMark_size s enc
  have HM := hide2 hmd
  clear hmd
  generalize hm : ofMark s enc = m at *
  generalize ofBody s enc = bd at *
  have hcm := rmark_any enc
  generalize hmk : markB enc = mk at *
  have HMK := hide2 hmk
  have HM1 := hide2 hm
  clear hm hmk
  have HC := hide2 hcm
  clear hcm
  have hsI : (mk.size : Int) ≤ 3 := by omega
  cases m
  · simp only [Bool.false_eq_true, if_false] at hbd
    rw [hbd]
    clear hbd hle
    go_enter Tryz.func33, Tryz.ntmps33
    go_wp2_with fail
    refine (HC.out _ h0 h3).mono ?_
    rintro e w1 ⟨rfl, hb1⟩
    obtain ⟨⟨q0, q1, q2⟩, f0, f1, f2⟩ := Bx3.below (Bx3.new w 81 (.int .i64 0) (.bool false) (.string ⟨#[]⟩)) hb1
    have hbw : Below w.heap.size w w1 := ((Below.refl _ _).alloc (Nat.le_refl _) _).trans (hb1.mono (by simp))
    clear hb1
    go_wp2_with fail
    refine (rbegins_any s mk _ hs (by omega)).mono ?_
    rintro e w2 ⟨rfl, rfl⟩
    rw [HM.out]
    go_wp2
    exact bodyPost_ret (v := .agg #[.int .i64 enc, .bool false, .string (s)]) (by
      obtain ⟨g0, g1, g2⟩ := three_set (.int .i64 enc) (.bool false) (.string (s)) ⟨q0, q1, q2⟩
      simp [results, Tryz.results33, go_sem, g0, g1, g2]) rfl ⟨rfl, three_below _ _ _ hbw (Nat.le_refl _)⟩
  · simp only [if_true] at hbd
    have hle2 := hle rfl
    have hleI : (mk.size : Int) ≤ (s.size : Int) := by omega
    rw [hbd]
    clear hbd hle
    go_enter Tryz.func33, Tryz.ntmps33
    go_wp2_with fail
    refine (HC.out _ h0 h3).mono ?_
    rintro e w1 ⟨rfl, hb1⟩
    obtain ⟨⟨q0, q1, q2⟩, f0, f1, f2⟩ := Bx3.below (Bx3.new w 81 (.int .i64 0) (.bool false) (.string ⟨#[]⟩)) hb1
    have hbw : Below w.heap.size w w1 := ((Below.refl _ _).alloc (Nat.le_refl _) _).trans (hb1.mono (by simp))
    clear hb1
    go_wp2_with fail
    refine (rbegins_any s mk _ hs (by omega)).mono ?_
    rintro e w2 ⟨rfl, rfl⟩
    rw [HM.out]
    go_wp2
    exact bodyPost_ret (v := .agg #[.int .i64 enc, .bool true, .string (s.extract mk.size s.size)]) (by
      obtain ⟨g0, g1, g2⟩ := three_set (.int .i64 enc) (.bool true) (.string (s.extract mk.size s.size)) ⟨q0, q1, q2⟩
      simp [results, Tryz.results33, go_sem, g0, g1, g2]) rfl ⟨rfl, three_below _ _ _ hbw (Nat.le_refl _)⟩

theorem rbytes_any (enc : Int) (mark : Bool) (b : ByteArray) (w : World) (hs : b.size ≤ 1099511627776) (h0 : 0 ≤ enc) (h3 : enc ≤ 3) :
    Calls Tryz.prog 65 #[.agg #[.int .i64 enc, .bool mark, .string b]] w fun e w' => e = .returned (.string (bytesOf enc mark b)) ∧ Below w.heap.size w w' := by
  have hms := markB_size enc
  cases mark
  · go_enter Tryz.func65, Tryz.ntmps65
    go_wp2
    go_ret
    exact ⟨rfl, (Below.refl _ _).alloc (Nat.le_refl _) _⟩
  · go_enter Tryz.func65, Tryz.ntmps65
    go_wp2_with fail
    refine (rmark_any _ _ h0 h3).mono ?_
    rintro e w1 ⟨rfl, hb1⟩
    obtain ⟨⟨q0, q1, q2⟩, f0, f1, f2⟩ := Bx3.below (Bx3.new w 81 (.int .i64 enc) (.bool true) (.string b)) hb1
    have hbw : Below w.heap.size w w1 := ((Below.refl _ _).alloc (Nat.le_refl _) _).trans (hb1.mono (by simp))
    clear hb1
    go_wp2
    go_ret
    exact ⟨rfl, hbw⟩
end Go.Proofs.YtjbfgnhkgjigpaaGreatDoor
