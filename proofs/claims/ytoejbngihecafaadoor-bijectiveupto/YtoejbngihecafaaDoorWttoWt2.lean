import Derived.Lib.AppendStr
import Derived.Laws.CopyRow
import Derived.Lib.SlBytesRow
import Derived.Test.YtoejbngihecafaaDoorVl4toVl6
namespace Go.Proofs.YtoejbngihecafaaDoor
open Go.RowKit

/-- v is a slice of just these bytes, in a row of its own from B on. -/
def Wt (w : World) (B : Nat) (v : Value) (bs : List UInt8) : Prop :=
  (v = .slice none 0 0 ∧ bs = []) ∨ ∃ g o cap cur, v = .slice (some ⟨g, o, none⟩) bs.length cap ∧ B ≤ g ∧ w.heap[g]? = some (.cells cur 5 (0, 0)) ∧ o + cap ≤ cur.size ∧ bs.length ≤ cap ∧ cap ≤ maxLen ∧ (cur.toList.drop o).take bs.length = Lib.byteCells bs
/-- The row's block. -/
def wblk : Value → Option Nat
  | .slice (some a) _ _ => some a.block
  | _ => none
/-- Only the row's block turns, and new ones come. -/
structure WtStep (v : Value) (w w' : World) : Prop where
  os : w'.os = w.os
  tape : w'.tape = w.tape
  output : w'.output = w.output
  size : w.heap.size ≤ w'.heap.size
  keep : ∀ k, k < w.heap.size → wblk v ≠ some k → w'.heap[k]? = w.heap[k]?

theorem wt_append (ty : TypeId) (B : Nat) (v : Value) (bs : List UInt8) (s : ByteArray) (w : World) (h : Wt w B v bs) (hlen : bs.length + s.size ≤ 70368744177664) (hB : B ≤ w.heap.size) :
    ∃ v' w', (Builtin.append_ #[70, 9] ty #[v, .string s]).run Tryd.prog w = .ok v' w' ∧ Wt w' B v' (bs ++ s.data.toList) ∧ WtStep v w w' ∧ (wblk v' = wblk v ∨ wblk v' = some w.heap.size ∨ wblk v' = none) := by
  obtain ⟨i, hi⟩ := Option.isSome_iff_exists.1 (show (Tryd.prog.info? 5).isSome = true by kernel_rfl)
  have hz : i.zero = some (.int .u8 0) := by
    have h1 : (Tryd.prog.info? 5).bind (fun x => x.zero) = some (.int .u8 0) := by kernel_rfl
    rwa [hi] at h1
  have hs1 : i.size = 1 := by
    have h1 : (Tryd.prog.info? 5).map (fun x => x.size) = some 1 := by kernel_rfl
    rw [hi] at h1; simpa using h1
  have hb1 : i.bytes = 1 := by
    have h1 : (Tryd.prog.info? 5).map (fun x => x.bytes) = some 1 := by kernel_rfl
    rw [hi] at h1; simpa using h1
  have ht := Tryd.underlying70
  have hu := Tryd.underlying9
  have hmx : (70368744177664 : Nat) ≤ maxLen := by decide
  have hsl : s.data.toList.length = s.size := rfl
  have hsc : Lib.strCells s = Lib.byteCells s.data.toList := rfl
  have hcl := Lib.strCells_length s
  have hal : Lib.byteCells (bs ++ s.data.toList) = Lib.byteCells bs ++ Lib.strCells s := by rw [hsc]; simp [Lib.byteCells]
  have hnl : (bs ++ s.data.toList).length = bs.length + s.size := by rw [List.length_append, hsl]
  have hbl := Lib.byteCells_length bs
  -- the arm that grows
  have grown : ∀ old : Nat, old < bs.length + s.size →
      Wt (w.drew.alloc (.cells ((Lib.byteCells bs).toArray ++ (Lib.strCells s).toArray ++ Builtin.zeroCells (Value.int .u8 0).cells (grownCap w (bs.length + s.size) old 5 - (bs.length + s.size))) 5)) B (.slice (some ⟨w.heap.size, 0, none⟩) (bs.length + s.size) (grownCap w (bs.length + s.size) old 5)) (bs ++ s.data.toList) ∧
      ∀ v, WtStep v w (w.drew.alloc (.cells ((Lib.byteCells bs).toArray ++ (Lib.strCells s).toArray ++ Builtin.zeroCells (Value.int .u8 0).cells (grownCap w (bs.length + s.size) old 5 - (bs.length + s.size))) 5)) := by
    intro old ho
    have hge := grownCap_ge w (bs.length + s.size) old 5
    have hcm : grownCap w (bs.length + s.size) old 5 ≤ maxLen := grownCap_le_maxLen w (bs.length + s.size) old 5 (by omega)
    refine ⟨.inr ⟨w.heap.size, 0, _, _, by rw [hnl], hB, heap_alloc_new w.drew _, ?_, by rw [hnl]; exact hge, hcm, ?_⟩, fun v => ⟨rfl, rfl, rfl, by simp, fun k hk _ => Below.heap_alloc w.drew _ k hk⟩⟩
    · have hz1 : (Value.int IntKind.u8 0).cells.size = 1 := rfl
      simp only [Array.size_append, List.size_toArray, size_zeroCells, hz1, hbl, hcl]
      omega
    · rw [hal, hnl]
      simp only [Array.toList_append, List.drop_zero]
      have e : bs.length + s.size = (Lib.byteCells bs ++ Lib.strCells s).length := by rw [List.length_append, hbl, hcl]
      rw [e]
      exact List.take_left
  rcases h with ⟨rfl, rfl⟩ | ⟨g, o, cap, cur, rfl, hg, hh, hoc, hle, hcm, htk⟩
  · by_cases hm : s.size = 0
    · have hsn : s.data.toList = [] := List.eq_nil_of_length_eq_zero (by omega)
      have hf := Lib.run_firstCells_string (P := Tryd.prog) w 1 s
      rw [hm] at hf
      refine ⟨.slice none 0 0, w, ?_, .inl ⟨rfl, by rw [hsn]; rfl⟩, ⟨rfl, rfl, rfl, Nat.le_refl _, fun _ _ _ => rfl⟩, .inl rfl⟩
      simp [Builtin.append_, run_underlying ht, run_underlying hu, sizeOf, typeInfo, hi, hs1, Builtin.lenOf, hm, hf]
    · have hr := run_append_nil_string (P := Tryd.prog) w 70 9 ty 5 i (.int .u8 0) ht hu hi hz s (by omega) (by omega) (by rw [hb1]; omega)
      have hgr := grown 0 (by simp; omega)
      simp only [List.length_nil, Nat.zero_add, List.nil_append] at hgr
      have e1 : (s.data.map fun b => Value.int .u8 b.toNat) = (Lib.strCells s).toArray := by
        apply Array.ext'
        simp [Lib.strCells]
      rw [e1] at hr
      have e2 : (Lib.byteCells []).toArray ++ (Lib.strCells s).toArray = (Lib.strCells s).toArray := by simp [Lib.byteCells]
      rw [e2] at hgr
      exact ⟨_, _, hr, hgr.1, hgr.2 _, .inr (.inl rfl)⟩
  · by_cases hroom : bs.length + s.size ≤ cap
    · have hf := Lib.run_firstCells_string (P := Tryd.prog) w 1 s
      have hst := run_storeCells_at Tryd.prog g (o + bs.length) 5 (Lib.strCells s) 0 cur w hh (by rw [hcl]; omega) (Lib.strCells_oneCell s)
      simp only [Nat.add_zero, hcl] at hst
      refine ⟨.slice (some ⟨g, o, none⟩) (bs.length + s.size) cap, w.setRow g (cur.toList.take (o + bs.length) ++ Lib.strCells s ++ cur.toList.drop (o + bs.length + s.size)).toArray, ?_, .inr ⟨g, o, cap, _, by rw [hnl], hg, setRow_heap w g cur _ 5 _ hh, ?_, by rw [hnl]; exact hroom, hcm, ?_⟩, ⟨rfl, rfl, rfl, by simp, fun k _ hk => setRow_other w g k _ (fun e => hk (by simp [wblk, e]))⟩, .inl rfl⟩
      · simp [Builtin.append_, run_underlying ht, run_underlying hu, sizeOf, typeInfo, hi, hs1, Builtin.lenOf, hroom, hf, Addr.add_lit, hst]
      · simp only [List.size_toArray, List.length_append, List.length_take, List.length_drop, Array.length_toList, hcl]
        omega
      · rw [hal, hnl]
        have hcz : cur.toList.length = cur.size := Array.length_toList
        have e1 : (cur.toList.take (o + bs.length) ++ Lib.strCells s ++ cur.toList.drop (o + bs.length + s.size)).drop o = Lib.byteCells bs ++ Lib.strCells s ++ cur.toList.drop (o + bs.length + s.size) := by
          rw [List.append_assoc, List.drop_append_of_le_length (by rw [List.length_take]; omega), List.drop_take, Nat.add_sub_cancel_left, htk, List.append_assoc]
        show ((cur.toList.take (o + bs.length) ++ Lib.strCells s ++ cur.toList.drop (o + bs.length + s.size)).drop o).take _ = _
        rw [e1]
        have e : bs.length + s.size = (Lib.byteCells bs ++ Lib.strCells s).length := by rw [List.length_append, hbl, hcl]
        rw [e]
        exact List.take_left
    · have holds : ∀ j u, (Lib.byteCells bs)[j]? = some u → w.cell? ((⟨g, o, none⟩ : Addr).add j) = some u := by
        intro j u hj
        rw [Addr.add_lit, Lib.cell_of_heap hh]
        rw [← htk] at hj
        rw [List.getElem?_take] at hj
        split at hj
        · rw [List.getElem?_drop] at hj
          rw [← hj, Array.getElem?_toList]
        · cases hj
      have hr := Lib.run_append_grow_string (P := Tryd.prog) w 70 9 ty 5 i (.int .u8 0) ht hu hi hz ⟨g, o, none⟩ bs.length cap (Lib.byteCells bs) (by rw [hs1, hbl]; omega) holds s (by omega) (by omega) (by rw [hb1]; exact growslice_fits (by omega) (by omega))
      have hgr := grown cap (by omega)
      exact ⟨_, _, hr, hgr.1, hgr.2 _, .inr (.inl rfl)⟩
end Go.Proofs.YtoejbngihecafaaDoor

namespace Go.Proofs.YtoejbngihecafaaDoor
open Go.RowKit

theorem Wt.val {w : World} {B : Nat} {v : Value} {bs : List UInt8} (h : Wt w B v bs) : ∃ p cap, v = .slice p bs.length cap ∧ bs.length ≤ cap := by
  rcases h with ⟨rfl, rfl⟩ | ⟨g, o, cap, cur, rfl, _, _, _, h, _⟩
  · exact ⟨none, 0, rfl, Nat.le_refl _⟩
  · exact ⟨_, cap, rfl, h⟩
set_option maxRecDepth 100000 in
theorem wt_pre {w : World} {B : Nat} {p : Option Addr} {n cap : Nat} {bs : List UInt8} (h : Wt w B (.slice p n cap) bs) (k : Nat) (hk : k ≤ bs.length) (W : World) :
    (Instr.slice 70 (.slice p n cap) none (some (.int .i64 k)) none).run Tryd.prog W = .ok (.slice p k cap) W := by
  rcases h with ⟨hv, rfl⟩ | ⟨g, o, cap', cur, hv, _, _, _, hle, _⟩
  · injection hv with h1 h2 h3
    subst h1 h2 h3
    have : k = 0 := by simpa using hk
    subst this
    simp [Instr.slice, go_sem]
  · injection hv with h1 h2 h3
    subst h1 h2 h3
    have hk' : k ≤ cap := by omega
    simp [Instr.slice, go_sem, hk']
set_option maxRecDepth 100000 in
theorem wt_conv {w : World} {B : Nat} {p : Option Addr} {n cap : Nat} {bs : List UInt8} (h : Wt w B (.slice p n cap) bs) (k : Nat) (hk : k ≤ bs.length) :
    (convert 70 9 (.slice p k cap)).run Tryd.prog w = .ok (.string ⟨(bs.take k).toArray⟩) w := by
  rcases h with ⟨hv, rfl⟩ | ⟨g, o, cap', cur, hv, _, hh, hoc, hle, _, htk⟩
  · injection hv with h1 h2 h3
    subst h1 h2 h3
    have : k = 0 := by simpa using hk
    subst this
    exact run_convert_bytes_nil w 70 5 Tryd.underlying70 Tryd.underlying5 _ _ 9 Tryd.underlying9
  · injection hv with h1 h2 h3
    subst h1 h2 h3
    have hs : (⟨(bs.take k).toArray⟩ : ByteArray).size = k := by show (bs.take k).toArray.size = k; simp; omega
    have hb : Lib.Bytes w g o ⟨(bs.take k).toArray⟩ := by
      intro i hi
      rw [hs] at hi
      rw [Lib.cell_of_heap hh]
      have e1 : (Lib.byteCells bs)[i]? = some (.int .u8 ((bs[i]'(by omega)).toNat : Int)) := by simp [Lib.byteCells, List.getElem?_map, List.getElem?_eq_getElem (show i < bs.length by omega)]
      rw [← htk, List.getElem?_take, if_pos (by omega), List.getElem?_drop, Array.getElem?_toList] at e1
      rw [e1]
      congr 3
      show _ = ((bs.take k).toArray[i]'_).toNat
      simp
    have := Lib.run_convert_whole (P := Tryd.prog) w 70 5 9 Tryd.underlying70 Tryd.underlying5 Tryd.underlying9 g o ⟨(bs.take k).toArray⟩ hb cap
    rw [hs] at this
    exact this
theorem wt_suf {w : World} {B : Nat} {p : Option Addr} {n cap : Nat} {bs : List UInt8} (h : Wt w B (.slice p n cap) bs) (k : Nat) (hk : k ≤ bs.length) :
    ∃ p', (∀ W, (Instr.slice 70 (.slice p n cap) (some (.int .i64 k)) none none).run Tryd.prog W = .ok (.slice p' (n - k) (cap - k)) W) ∧ Wt w B (.slice p' (n - k) (cap - k)) (bs.drop k) ∧ wblk (.slice p' (n - k) (cap - k)) = wblk (.slice p n cap) := by
  rcases h with ⟨hv, rfl⟩ | ⟨g, o, cap', cur, hv, hg, hh, hoc, hle, hcm, htk⟩
  · injection hv with h1 h2 h3
    subst h1 h2 h3
    have : k = 0 := by simpa using hk
    subst this
    exact ⟨none, fun W => by simp [Instr.slice, go_sem], .inl ⟨rfl, rfl⟩, rfl⟩
  · injection hv with h1 h2 h3
    subst h1 h2 h3
    by_cases hc : cap = k
    · refine ⟨some ⟨g, o, none⟩, fun W => ?_, .inr ⟨g, o, cap - k, cur, by rw [List.length_drop], hg, hh, by omega, by rw [List.length_drop]; omega, by omega, ?_⟩, rfl⟩
      · simp [Instr.slice, go_sem, hk, hc]
      · have : bs.drop k = [] := List.drop_eq_nil_of_le (by omega)
        rw [this]; rfl
    · refine ⟨some ⟨g, o + k, none⟩, fun W => ?_, .inr ⟨g, o + k, cap - k, cur, by rw [List.length_drop], hg, hh, by omega, by rw [List.length_drop]; omega, by omega, ?_⟩, rfl⟩
      · simp [Instr.slice, go_sem, hk, hc, Addr.add_lit]
      · rw [List.length_drop, ← List.drop_drop, ← List.drop_take, htk]
        simp [Lib.byteCells]
end Go.Proofs.YtoejbngihecafaaDoor
