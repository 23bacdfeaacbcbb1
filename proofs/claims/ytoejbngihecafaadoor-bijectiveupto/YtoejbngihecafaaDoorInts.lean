import Derived.Test.YtoejbngihecafaaDoorApi
namespace Go.Proofs.YtoejbngihecafaaDoor
open Go.RowKit

/-- A slice of ints that was handed in. -/
def IntsAt (w : World) (v : Value) (zs : List Int) : Prop := (v = .slice none 0 0 ∧ zs = []) ∨ ∃ (a : Addr) (cap : Nat), v = .slice (some a) zs.length cap ∧ (∀ i, i < zs.length → w.cell? (a.add i) = some (.int .i64 (zs.getD i 0)))
theorem cell_lt {w : World} {a : Addr} {v : Value} (h : w.cell? a = some v) : a.block < w.heap.size := by
  unfold World.cell? at h
  by_cases hb : a.block < w.heap.size
  · exact hb
  · rw [Array.getElem?_eq_none (by omega)] at h; cases h
theorem IntsAt.val {w : World} {v : Value} {zs : List Int} (h : IntsAt w v zs) : ∃ p cap, v = .slice p zs.length cap := by
  rcases h with ⟨rfl, rfl⟩ | ⟨a, cap, rfl, _⟩
  · exact ⟨none, 0, rfl⟩
  · exact ⟨_, cap, rfl⟩
theorem IntsAt.at_ {w : World} {p : Option Addr} {n cap : Nat} {zs : List Int} (h : IntsAt w (.slice p n cap) zs) (i : Nat) (hi : i < zs.length) : ∃ a, p = some a ∧ w.cell? (a.add i) = some (.int .i64 (zs.getD i 0)) := by
  rcases h with ⟨hv, rfl⟩ | ⟨a, cap', hv, hc⟩
  · simp at hi
  · injection hv with h1 h2 h3
    exact ⟨a, h1, hc i hi⟩
theorem IntsAt.low {w w' : World} {v : Value} {zs : List Int} (h : IntsAt w v zs) (hb : Below w.heap.size w w') : IntsAt w' v zs := by
  rcases h with ⟨rfl, rfl⟩ | ⟨a, cap, rfl, hc⟩
  · exact .inl ⟨rfl, rfl⟩
  · exact .inr ⟨a, cap, rfl, fun i hi => (hb.cell (p := a.add i) (cell_lt (hc i hi))).trans (hc i hi)⟩

theorem ba_ext2 {a b : ByteArray} (h : a.data.toList = b.data.toList) : a = b := by
  cases a with | mk x => cases b with | mk y => congr; exact Array.toList_inj.1 h
theorem ext_take (r : ByteArray) (n : Nat) : (r.extract 0 n).data.toList = r.data.toList.take n := by
  rw [ByteArray.data_extract, Array.toList_extract, List.extract_eq_take_drop, List.drop_zero, Nat.sub_zero]
theorem ext_drop (r : ByteArray) (n : Nat) : (r.extract n r.size).data.toList = r.data.toList.drop n := by
  rw [ByteArray.data_extract, Array.toList_extract, List.extract_eq_take_drop]
  exact List.take_of_length_le (by rw [List.length_drop]; exact Nat.le_refl _)
end Go.Proofs.YtoejbngihecafaaDoor
