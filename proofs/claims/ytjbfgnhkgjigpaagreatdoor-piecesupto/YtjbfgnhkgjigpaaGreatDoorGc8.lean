import Derived.Test.YtjbfgnhkgjigpaaGreatDoorProg
import Derived.Test.YtjbfgnhkgjigpaaGreatDoorGc6
import Derived.Test.YtjbfgnhkgjigpaaGreatDoorGc7
namespace Vm
theorem utfL_bd {r : Int} (h : validB r = true) : ∀ n ∈ utfL r, 0 ≤ n ∧ n ≤ 255 := by
  have hv : 0 ≤ r ∧ r ≤ 1114111 := by rw [validB_iff] at h; omega
  unfold utfL
  intro n hn
  split at hn
  · simp at hn; omega
  · split at hn
    · simp at hn; omega
    · split at hn
      · simp at hn; omega
      · simp at hn; omega
end Vm
namespace Go.Proofs.YtjbfgnhkgjigpaaGreatDoor
open Go.RowKit Go.Vit

def numsB (l : List Int) : List UInt8 := l.map (fun n => UInt8.ofNat n.toNat)
theorem str_numsB (l : List Int) : strOfNums l = ⟨(numsB l).toArray⟩ := rfl
theorem cells_nums {l : List Int} (h : ∀ n ∈ l, 0 ≤ n ∧ n ≤ 255) : l.map (Value.int .u8) = Lib.byteCells (numsB l) := by
  induction l with
  | nil => rfl
  | cons n l ih =>
    have hn := h n (by simp)
    have e : ((UInt8.ofNat n.toNat).toNat : Int) = n := by
      have : (UInt8.ofNat n.toNat).toNat = n.toNat % 256 := by simp
      rw [this]; omega
    have : Lib.byteCells (numsB (n :: l)) = .int .u8 ((UInt8.ofNat n.toNat).toNat : Int) :: Lib.byteCells (numsB l) := rfl
    rw [this, e, ← ih (fun m hm => h m (by simp [hm]))]
    rfl
/-- The cells of a text. -/
def txCells (A : List Vm.At) : List Value := A.flatMap (fun a => chCells (Vm.chA a))
theorem txCells_snoc (A : List Vm.At) (a : Vm.At) : txCells (A ++ [a]) = txCells A ++ chCells (Vm.chA a) := by simp [txCells]
theorem txCells_append (A B : List Vm.At) : txCells (A ++ B) = txCells A ++ txCells B := by simp [txCells]
theorem txCells_text {A : List Vm.At} (h : ∀ a ∈ A, Vm.ChOk a) : txCells A = Lib.byteCells (numsB (Vm.textL A)) := by
  have e : txCells A = (Vm.textL A).map (Value.int .u8) := by simp [txCells, Vm.textL, chCells, List.map_flatMap]
  rw [e]
  refine cells_nums ?_
  intro n hn
  simp only [Vm.textL, List.mem_flatMap] at hn
  obtain ⟨a, ha, hn⟩ := hn
  exact Vm.utfL_bd (h a ha).1 n hn
theorem txCells_len (A : List Vm.At) : (txCells A).length ≤ 4 * A.length := by
  induction A with
  | nil => simp [txCells]
  | cons a A ih =>
    have e : txCells (a :: A) = chCells (Vm.chA a) ++ txCells A := rfl
    rw [e, List.length_append, chCells_len, List.length_cons]
    have := Vm.utfLen_cases (Vm.chA a)
    omega

theorem bld_grow (B b n : Nat) (w : World) (hB : B ≤ b) (hbk : w.heap[b]? = some (.cells #[.pointer none, .slice none 0 0] 142)) (hBw : B ≤ w.heap.size) (hn : n ≤ 281474976710656) :
    Calls Tryz.prog 83 #[.pointer (some ⟨b, 0, none⟩), .int .i64 n] w fun e w' => e = .returned (.tuple #[]) ∧ Bd B b [] w' ∧ Below B w w' :=
  Any.Builder_Grow_fresh lays165 extraB B b n w hB hbk hBw hn
theorem bld_str (B b : Nat) (bs : List Value) (s : ByteArray) (w : World) (h : Bd B b bs w) (hlen : bs.length + s.size ≤ 140737488355328) (hBw : B ≤ w.heap.size) :
    Calls Tryz.prog 85 #[.pointer (some ⟨b, 0, none⟩), .string s] w fun e w' => e = .returned (.tuple #[.int .i64 s.size, .nilIface]) ∧ Bd B b (bs ++ Lib.strCells s) w' ∧ Below B w w' :=
  Any.Builder_WriteString lays166 extraB B b bs s w (.inr h) hlen hBw
theorem bld_string (B b : Nat) (l : List UInt8) (w : World) (h : Bd B b (Lib.byteCells l) w) (hBw : B ≤ w.heap.size) :
    Calls Tryz.prog 88 #[.pointer (some ⟨b, 0, none⟩)] w fun e w' => e = .returned (.string ⟨l.toArray⟩) ∧ Below B w w' :=
  Any.Builder_String_any lays169 extraB B b l w (.inr h) hBw
end Go.Proofs.YtjbfgnhkgjigpaaGreatDoor

namespace Vm
/-- The bytes from one place to ahead of another, which may lie outside. -/
def partL (l : List UInt8) (f t : Int) : List UInt8 := (l.take t.toNat).drop f.toNat
theorem partL_out {l : List UInt8} {f t : Int} (h : (l.length : Int) ≤ f ∨ t ≤ 0 ∨ t ≤ f) : partL l f t = [] := by
  unfold partL
  apply List.drop_eq_nil_of_le
  rw [List.length_take]; omega
theorem partL_append (a b : List UInt8) (f t : Int) : partL (a ++ b) f t = partL a f t ++ partL b (f - a.length) (t - a.length) := by
  unfold partL
  rw [List.take_append, List.drop_append]
  congr 1
  have e1 : (t - (a.length : Int)).toNat = t.toNat - a.length := by omega
  have e2 : (f - (a.length : Int)).toNat = f.toNat - a.length := by omega
  rw [e1, e2, List.length_take]
  by_cases h : a.length ≤ t.toNat
  · rw [Nat.min_eq_right h]
  · have : t.toNat - a.length = 0 := by omega
    rw [this]; simp
theorem partL_all (l : List UInt8) (t : Int) (h : (l.length : Int) ≤ t) : partL l 0 t = l := by
  unfold partL
  rw [List.take_of_length_le (by omega)]; simp
theorem partL_len (l : List UInt8) (f t : Int) : (partL l f t).length ≤ l.length := by
  unfold partL
  rw [List.length_drop, List.length_take]; omega
theorem partL_extract (b : ByteArray) (i j : Nat) (f t : Int) (hi : i = f.toNat) (hj : j = min t.toNat b.size) : (b.extract i j).data.toList = partL b.data.toList f t := by
  rw [ByteArray.data_extract, Array.toList_extract, List.extract_eq_take_drop, hi, hj]
  unfold partL
  rw [List.take_drop]
  have hl : b.data.toList.length = b.size := rfl
  by_cases h : f.toNat ≤ min t.toNat b.size
  · rw [Nat.add_sub_cancel' h]
    congr 1
    by_cases g : t.toNat ≤ b.size
    · rw [Nat.min_eq_left g]
    · rw [Nat.min_eq_right (by omega), List.take_of_length_le (by omega), List.take_of_length_le (by omega)]
  · rw [Nat.sub_eq_zero_of_le (by omega), Nat.add_zero]
    rw [List.drop_eq_nil_of_le (by rw [List.length_take]; omega), List.drop_eq_nil_of_le (by rw [List.length_take]; omega)]
end Vm
