import Derived.Test.YtoejbngihecafaaDoorBldtoBld2
import Derived.Test.YtoejbngihecafaaDoorMath11
namespace Go.Proofs.YtoejbngihecafaaDoor
open Go.RowKit

theorem nums_toList (l : List Int) : (strOfNums l).data.toList = numsB l := rfl
theorem nums_size (l : List Int) : (strOfNums l).size = l.length := by simp [strOfNums, ByteArray.size]
theorem byte_get {t : ByteArray} {l : List Int} (h : t = strOfNums l) (i : Nat) (n : Int) (hn : l[i]? = some n) (h0 : 0 ≤ n) (h1 : n ≤ 255) : ∃ g : i < t.size, (t[i].toNat : Int) = n := by
  subst h
  have g : i < l.length := by
    rcases Nat.lt_or_ge i l.length with g | g
    · exact g
    · rw [List.getElem?_eq_none g] at hn; cases hn
  refine ⟨by rw [nums_size]; exact g, ?_⟩
  have e : l[i] = n := by rw [List.getElem?_eq_getElem g] at hn; exact Option.some.inj hn
  have e2 : (strOfNums l)[i]'(by rw [nums_size]; exact g) = UInt8.ofNat n.toNat := by
    show (strOfNums l).data[i]'_ = _
    simp [strOfNums, e]
  rw [e2]
  have : (UInt8.ofNat n.toNat).toNat = n.toNat % 256 := by simp
  rw [this]; omega
theorem bytes_at {t : ByteArray} {A : List Vm.At} (h : t = strOfNums (Vm.textL A)) {k : Nat} {x : Vm.At} (hx : A[k]? = some x) (hv : Vm.validB (Vm.chA x) = true) (j : Nat) (hj : j < Vm.lenA x) :
    ∃ g : Vm.bytesA (A.take k) + j < t.size, (t[Vm.bytesA (A.take k) + j].toNat : Int) = (Vm.utfL (Vm.chA x)).getD j 0 := by
  have hl : j < (Vm.utfL (Vm.chA x)).length := by rw [Vm.utfL_length]; exact hj
  have hg := List.getElem?_eq_getElem hl
  have hb := Vm.utfL_bd hv _ (List.getElem_mem hl)
  obtain ⟨g, e⟩ := byte_get h (Vm.bytesA (A.take k) + j) _ ((Vm.textL_at hx j hj).trans hg) hb.1 hb.2
  exact ⟨g, by rw [e, List.getD_eq_getElem?_getD, hg]; rfl⟩
theorem ext_at {t : ByteArray} {A : List Vm.At} (h : t = strOfNums (Vm.textL A)) {k : Nat} {x : Vm.At} (hx : A[k]? = some x) :
    t.extract (Vm.bytesA (A.take k)) (Vm.bytesA (A.take k) + Vm.lenA x) = strOfNums (Vm.utfL (Vm.chA x)) := by
  have hk : k < A.length := by
    rcases Nat.lt_or_ge k A.length with g | g
    · exact g
    · rw [List.getElem?_eq_none g] at hx; cases hx
  have e : A = A.take k ++ (x :: A.drop (k + 1)) := by
    have hx' : A[k] = x := by rw [List.getElem?_eq_getElem hk] at hx; exact Option.some.inj hx
    rw [← hx', List.getElem_cons_drop hk, List.take_append_drop]
  have e2 : Vm.textL A = Vm.textL (A.take k) ++ (Vm.utfL (Vm.chA x) ++ Vm.textL (A.drop (k + 1))) := by
    conv => lhs; rw [e, Vm.textL_append]
    rfl
  subst h
  apply bytes_ext
  rw [ByteArray.data_extract, Array.toList_extract, nums_toList, nums_toList, e2]
  have hl : (numsB (Vm.textL (A.take k))).length = Vm.bytesA (A.take k) := by rw [← Vm.textL_len]; simp [numsB]
  have hu : (numsB (Vm.utfL (Vm.chA x))).length = Vm.lenA x := by unfold Vm.lenA; rw [← Vm.utfL_length]; simp [numsB]
  have hs : ∀ a b, numsB (a ++ b) = numsB a ++ numsB b := fun a b => by simp [numsB]
  rw [hs, hs, List.extract_eq_take_drop, ← hl, List.drop_left, Nat.add_sub_cancel_left, ← hu, List.take_left]
end Go.Proofs.YtoejbngihecafaaDoor
