import Derived.Test.YtoejbngihecafaaDoorMath10
import Derived.Test.YtoejbngihecafaaDoorRef8toRef11
namespace Vm
def LfOk (a : At) : Prop := (chA a = 10 ↔ a.1 ≤ 2)
theorem single_lf (x : Sg) : LfOk (singleA x) := by
  unfold singleA LfOk chA
  split
  · simp
  · split
    · simp
    · simp; omega
theorem atomsF_lf : ∀ (S : List Sg) (h : Nat), ∀ a ∈ atomsF h S, LfOk a
  | [], h, a, ha => by
    simp only [atomsF] at ha
    split at ha
    · simp only [List.mem_singleton] at ha; subst ha; simp [LfOk, chA]
    · simp at ha
  | x :: r, h, a, ha => by
    simp only [atomsF] at ha
    split at ha
    · simp only [List.mem_cons] at ha
      rcases ha with rfl | ha
      · simp [LfOk, chA]
      · exact atomsF_lf r 0 a ha
    · simp only [List.mem_append] at ha
      rcases ha with ha | ha
      · split at ha
        · simp only [List.mem_singleton] at ha; subst ha; simp [LfOk, chA]
        · simp at ha
      · split at ha
        · exact atomsF_lf r x.2 a ha
        · simp only [List.mem_cons] at ha
          rcases ha with rfl | ha
          · exact single_lf x
          · exact atomsF_lf r 0 a ha
theorem atoms_lf (enc : Int) (l : Bytes) : ∀ a ∈ atoms enc l, LfOk a := atomsF_lf _ 0
/-- How many characters 65533. -/
def oddA (A : List At) : Nat := (A.filter (fun x => decide (chA x = 65533))).length
theorem oddA_take {A : List At} {k : Nat} {x : At} (h : A[k]? = some x) : oddA (A.take (k + 1)) = oddA (A.take k) + if chA x = 65533 then 1 else 0 := by
  rw [List.take_add_one, h]
  unfold oddA
  rw [List.filter_append, List.length_append]
  by_cases g : chA x = 65533 <;> simp [g]
theorem oddA_le (A : List At) : oddA A ≤ A.length := List.length_filter_le _ _
theorem esc_le {A : List At} (h : ∀ a ∈ A, AtOk a) : cntK A 4 ≤ oddA A := by
  induction A with
  | nil => simp [cntK, oddA]
  | cons a A ih =>
    have h1 := h a (by simp)
    have h2 := ih (fun x hx => h x (by simp [hx]))
    have e1 : cntK (a :: A) 4 = cntK A 4 + if a.1 = 4 then 1 else 0 := by
      unfold cntK; by_cases g : a.1 = 4 <;> simp [g]
    have e2 : oddA (a :: A) = oddA A + if chA a = 65533 then 1 else 0 := by
      unfold oddA; by_cases g : chA a = 65533 <;> simp [g]
    rw [e1, e2]
    by_cases g : a.1 = 4
    · rw [if_pos g, if_pos (show chA a = 65533 from h1.2.2.1 g)]; omega
    · rw [if_neg g]; split <;> omega
end Vm
