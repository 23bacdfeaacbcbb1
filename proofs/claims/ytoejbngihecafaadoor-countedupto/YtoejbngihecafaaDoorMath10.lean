import Derived.Test.YtoejbngihecafaaDoorMath1toMath16
import Derived.Test.YtoejbngihecafaaDoorRef8toRef11
namespace Vm
theorem textL_len (A : List At) : (textL A).length = bytesA A := by
  induction A with
  | nil => rfl
  | cons a A ih =>
    have e : textL (a :: A) = utfL (chA a) ++ textL A := rfl
    have e2 : bytesA (a :: A) = lenA a + bytesA A := by simp [bytesA]
    rw [e, e2, List.length_append, utfL_length, ih]; rfl
theorem textL_append (A B : List At) : textL (A ++ B) = textL A ++ textL B := by simp [textL]
theorem textL_at {A : List At} {k : Nat} {x : At} (h : A[k]? = some x) (j : Nat) (hj : j < lenA x) : (textL A)[bytesA (A.take k) + j]? = (utfL (chA x))[j]? := by
  have hk : k < A.length := by
    rcases Nat.lt_or_ge k A.length with g | g
    · exact g
    · rw [List.getElem?_eq_none g] at h; cases h
  have e : A = A.take k ++ (x :: A.drop (k + 1)) := by
    have hx : A[k] = x := by rw [List.getElem?_eq_getElem hk] at h; exact Option.some.inj h
    rw [← hx, List.getElem_cons_drop hk, List.take_append_drop]
  have e2 : textL A = textL (A.take k) ++ (utfL (chA x) ++ textL (A.drop (k + 1))) := by
    conv => lhs; rw [e, textL_append]
    rfl
  rw [e2, ← textL_len, List.getElem?_append_right (by omega), Nat.add_sub_cancel_left, List.getElem?_append_left (by rw [utfL_length]; exact hj)]
/-- What the statement's loop makes of the first byte: how many bytes there are, and what is left of it. -/
def dn (c : Int) : Nat := if 240 ≤ c then 4 else if 224 ≤ c then 3 else if 192 ≤ c then 2 else 1
def dc (c : Int) : Int := if 240 ≤ c then c % 8 else if 224 ≤ c then c % 16 else if 192 ≤ c then c % 32 else c
/-- The number out of the first k bytes of a list. -/
def dpart (l : List Int) : Nat → Int
  | 0 => 0
  | 1 => dc (l.getD 0 0)
  | k + 2 => 64 * dpart l (k + 1) + l.getD (k + 1) 0 % 64
theorem dn_utf {r : Int} (h : validB r = true) : dn ((utfL r).getD 0 0) = utfLen r := by
  have hv : 0 ≤ r ∧ r ≤ 1114111 := by rw [validB_iff] at h; omega
  unfold utfL utfLen dn
  split
  · simp only [List.getD_cons_zero]; rw [if_neg (by omega), if_neg (by omega), if_neg (by omega)]
  · split
    · simp only [List.getD_cons_zero]; rw [if_neg (by omega), if_neg (by omega), if_pos (by omega)]
    · split
      · simp only [List.getD_cons_zero]; rw [if_neg (by omega), if_pos (by omega)]
      · simp only [List.getD_cons_zero]; rw [if_pos (by omega)]
theorem dpart_utf {r : Int} (h : validB r = true) : dpart (utfL r) (utfLen r) = r := by
  have hv : 0 ≤ r ∧ r ≤ 1114111 := by rw [validB_iff] at h; omega
  unfold utfL utfLen
  split
  · simp only [dpart, dc, List.getD_cons_zero]; rw [if_neg (by omega), if_neg (by omega), if_neg (by omega)]
  · split
    · simp only [dpart, dc, List.getD_cons_zero, List.getD_cons_succ]; rw [if_neg (by omega), if_neg (by omega), if_pos (by omega)]; omega
    · split
      · simp only [dpart, dc, List.getD_cons_zero, List.getD_cons_succ]; rw [if_neg (by omega), if_pos (by omega)]; omega
      · simp only [dpart, dc, List.getD_cons_zero, List.getD_cons_succ]; rw [if_pos (by omega)]; omega
end Vm
