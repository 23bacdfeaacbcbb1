import Derived.Test.YtjbfgnhkgjigpaaGreatDoorGa2
namespace Vm
/-- The reference's answer as a sign. -/
def refSg (l : Bytes) : Sg := if (utfRef l).2 = 0 then (-1, 1) else utfRef l

theorem ref_none {l : Bytes} (h : utfRef l = (0, 0)) : refSg l = (-1, 1) := by simp [refSg, h]
theorem ref_some {l : Bytes} {n : Int} {k : Nat} (hk : k ≠ 0) (h : utfRef l = (n, k)) : refSg l = (n, k) := by simp [refSg, h, hk]

theorem ok1 (l : Bytes) (r : Nat) : allOk l r 1 = true ↔ 1 < l.length ∧ sqLeast r ≤ b0 l 1 ∧ b0 l 1 ≤ sqMost r := by
  simp [allOk, okAt, goesOnB]
theorem ok2 (l : Bytes) (r : Nat) : allOk l r 2 = true ↔ (1 < l.length ∧ sqLeast r ≤ b0 l 1 ∧ b0 l 1 ≤ sqMost r) ∧ (2 < l.length ∧ 128 ≤ b0 l 2 ∧ b0 l 2 ≤ 191) := by
  simp [allOk, okAt, goesOnB]
theorem ok3 (l : Bytes) (r : Nat) : allOk l r 3 = true ↔ ((1 < l.length ∧ sqLeast r ≤ b0 l 1 ∧ b0 l 1 ≤ sqMost r) ∧ (2 < l.length ∧ 128 ≤ b0 l 2 ∧ b0 l 2 ≤ 191)) ∧ (3 < l.length ∧ 128 ≤ b0 l 3 ∧ b0 l 3 ≤ 191) := by
  simp [allOk, okAt, goesOnB]
theorem rok1 (l : Bytes) : rok l 1 = true ↔ 1 < l.length ∧ 128 ≤ b0 l 1 ∧ b0 l 1 < 192 := by simp [rok, contB]
theorem rok2 (l : Bytes) : rok l 2 = true ↔ (1 < l.length ∧ 128 ≤ b0 l 1 ∧ b0 l 1 < 192) ∧ (2 < l.length ∧ 128 ≤ b0 l 2 ∧ b0 l 2 < 192) := by simp [rok, contB]
theorem rok3 (l : Bytes) : rok l 3 = true ↔ ((1 < l.length ∧ 128 ≤ b0 l 1 ∧ b0 l 1 < 192) ∧ (2 < l.length ∧ 128 ≤ b0 l 2 ∧ b0 l 2 < 192)) ∧ (3 < l.length ∧ 128 ≤ b0 l 3 ∧ b0 l 3 < 192) := by simp [rok, contB]
theorem validB_iff (n : Int) : validB n = true ↔ (0 ≤ n ∧ n ≤ 55295) ∨ (57344 ≤ n ∧ n ≤ 1114111) := by simp [validB]
theorem utfLen_cases (n : Int) : (n < 128 ∧ utfLen n = 1) ∨ (128 ≤ n ∧ n < 2048 ∧ utfLen n = 2) ∨ (2048 ≤ n ∧ n < 65536 ∧ utfLen n = 3) ∨ (65536 ≤ n ∧ utfLen n = 4) := by
  unfold utfLen; (repeat' split) <;> omega
/-- The reference, where its first byte says k bytes. -/
theorem utfRef_some {l : Bytes} {k : Nat} (hk : rk (b0 l 0) = k) (h0 : k ≠ 0) (h1 : rok l (k - 1) = true) (h2 : validB (rpart l k) = true) (h3 : utfLen (rpart l k) = k) : utfRef l = (rpart l k, k) := by
  subst hk; unfold utfRef; rw [if_neg h0, if_neg (by rw [h1]; decide), if_neg (by rw [h2]; decide), if_pos h3]
theorem utfRef_none {l : Bytes} {k : Nat} (hk : rk (b0 l 0) = k) (h : ¬ (rok l (k - 1) = true ∧ validB (rpart l k) = true ∧ utfLen (rpart l k) = k)) : utfRef l = (0, 0) := by
  subst hk; unfold utfRef
  split
  · rfl
  · split
    · rfl
    · split
      · rfl
      · split
        · rename_i a b c d
          exact absurd ⟨by simpa using b, by simpa using c, d⟩ h
        · rfl
theorem rk_cases (c : Int) : (c < 128 ∧ rk c = 1) ∨ (128 ≤ c ∧ c < 192 ∧ rk c = 0) ∨ (192 ≤ c ∧ c < 224 ∧ rk c = 2) ∨ (224 ≤ c ∧ c < 240 ∧ rk c = 3) ∨ (240 ≤ c ∧ c < 248 ∧ rk c = 4) ∨ (248 ≤ c ∧ rk c = 0) := by
  unfold rk; (repeat' split) <;> omega
theorem rn0_cases (c : Int) : (c < 128 ∧ rn0 c = c) ∨ (128 ≤ c ∧ c < 224 ∧ rn0 c = c - 192) ∨ (224 ≤ c ∧ c < 240 ∧ rn0 c = c - 224) ∨ (240 ≤ c ∧ rn0 c = c - 240) := by
  unfold rn0; (repeat' split) <;> omega

/-- Both say yes to the same, and the same. -/
theorem head_of {l : Bytes} {r k : Nat} (hr : sqRow (b0 l 0) = r) (hn : sqN r = k) (hk : rk (b0 l 0) = k) (h0 : k ≠ 0)
    (hiff : allOk l r (k - 1) = true ↔ (rok l (k - 1) = true ∧ validB (rpart l k) = true ∧ utfLen (rpart l k) = k)) (hv : allOk l r (k - 1) = true → partV l r k = rpart l k) : utfHead l = refSg l := by
  cases h : allOk l r (k - 1)
  · rw [ref_none (utfRef_none hk (fun x => by rw [hiff.2 x] at h; cases h))]
    unfold utfHead; rw [hr, hn, h]; rfl
  · obtain ⟨a, b, c⟩ := hiff.1 h
    rw [ref_some h0 (utfRef_some hk h0 a b c), utfHead_good hr (by rw [hn]; exact h), hn, hv h]
theorem head_no {l : Bytes} {r k : Nat} (hr : sqRow (b0 l 0) = r) (hn : allOk l r (sqN r - 1) = false) (hk : rk (b0 l 0) = k)
    (hno : ¬ (rok l (k - 1) = true ∧ validB (rpart l k) = true ∧ utfLen (rpart l k) = k)) : utfHead l = refSg l := by
  rw [ref_none (utfRef_none hk hno)]
  unfold utfHead; rw [hr, hn]; rfl

theorem head_ref (l : Bytes) : utfHead l = refSg l := by
  have hb := b0_bd l 0
  have hb1 := b0_bd l 1
  have hb2 := b0_bd l 2
  have hb3 := b0_bd l 3
  have p2 : rpart l 2 = 64 * rpart l 1 + b0 l 1 - 128 := rfl
  have p3 : rpart l 3 = 64 * rpart l 2 + b0 l 2 - 128 := rfl
  have p4 : rpart l 4 = 64 * rpart l 3 + b0 l 3 - 128 := rfl
  have p1 : rpart l 1 = rn0 (b0 l 0) := rfl
  have q0 := rn0_cases (b0 l 0)
  have k0 := rk_cases (b0 l 0)
  rcases sqRow_cases (b0 l 0) with ⟨a, h⟩ | ⟨a', a, h⟩ | ⟨a', a, h⟩ | ⟨a', a, h⟩ | ⟨a', a, h⟩ | ⟨a', a, h⟩ | ⟨a', a, h⟩ | ⟨a', a, h⟩ | ⟨a', a, h⟩ | ⟨a', a, h⟩ | ⟨a', h⟩
  · refine head_of (k := 1) h rfl (by omega) (by decide) ?_ ?_
    · have e4 := utfLen_cases (rpart l 1)
      have := validB_iff (rpart l 1)
      exact ⟨fun _ => ⟨rfl, this.2 (by omega), by omega⟩, fun _ => rfl⟩
    · intro _
      show b0 l 0 % (sqBits 0 + 1) = _
      rw [show sqBits 0 = 127 from rfl]; omega
  · have hno : allOk l 1 (sqN 1 - 1) = false := by
      cases e : allOk l 1 (sqN 1 - 1)
      · rfl
      · have := (ok1 l 1).1 e
        rw [show sqLeast 1 = 255 from rfl, show sqMost 1 = 0 from rfl] at this
        omega
    rcases k0 with k | k | k | k | k | k
    · omega
    · exact head_no h hno k.2.2 (fun x => by have := x.2.2; have := utfLen_cases (rpart l 0); omega)
    · refine head_no h hno k.2.2 (fun x => ?_)
      have := (rok1 l).1 x.1
      have := utfLen_cases (rpart l 2)
      omega
    · omega
    · omega
    · omega
  · refine head_of (k := 2) h rfl (by omega) (by decide) ?_ ?_
    · have e1 := ok1 l 2
      have e2 := rok1 l
      have e3 := validB_iff (rpart l 2)
      have e4 := utfLen_cases (rpart l 2)
      rw [show sqLeast 2 = 128 from rfl, show sqMost 2 = 191 from rfl] at e1
      constructor
      · intro x; have := e1.1 x; exact ⟨e2.2 (by omega), e3.2 (by omega), by omega⟩
      · rintro ⟨x, y, z⟩; have := e2.1 x; exact e1.2 (by omega)
    · intro x
      have e1 := (ok1 l 2).1 x
      rw [show sqLeast 2 = 128 from rfl, show sqMost 2 = 191 from rfl] at e1
      show 64 * (b0 l 0 % (sqBits 2 + 1)) + b0 l 1 % 64 = _
      rw [show sqBits 2 = 31 from rfl]; omega
  · refine head_of (k := 3) h rfl (by omega) (by decide) ?_ ?_
    · have e1 := ok2 l 3
      have e2 := rok2 l
      have e3 := validB_iff (rpart l 3)
      have e4 := utfLen_cases (rpart l 3)
      rw [show sqLeast 3 = 160 from rfl, show sqMost 3 = 191 from rfl] at e1
      constructor
      · intro x; have := e1.1 x; exact ⟨e2.2 (by omega), e3.2 (by omega), by omega⟩
      · rintro ⟨x, y, z⟩; have := e2.1 x; have := e3.1 y; exact e1.2 (by omega)
    · intro x
      have e1 := (ok2 l 3).1 x
      rw [show sqLeast 3 = 160 from rfl, show sqMost 3 = 191 from rfl] at e1
      show 64 * (64 * (b0 l 0 % (sqBits 3 + 1)) + b0 l 1 % 64) + b0 l 2 % 64 = _
      rw [show sqBits 3 = 15 from rfl]; omega
  · refine head_of (k := 3) h rfl (by omega) (by decide) ?_ ?_
    · have e1 := ok2 l 4
      have e2 := rok2 l
      have e3 := validB_iff (rpart l 3)
      have e4 := utfLen_cases (rpart l 3)
      rw [show sqLeast 4 = 128 from rfl, show sqMost 4 = 191 from rfl] at e1
      constructor
      · intro x; have := e1.1 x; exact ⟨e2.2 (by omega), e3.2 (by omega), by omega⟩
      · rintro ⟨x, y, z⟩; have := e2.1 x; have := e3.1 y; exact e1.2 (by omega)
    · intro x
      have e1 := (ok2 l 4).1 x
      rw [show sqLeast 4 = 128 from rfl, show sqMost 4 = 191 from rfl] at e1
      show 64 * (64 * (b0 l 0 % (sqBits 4 + 1)) + b0 l 1 % 64) + b0 l 2 % 64 = _
      rw [show sqBits 4 = 15 from rfl]; omega
  · refine head_of (k := 3) h rfl (by omega) (by decide) ?_ ?_
    · have e1 := ok2 l 5
      have e2 := rok2 l
      have e3 := validB_iff (rpart l 3)
      have e4 := utfLen_cases (rpart l 3)
      rw [show sqLeast 5 = 128 from rfl, show sqMost 5 = 159 from rfl] at e1
      constructor
      · intro x; have := e1.1 x; exact ⟨e2.2 (by omega), e3.2 (by omega), by omega⟩
      · rintro ⟨x, y, z⟩; have := e2.1 x; have := e3.1 y; exact e1.2 (by omega)
    · intro x
      have e1 := (ok2 l 5).1 x
      rw [show sqLeast 5 = 128 from rfl, show sqMost 5 = 159 from rfl] at e1
      show 64 * (64 * (b0 l 0 % (sqBits 5 + 1)) + b0 l 1 % 64) + b0 l 2 % 64 = _
      rw [show sqBits 5 = 15 from rfl]; omega
  · refine head_of (k := 3) h rfl (by omega) (by decide) ?_ ?_
    · have e1 := ok2 l 6
      have e2 := rok2 l
      have e3 := validB_iff (rpart l 3)
      have e4 := utfLen_cases (rpart l 3)
      rw [show sqLeast 6 = 128 from rfl, show sqMost 6 = 191 from rfl] at e1
      constructor
      · intro x; have := e1.1 x; exact ⟨e2.2 (by omega), e3.2 (by omega), by omega⟩
      · rintro ⟨x, y, z⟩; have := e2.1 x; have := e3.1 y; exact e1.2 (by omega)
    · intro x
      have e1 := (ok2 l 6).1 x
      rw [show sqLeast 6 = 128 from rfl, show sqMost 6 = 191 from rfl] at e1
      show 64 * (64 * (b0 l 0 % (sqBits 6 + 1)) + b0 l 1 % 64) + b0 l 2 % 64 = _
      rw [show sqBits 6 = 15 from rfl]; omega
  · refine head_of (k := 4) h rfl (by omega) (by decide) ?_ ?_
    · have e1 := ok3 l 7
      have e2 := rok3 l
      have e3 := validB_iff (rpart l 4)
      have e4 := utfLen_cases (rpart l 4)
      rw [show sqLeast 7 = 144 from rfl, show sqMost 7 = 191 from rfl] at e1
      constructor
      · intro x; have := e1.1 x; exact ⟨e2.2 (by omega), e3.2 (by omega), by omega⟩
      · rintro ⟨x, y, z⟩; have := e2.1 x; have := e3.1 y; exact e1.2 (by omega)
    · intro x
      have e1 := (ok3 l 7).1 x
      rw [show sqLeast 7 = 144 from rfl, show sqMost 7 = 191 from rfl] at e1
      show 64 * (64 * (64 * (b0 l 0 % (sqBits 7 + 1)) + b0 l 1 % 64) + b0 l 2 % 64) + b0 l 3 % 64 = _
      rw [show sqBits 7 = 7 from rfl]; omega
  · refine head_of (k := 4) h rfl (by omega) (by decide) ?_ ?_
    · have e1 := ok3 l 8
      have e2 := rok3 l
      have e3 := validB_iff (rpart l 4)
      have e4 := utfLen_cases (rpart l 4)
      rw [show sqLeast 8 = 128 from rfl, show sqMost 8 = 191 from rfl] at e1
      constructor
      · intro x; have := e1.1 x; exact ⟨e2.2 (by omega), e3.2 (by omega), by omega⟩
      · rintro ⟨x, y, z⟩; have := e2.1 x; have := e3.1 y; exact e1.2 (by omega)
    · intro x
      have e1 := (ok3 l 8).1 x
      rw [show sqLeast 8 = 128 from rfl, show sqMost 8 = 191 from rfl] at e1
      show 64 * (64 * (64 * (b0 l 0 % (sqBits 8 + 1)) + b0 l 1 % 64) + b0 l 2 % 64) + b0 l 3 % 64 = _
      rw [show sqBits 8 = 7 from rfl]; omega
  · refine head_of (k := 4) h rfl (by omega) (by decide) ?_ ?_
    · have e1 := ok3 l 9
      have e2 := rok3 l
      have e3 := validB_iff (rpart l 4)
      have e4 := utfLen_cases (rpart l 4)
      rw [show sqLeast 9 = 128 from rfl, show sqMost 9 = 143 from rfl] at e1
      constructor
      · intro x; have := e1.1 x; exact ⟨e2.2 (by omega), e3.2 (by omega), by omega⟩
      · rintro ⟨x, y, z⟩; have := e2.1 x; have := e3.1 y; exact e1.2 (by omega)
    · intro x
      have e1 := (ok3 l 9).1 x
      rw [show sqLeast 9 = 128 from rfl, show sqMost 9 = 143 from rfl] at e1
      show 64 * (64 * (64 * (b0 l 0 % (sqBits 9 + 1)) + b0 l 1 % 64) + b0 l 2 % 64) + b0 l 3 % 64 = _
      rw [show sqBits 9 = 7 from rfl]; omega
  · have hno : allOk l 10 (sqN 10 - 1) = false := by
      cases e : allOk l 10 (sqN 10 - 1)
      · rfl
      · have := (ok1 l 10).1 e
        rw [show sqLeast 10 = 255 from rfl, show sqMost 10 = 0 from rfl] at this
        omega
    rcases k0 with k | k | k | k | k | k
    · omega
    · omega
    · omega
    · omega
    · refine head_no h hno k.2.2 (fun x => ?_)
      have := (rok3 l).1 x.1
      have := (validB_iff (rpart l 4)).1 x.2.1
      omega
    · exact head_no h hno k.2 (fun x => by have := x.2.2; have := utfLen_cases (rpart l 0); omega)
theorem utfRef_le (l : Bytes) : (utfRef l).2 ≤ 4 := by
  have := rk_cases (b0 l 0)
  unfold utfRef
  (repeat' split) <;> simp only <;> omega
end Vm

namespace Vm
/-- What the reference reads at the head: character, is it an escape, size. -/
def rd (enc : Int) (l : Bytes) : Option (Int × Bool × Nat) :=
  if l.length = 0 then none
  else if enc = 3 then some (b0 l 0, false, 1)
  else if enc = 0 then (if (utfRef l).2 = 0 then some (0, true, 1) else some ((utfRef l).1, false, (utfRef l).2))
  else if l.length < 2 then none
  else if 55296 ≤ unitAt enc l 0 ∧ unitAt enc l 0 ≤ 56319 ∧ 3 < l.length ∧ 56320 ≤ unitAt enc l 2 ∧ unitAt enc l 2 ≤ 57343 then some (65536 + 1024 * (unitAt enc l 0 - 55296) + unitAt enc l 2 - 56320, false, 4)
  else some (unitAt enc l 0, decide (55296 ≤ unitAt enc l 0) && decide (unitAt enc l 0 ≤ 57343), 2)
/-- .. as a sign. -/
def sgOf (x : Int × Bool × Nat) : Sg := (if x.2.1 then -1 else x.1, x.2.2)
theorem rd_head (enc : Int) (l : Bytes) : (rd enc l).map sgOf = headSg enc l := by
  unfold rd headSg
  by_cases h0 : l.length = 0
  · rw [if_pos h0, if_pos h0]; rfl
  · rw [if_neg h0, if_neg h0]
    by_cases h3 : enc = 3
    · subst h3; rfl
    · rw [if_neg h3]
      by_cases hu : enc = 0
      · rw [if_pos hu, if_pos hu, head_ref]
        unfold refSg
        generalize utfRef l = u
        split
        · rfl
        · simp [sgOf]
      · rw [if_neg hu, if_neg hu, if_neg h3]
        by_cases h2 : l.length < 2
        · rw [if_pos h2, if_pos h2]; rfl
        · rw [if_neg h2, if_neg h2]
          unfold unitHead
          dsimp only
          by_cases hp : 55296 ≤ unitAt enc l 0 ∧ unitAt enc l 0 ≤ 56319 ∧ 3 < l.length ∧ 56320 ≤ unitAt enc l 2 ∧ unitAt enc l 2 ≤ 57343
          · rw [if_pos hp, if_pos hp]
            show some ((65536 + 1024 * (unitAt enc l 0 - 55296) + unitAt enc l 2 - 56320 : Int), 4) = _
            congr 2
            omega
          · rw [if_neg hp, if_neg hp]
            by_cases hs : 55296 ≤ unitAt enc l 0 ∧ unitAt enc l 0 ≤ 57343
            · rw [if_pos hs]; simp [sgOf, hs.1, hs.2]
            · rw [if_neg hs]
              have : (decide (55296 ≤ unitAt enc l 0) && decide (unitAt enc l 0 ≤ 57343)) = false := by
                cases e : (decide (55296 ≤ unitAt enc l 0) && decide (unitAt enc l 0 ≤ 57343))
                · rfl
                · simp at e; exact absurd e hs
              simp [sgOf, this]
end Vm
