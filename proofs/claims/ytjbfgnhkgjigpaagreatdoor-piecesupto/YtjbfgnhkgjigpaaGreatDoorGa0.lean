namespace Vm

/-- The table of first bytes: the greatest first byte of each row. -/
def sqUp (r : Nat) : Int :=
  match r with
  | 0 => 127 | 1 => 193 | 2 => 223 | 3 => 224 | 4 => 236 | 5 => 237 | 6 => 239 | 7 => 240 | 8 => 243 | 9 => 244 | _ => 255
def sqSize (r : Nat) : Int :=
  match r with
  | 0 => 1 | 1 => 2 | 2 => 2 | 3 => 3 | 4 => 3 | 5 => 3 | 6 => 3 | 7 => 4 | 8 => 4 | 9 => 4 | _ => 2
def sqBits (r : Nat) : Int :=
  match r with
  | 0 => 127 | 1 => 0 | 2 => 31 | 3 => 15 | 4 => 15 | 5 => 15 | 6 => 15 | 7 => 7 | 8 => 7 | 9 => 7 | _ => 0
def sqLeast (r : Nat) : Int :=
  match r with
  | 0 => 0 | 1 => 255 | 2 => 128 | 3 => 160 | 4 => 128 | 5 => 128 | 6 => 128 | 7 => 144 | 8 => 128 | 9 => 128 | _ => 255
def sqMost (r : Nat) : Int :=
  match r with
  | 0 => 0 | 1 => 0 | 2 => 191 | 3 => 191 | 4 => 191 | 5 => 159 | 6 => 191 | 7 => 191 | 8 => 191 | 9 => 143 | _ => 0

/-- The row of a first byte. -/
def sqRow (c : Int) : Nat :=
  if c ≤ 127 then 0 else if c ≤ 193 then 1 else if c ≤ 223 then 2 else if c ≤ 224 then 3 else if c ≤ 236 then 4 else if c ≤ 237 then 5
  else if c ≤ 239 then 6 else if c ≤ 240 then 7 else if c ≤ 243 then 8 else if c ≤ 244 then 9 else 10

theorem sqRow_cases (c : Int) : (c ≤ 127 ∧ sqRow c = 0) ∨ (127 < c ∧ c ≤ 193 ∧ sqRow c = 1) ∨ (193 < c ∧ c ≤ 223 ∧ sqRow c = 2) ∨ (223 < c ∧ c ≤ 224 ∧ sqRow c = 3) ∨ (224 < c ∧ c ≤ 236 ∧ sqRow c = 4) ∨
    (236 < c ∧ c ≤ 237 ∧ sqRow c = 5) ∨ (237 < c ∧ c ≤ 239 ∧ sqRow c = 6) ∨ (239 < c ∧ c ≤ 240 ∧ sqRow c = 7) ∨ (240 < c ∧ c ≤ 243 ∧ sqRow c = 8) ∨ (243 < c ∧ c ≤ 244 ∧ sqRow c = 9) ∨ (244 < c ∧ sqRow c = 10) := by
  unfold sqRow; (repeat' split) <;> omega
theorem sqRow_le (c : Int) : sqRow c ≤ 10 := by have := sqRow_cases c; omega
theorem sqUp_all : sqUp 0 = 127 ∧ sqUp 1 = 193 ∧ sqUp 2 = 223 ∧ sqUp 3 = 224 ∧ sqUp 4 = 236 ∧ sqUp 5 = 237 ∧ sqUp 6 = 239 ∧ sqUp 7 = 240 ∧ sqUp 8 = 243 ∧ sqUp 9 = 244 ∧ sqUp 10 = 255 := ⟨rfl, rfl, rfl, rfl, rfl, rfl, rfl, rfl, rfl, rfl, rfl⟩
theorem sqRow_lt {c : Int} {k : Nat} (hk : k < sqRow c) : sqUp k < c := by
  have h := sqRow_cases c
  obtain ⟨u0, u1, u2, u3, u4, u5, u6, u7, u8, u9, u10⟩ := sqUp_all
  have hk' : k = 0 ∨ k = 1 ∨ k = 2 ∨ k = 3 ∨ k = 4 ∨ k = 5 ∨ k = 6 ∨ k = 7 ∨ k = 8 ∨ k = 9 := by omega
  rcases hk' with rfl | rfl | rfl | rfl | rfl | rfl | rfl | rfl | rfl | rfl <;> omega
theorem sqRow_at {c : Int} (h0 : c ≤ 255) : c ≤ sqUp (sqRow c) := by
  obtain ⟨u0, u1, u2, u3, u4, u5, u6, u7, u8, u9, u10⟩ := sqUp_all
  rcases sqRow_cases c with ⟨a, h⟩ | ⟨_, a, h⟩ | ⟨_, a, h⟩ | ⟨_, a, h⟩ | ⟨_, a, h⟩ | ⟨_, a, h⟩ | ⟨_, a, h⟩ | ⟨_, a, h⟩ | ⟨_, a, h⟩ | ⟨_, a, h⟩ | ⟨_, h⟩ <;> rw [h] <;> omega
theorem sqRow_of {c : Int} {k : Nat} (hk : k ≤ sqRow c) (h : c ≤ sqUp k) : k = sqRow c := by
  by_cases e : k = sqRow c
  · exact e
  · have := sqRow_lt (show k < sqRow c by omega); omega
theorem sqUp_bd (k : Nat) : 0 ≤ sqUp k ∧ sqUp k ≤ 255 := by unfold sqUp; split <;> omega

/-! ### Signs: characters and escapes with how many bytes each has, line ends not yet put together -/
abbrev Sg := Int × Nat
abbrev Bytes := List UInt8

def b0 (l : Bytes) (i : Nat) : Int := ((l.getD i 0).toNat : Int)

/-- May a byte stand k bytes behind the first one? -/
def goesOnB (l m k c : Int) : Bool := if k = 1 then decide (l ≤ c) && decide (c ≤ m) else decide (128 ≤ c) && decide (c ≤ 191)
/-- Does the sequence go on at k? -/
def okAt (l : Bytes) (r k : Nat) : Bool := decide (k < l.length) && goesOnB (sqLeast r) (sqMost r) k (b0 l k)
/-- .. at 1 to n? -/
def allOk (l : Bytes) (r : Nat) : Nat → Bool
  | 0 => true
  | n + 1 => allOk l r n && okAt l r (n + 1)
/-- The number out of the first k bytes. -/
def partV (l : Bytes) (r : Nat) : Nat → Int
  | 0 => 0
  | 1 => b0 l 0 % (sqBits r + 1)
  | k + 2 => 64 * partV l r (k + 1) + b0 l (k + 1) % 64
def sqN (r : Nat) : Nat := (sqSize r).toNat
/-- The sign at the head of bytes in UTF-8. -/
def utfHead (l : Bytes) : Sg :=
  if allOk l (sqRow (b0 l 0)) (sqN (sqRow (b0 l 0)) - 1) then (partV l (sqRow (b0 l 0)) (sqN (sqRow (b0 l 0))), sqN (sqRow (b0 l 0))) else (-1, 1)

/-- A unit at a place: encoding 1: the low byte first. -/
def unitAt (enc : Int) (l : Bytes) (i : Nat) : Int :=
  if enc = 1 then b0 l i + 256 * b0 l (i + 1) else 256 * b0 l i + b0 l (i + 1)

/-- The sign at the head of at least two bytes in UTF-16. -/
def unitHead (enc : Int) (l : Bytes) : Sg :=
  let u := unitAt enc l 0
  let v := unitAt enc l 2
  if 55296 ≤ u ∧ u ≤ 56319 ∧ 3 < l.length ∧ 56320 ≤ v ∧ v ≤ 57343 then (65536 + 1024 * (u - 55296) + (v - 56320), 4)
  else if 55296 ≤ u ∧ u ≤ 57343 then (-1, 2) else (u, 2)

/-- The sign at the head, if there is one. -/
def headSg (enc : Int) (l : Bytes) : Option Sg :=
  if l.length = 0 then none
  else if enc = 0 then some (utfHead l)
  else if enc = 3 then some (b0 l 0, 1)
  else if l.length < 2 then none
  else some (unitHead enc l)

def signsF (enc : Int) : Nat → Bytes → List Sg
  | 0, _ => []
  | f + 1, l => match headSg enc l with
    | none => []
    | some x => x :: signsF enc f (l.drop x.2)
def signs (enc : Int) (l : Bytes) : List Sg := signsF enc l.length l

theorem sqSize_bd (r : Nat) : 1 ≤ sqSize r ∧ sqSize r ≤ 4 := by unfold sqSize; split <;> omega
theorem sqN_pos (r : Nat) : 1 ≤ sqN r := by have := sqSize_bd r; unfold sqN; omega
theorem sqN_le (r : Nat) : sqN r ≤ 4 := by have := sqSize_bd r; unfold sqN; omega
theorem sqN_cast (r : Nat) : sqSize r = (sqN r : Int) := by have := sqSize_bd r; unfold sqN; omega
theorem sqBits_bd (r : Nat) : 0 ≤ sqBits r ∧ sqBits r ≤ 127 := by unfold sqBits; split <;> omega
theorem utfHead_size (l : Bytes) : 1 ≤ (utfHead l).2 := by
  unfold utfHead; split
  · exact sqN_pos _
  · exact Nat.le_refl _
theorem unitHead_size (enc : Int) (l : Bytes) : 2 ≤ (unitHead enc l).2 := by
  unfold unitHead; dsimp only; (repeat' split) <;> simp
theorem headSg_size {enc : Int} {l : Bytes} {x : Sg} (h : headSg enc l = some x) : 1 ≤ x.2 ∧ 0 < l.length := by
  unfold headSg at h
  split at h
  · cases h
  · split at h
    · cases h; exact ⟨utfHead_size l, by omega⟩
    · split at h
      · cases h; exact ⟨Nat.le_refl _, by omega⟩
      · split at h
        · cases h
        · cases h; exact ⟨Nat.le_trans (by decide) (unitHead_size enc l), by omega⟩
theorem signsF_enough (enc : Int) : ∀ (f g : Nat) (l : Bytes), l.length ≤ f → l.length ≤ g → signsF enc f l = signsF enc g l
  | 0, 0, _, _, _ => rfl
  | 0, g + 1, l, h, _ => by
    cases l with
    | nil => simp [signsF, headSg]
    | cons a r => simp at h
  | f + 1, 0, l, _, h => by
    cases l with
    | nil => simp [signsF, headSg]
    | cons a r => simp at h
  | f + 1, g + 1, l, hf, hg => by
    simp only [signsF]
    cases hx : headSg enc l with
    | none => rfl
    | some x =>
      obtain ⟨h1, h2⟩ := headSg_size hx
      have hl : (l.drop x.2).length ≤ l.length - 1 := by rw [List.length_drop]; omega
      simp only
      rw [signsF_enough enc f g (l.drop x.2) (by omega) (by omega)]
/-- One step of reading. -/
theorem signs_step (enc : Int) (l : Bytes) : signs enc l = match headSg enc l with | none => [] | some x => x :: signs enc (l.drop x.2) := by
  cases l with
  | nil => simp [signs, signsF, headSg]
  | cons a r =>
    show signsF enc (r.length + 1) (a :: r) = _
    simp only [signsF]
    cases hx : headSg enc (a :: r) with
    | none => rfl
    | some x =>
      obtain ⟨h1, h2⟩ := headSg_size hx
      simp only [signs]
      rw [signsF_enough enc r.length _ _ (by rw [List.length_drop]; simp; omega) (Nat.le_refl _)]
theorem signs_nil (enc : Int) : signs enc [] = [] := by simp [signs, signsF]
theorem signs_some {enc : Int} {l : Bytes} {x : Sg} (h : headSg enc l = some x) : signs enc l = x :: signs enc (l.drop x.2) := by rw [signs_step, h]
theorem signs_none {enc : Int} {l : Bytes} (h : headSg enc l = none) : signs enc l = [] := by rw [signs_step, h]

theorem snoc_pre {α : Type} (pre r : List α) (x : α) : pre ++ [x] <+: pre ++ x :: r := ⟨r, by simp⟩
theorem sg_next {enc : Int} {bl : Bytes} {k : Nat} {pre : List Sg} {x : Sg} (hs : signs enc bl = pre ++ signs enc (bl.drop k)) (hx : headSg enc (bl.drop k) = some x) :
    pre ++ [x] <+: signs enc bl ∧ signs enc bl = (pre ++ [x]) ++ signs enc (bl.drop (k + x.2)) := by
  have := signs_some hx
  rw [List.drop_drop] at this
  rw [hs, this]
  exact ⟨snoc_pre _ _ _, by simp⟩
theorem sg_end {enc : Int} {bl : Bytes} {k : Nat} {pre : List Sg} (hs : signs enc bl = pre ++ signs enc (bl.drop k)) (hx : headSg enc (bl.drop k) = none) : signs enc bl = pre := by
  rw [hs, signs_none hx]; simp
theorem b0_drop (l : Bytes) (k i : Nat) : b0 (l.drop k) i = b0 l (k + i) := by simp [b0, List.getD]
theorem b0_bd (l : Bytes) (i : Nat) : 0 ≤ b0 l i ∧ b0 l i ≤ 255 := by
  unfold b0; have := (l.getD i 0).toNat_lt; omega
theorem b0_byte (b : ByteArray) (k : Nat) (h : k < b.size) : b0 b.data.toList k = (b[k].toNat : Int) := by
  unfold b0
  have : b.data.toList.getD k 0 = b[k] := by
    rw [List.getD_eq_getElem?_getD, List.getElem?_eq_getElem (by simpa using h)]; rfl
  rw [this]
theorem len_drop (b : ByteArray) (k : Nat) : (b.data.toList.drop k).length = b.size - k := by rw [List.length_drop]; rfl
theorem latin_some (b : ByteArray) (k : Nat) (h : k < b.size) : headSg 3 (b.data.toList.drop k) = some ((b[k].toNat : Int), 1) := by
  have e := len_drop b k
  unfold headSg
  rw [if_neg (by omega), if_neg (by decide), if_pos rfl, b0_drop, Nat.add_zero, b0_byte b k h]
theorem any_none (enc : Int) (b : ByteArray) (k : Nat) (h : b.size ≤ k) : headSg enc (b.data.toList.drop k) = none := by
  have e := len_drop b k
  unfold headSg
  rw [if_pos (by omega)]
theorem allOk_false {l : Bytes} {r n k : Nat} (hk : 1 ≤ k) (hn : k ≤ n) (h : okAt l r k = false) : allOk l r n = false := by
  induction n with
  | zero => omega
  | succ n ih =>
    by_cases e : k = n + 1
    · subst e; simp [allOk, h]
    · simp [allOk, ih (by omega)]
theorem partV_bd (l : Bytes) (r : Nat) : ∀ k, k ≤ 4 → 0 ≤ partV l r k ∧ partV l r k ≤ 33554431 := by
  have h1 : 0 ≤ partV l r 1 ∧ partV l r 1 ≤ 127 := by
    have := sqBits_bd r
    simp only [partV]
    have e1 := Int.emod_nonneg (b0 l 0) (b := sqBits r + 1) (by omega)
    have e2 := Int.emod_lt_of_pos (b0 l 0) (b := sqBits r + 1) (by omega)
    omega
  have h2 : partV l r 2 = 64 * partV l r 1 + b0 l 1 % 64 := rfl
  have h3 : partV l r 3 = 64 * partV l r 2 + b0 l 2 % 64 := rfl
  have h4 : partV l r 4 = 64 * partV l r 3 + b0 l 3 % 64 := rfl
  intro k hk
  have : k = 0 ∨ k = 1 ∨ k = 2 ∨ k = 3 ∨ k = 4 := by omega
  rcases this with rfl | rfl | rfl | rfl | rfl
  · simp [partV]
  all_goals omega
theorem utf_some (b : ByteArray) (k : Nat) (h : k < b.size) : headSg 0 (b.data.toList.drop k) = some (utfHead (b.data.toList.drop k)) := by
  have e := len_drop b k
  unfold headSg
  rw [if_neg (by omega), if_pos rfl]
theorem okAt_end {b : ByteArray} {k j r : Nat} (h : b.size ≤ k + j) : okAt (b.data.toList.drop k) r j = false := by
  have e := len_drop b k
  simp [okAt, show ¬ j < b.size - k by omega, e]
theorem okAt_in {b : ByteArray} {k j r : Nat} (h : k + j < b.size) : okAt (b.data.toList.drop k) r j = goesOnB (sqLeast r) (sqMost r) j (b[k + j].toNat : Int) := by
  have e := len_drop b k
  unfold okAt
  rw [b0_drop, b0_byte b (k + j) h, e]
  simp [show j < b.size - k by omega]
theorem utfHead_bad {l : Bytes} {r j : Nat} (hr : sqRow (b0 l 0) = r) (h1 : 1 ≤ j) (h2 : j < sqN r) (h : okAt l r j = false) : utfHead l = (-1, 1) := by
  unfold utfHead; rw [hr, allOk_false h1 (show j ≤ sqN r - 1 by omega) h]; rfl
theorem utfHead_good {l : Bytes} {r : Nat} (hr : sqRow (b0 l 0) = r) (h : allOk l r (sqN r - 1) = true) : utfHead l = (partV l r (sqN r), sqN r) := by
  unfold utfHead; rw [hr, h]; rfl
theorem allOk_succ {l : Bytes} {r j : Nat} (h1 : 1 ≤ j) (h : allOk l r (j - 1) = true) (h2 : okAt l r j = true) : allOk l r j = true := by
  obtain ⟨i, rfl⟩ : ∃ i, j = i + 1 := ⟨j - 1, by omega⟩
  simp only [Nat.add_sub_cancel] at h
  simp [allOk, h, h2]
theorem partV_succ (l : Bytes) (r j : Nat) (h1 : 1 ≤ j) : partV l r (j + 1) = 64 * partV l r j + b0 l j % 64 := by
  obtain ⟨i, rfl⟩ : ∃ i, j = i + 1 := ⟨j - 1, by omega⟩
  rfl
theorem sqBits_cases (r : Nat) : sqBits r = 127 ∨ sqBits r = 31 ∨ sqBits r = 15 ∨ sqBits r = 7 ∨ sqBits r = 0 := by unfold sqBits; split <;> simp
/-- The unit at a place, -1 where there are no two bytes. -/
def unitO (enc : Int) (b : ByteArray) (i : Nat) : Int := if i + 1 < b.size then unitAt enc b.data.toList i else -1
theorem unitAt_bd (enc : Int) (l : Bytes) (i : Nat) : 0 ≤ unitAt enc l i ∧ unitAt enc l i ≤ 65535 := by
  have h1 := b0_bd l i
  have h2 := b0_bd l (i + 1)
  unfold unitAt; split <;> omega
theorem unitO_bd (enc : Int) (b : ByteArray) (i : Nat) : -1 ≤ unitO enc b i ∧ unitO enc b i ≤ 65535 := by
  have := unitAt_bd enc b.data.toList i
  unfold unitO; split <;> omega
theorem unitAt_1 (l : Bytes) (i : Nat) : unitAt 1 l i = b0 l i + 256 * b0 l (i + 1) := by simp [unitAt]
theorem unitAt_2 (l : Bytes) (i : Nat) : unitAt 2 l i = 256 * b0 l i + b0 l (i + 1) := by simp [unitAt]
/-- What a unit is that belongs to no pair. -/
def aloneI (u : Int) : Int := if 55296 ≤ u ∧ u ≤ 57343 then -1 else u
def isPair (u v : Int) : Prop := (55296 ≤ u ∧ u ≤ 56319) ∧ (56320 ≤ v ∧ v ≤ 57343)
theorem unitAt_drop (enc : Int) (l : Bytes) (k i : Nat) : unitAt enc (l.drop k) i = unitAt enc l (k + i) := by
  unfold unitAt; simp only [b0_drop, Nat.add_assoc]
theorem unit_lone {enc : Int} {b : ByteArray} {i : Nat} (he : enc = 1 ∨ enc = 2) (h : i + 1 < b.size) (hp : ¬ isPair (unitO enc b i) (unitO enc b (i + 2))) :
    headSg enc (b.data.toList.drop i) = some (aloneI (unitO enc b i), 2) := by
  have e := len_drop b i
  have hu : unitO enc b i = unitAt enc b.data.toList i := by unfold unitO; rw [if_pos h]
  unfold headSg
  rw [if_neg (by omega), if_neg (by omega), if_neg (by omega), if_neg (by omega)]
  unfold unitHead
  dsimp only
  rw [unitAt_drop, unitAt_drop, Nat.add_zero, e, ← hu]
  rw [if_neg]
  · unfold aloneI; split <;> rfl
  · rintro ⟨h1, h2, h3, h4, h5⟩
    apply hp
    unfold isPair
    have hv : unitO enc b (i + 2) = unitAt enc b.data.toList (i + 2) := by unfold unitO; rw [if_pos (by omega)]
    rw [hv]
    exact ⟨⟨h1, h2⟩, h4, h5⟩
theorem unit_pair {enc : Int} {b : ByteArray} {i : Nat} (he : enc = 1 ∨ enc = 2) (h : i + 1 < b.size) (hp : isPair (unitO enc b i) (unitO enc b (i + 2))) :
    headSg enc (b.data.toList.drop i) = some (65536 + 1024 * (unitO enc b i - 55296) + (unitO enc b (i + 2) - 56320), 4) ∧ i + 3 < b.size := by
  have e := len_drop b i
  have h3 : i + 3 < b.size := by
    by_cases x : i + 3 < b.size
    · exact x
    · have : unitO enc b (i + 2) = -1 := by unfold unitO; rw [if_neg (by omega)]
      unfold isPair at hp; omega
  have hu : unitO enc b i = unitAt enc b.data.toList i := by unfold unitO; rw [if_pos h]
  have hv : unitO enc b (i + 2) = unitAt enc b.data.toList (i + 2) := by unfold unitO; rw [if_pos (by omega)]
  refine ⟨?_, h3⟩
  unfold headSg
  rw [if_neg (by omega), if_neg (by omega), if_neg (by omega), if_neg (by omega)]
  unfold unitHead
  dsimp only
  rw [unitAt_drop, unitAt_drop, Nat.add_zero, e, ← hu, ← hv, if_pos]
  unfold isPair at hp
  omega
theorem unit_none {enc : Int} {b : ByteArray} {i : Nat} (he : enc = 1 ∨ enc = 2) (h : b.size ≤ i + 1) : headSg enc (b.data.toList.drop i) = none := by
  have e := len_drop b i
  unfold headSg
  by_cases x : (b.data.toList.drop i).length = 0
  · rw [if_pos x]
  · rw [if_neg x, if_neg (by omega), if_neg (by omega), if_pos (by omega)]

/-! ### Atoms: kind, character in the text, size -/
abbrev At := Int × Int × Nat
def singleA (x : Sg) : At := if x.1 = -1 then (4, 65533, x.2) else if x.1 = 10 then (0, 10, x.2) else (3, x.1, x.2)
/-- The atoms of signs, a 13 of so many bytes being held. -/
def atomsF : Nat → List Sg → List At
  | h, [] => if 0 < h then [(2, 10, h)] else []
  | h, x :: r => if 0 < h ∧ x.1 = 10 then (1, 10, x.2 + h) :: atomsF 0 r
    else (if 0 < h then [(2, 10, h)] else []) ++ (if x.1 = 13 then atomsF x.2 r else singleA x :: atomsF 0 r)
def atoms (enc : Int) (l : Bytes) : List At := atomsF 0 (signs enc l)
/-- out has been told and h is held when pre has come. -/
def Told (pre : List Sg) (out : List At) (h : Nat) : Prop := ∀ rest, atomsF 0 (pre ++ rest) = out ++ atomsF h rest
theorem Told.nil : Told [] [] 0 := fun _ => by simp
theorem Told.crlf {pre : List Sg} {out : List At} {h : Nat} {x : Sg} (t : Told pre out h) (h0 : 0 < h) (hx : x.1 = 10) : Told (pre ++ [x]) (out ++ [(1, 10, x.2 + h)]) 0 := fun rest => by
  have := t (x :: rest)
  simp only [atomsF, h0, hx, and_self, if_true] at this
  simpa using this
theorem Told.cr {pre : List Sg} {out : List At} {h : Nat} {x : Sg} (t : Told pre out h) (h0 : h = 0) (hx : x.1 = 13) : Told (pre ++ [x]) out x.2 := fun rest => by
  subst h0
  have := t (x :: rest)
  simp [atomsF, hx] at this
  simpa using this
theorem Told.one {pre : List Sg} {out : List At} {h : Nat} {x : Sg} (t : Told pre out h) (h0 : h = 0) (hx : x.1 ≠ 13) : Told (pre ++ [x]) (out ++ [singleA x]) 0 := fun rest => by
  subst h0
  have := t (x :: rest)
  simp [atomsF, hx] at this
  simpa using this
theorem Told.cr2 {pre : List Sg} {out : List At} {h : Nat} {x : Sg} (t : Told pre out h) (h0 : 0 < h) (hx : x.1 = 13) : Told (pre ++ [x]) (out ++ [(2, 10, h)]) x.2 := fun rest => by
  have := t (x :: rest)
  simp [atomsF, hx, h0] at this
  simpa using this
theorem Told.one2 {pre : List Sg} {out : List At} {h : Nat} {x : Sg} (t : Told pre out h) (h0 : 0 < h) (hx : x.1 ≠ 13) (hx2 : x.1 ≠ 10) : Told (pre ++ [x]) (out ++ [(2, 10, h)] ++ [singleA x]) 0 := fun rest => by
  have := t (x :: rest)
  simp [atomsF, hx, hx2, h0] at this
  simpa using this
theorem pre_trans {α : Type} {a b c : List α} (h : a <+: b) (k : b <+: c) : a <+: c := h.trans k
/-- What has been told is a beginning of all that is told. -/
theorem Told.pre {pre all : List Sg} {out : List At} {h : Nat} (t : Told pre out h) (hp : pre <+: all) : out <+: atomsF 0 all := by
  obtain ⟨r, rfl⟩ := hp
  rw [t r]
  exact ⟨_, rfl⟩
/-- .. and if a 13 is held, and what follows is no 10, its line end comes next. -/
theorem Told.pre_cr {pre all : List Sg} {out : List At} {h : Nat} {x : Sg} (t : Told pre out h) (h0 : 0 < h) (hx : x.1 ≠ 10) (hp : pre ++ [x] <+: all) : out ++ [(2, 10, h)] <+: atomsF 0 all := by
  obtain ⟨r, rfl⟩ := hp
  have := t (x :: r)
  simp only [atomsF, h0, hx, and_false, if_false, if_true] at this
  rw [List.append_assoc, List.singleton_append, this]
  exact ⟨if x.1 = 13 then atomsF x.2 r else singleA x :: atomsF 0 r, by simp⟩
theorem Told.all {all : List Sg} {out : List At} {h : Nat} (t : Told all out h) : atomsF 0 all = out ++ (if 0 < h then [(2, 10, h)] else []) := by
  have := t []
  simpa [atomsF] using this
end Vm

namespace Vm
theorem headSg_le {enc : Int} {l : Bytes} {x : Sg} (h : headSg enc l = some x) : 1 ≤ x.2 ∧ x.2 ≤ 4 ∧ x.2 ≤ l.length := by
  unfold headSg at h
  split at h
  · cases h
  · split at h
    · cases h
      unfold utfHead
      split
      · rename_i _ _ hok
        have h1 := sqN_pos (sqRow (b0 l 0))
        have h2 := sqN_le (sqRow (b0 l 0))
        refine ⟨h1, h2, ?_⟩
        by_cases e : sqN (sqRow (b0 l 0)) = 1
        · show sqN _ ≤ _; omega
        · obtain ⟨n, hn⟩ : ∃ n, sqN (sqRow (b0 l 0)) = n + 2 := ⟨sqN (sqRow (b0 l 0)) - 2, by omega⟩
          rw [hn] at hok
          simp only [allOk, show n + 2 - 1 = n + 1 from rfl, Bool.and_eq_true] at hok
          have := hok.2
          simp only [okAt, Bool.and_eq_true, decide_eq_true_eq] at this
          show sqN _ ≤ _
          omega
      · show 1 ≤ 1 ∧ 1 ≤ 4 ∧ 1 ≤ l.length; omega
    · split at h
      · cases h; show 1 ≤ 1 ∧ 1 ≤ 4 ∧ 1 ≤ l.length; omega
      · split at h
        · cases h
        · cases h
          unfold unitHead
          dsimp only
          split
          · show 1 ≤ 4 ∧ 4 ≤ 4 ∧ 4 ≤ l.length; omega
          · split
            · show 1 ≤ 2 ∧ 2 ≤ 4 ∧ 2 ≤ l.length; omega
            · show 1 ≤ 2 ∧ 2 ≤ 4 ∧ 2 ≤ l.length; omega
theorem signsF_le (enc : Int) : ∀ (f : Nat) (l : Bytes) (x : Sg), x ∈ signsF enc f l → 1 ≤ x.2 ∧ x.2 ≤ 4
  | 0, _, _, h => by simp [signsF] at h
  | f + 1, l, x, h => by
    simp only [signsF] at h
    cases hx : headSg enc l with
    | none => rw [hx] at h; simp at h
    | some y =>
      rw [hx] at h
      simp only [List.mem_cons] at h
      rcases h with rfl | h
      · exact ⟨(headSg_le hx).1, (headSg_le hx).2.1⟩
      · exact signsF_le enc f _ x h
theorem signs_le {enc : Int} {l : Bytes} {x : Sg} {pre : List Sg} (h : pre ++ [x] <+: signs enc l) : 1 ≤ x.2 ∧ x.2 ≤ 4 :=
  signsF_le enc _ l x (h.subset (by simp))
/-- A character in UTF-8, as numbers. -/
def utfL (n : Int) : List Int :=
  if n < 128 then [n] else if n < 2048 then [192 + n / 64, 128 + n % 64]
  else if n < 65536 then [224 + n / 4096, 128 + n / 64 % 64, 128 + n % 64]
  else [240 + n / 262144, 128 + n / 4096 % 64, 128 + n / 64 % 64, 128 + n % 64]
def utfLen (n : Int) : Nat := if n < 128 then 1 else if n < 2048 then 2 else if n < 65536 then 3 else 4
theorem utfL_length (n : Int) : (utfL n).length = utfLen n := by unfold utfL utfLen; (repeat' split) <;> rfl
def validB (n : Int) : Bool := (decide (0 ≤ n) && decide (n ≤ 55295)) || (decide (57344 ≤ n) && decide (n ≤ 1114111))
end Vm
