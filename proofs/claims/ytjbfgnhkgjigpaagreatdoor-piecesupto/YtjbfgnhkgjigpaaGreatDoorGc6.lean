import Derived.Test.YtjbfgnhkgjigpaaGreatDoorGa0
import Derived.Test.YtjbfgnhkgjigpaaGreatDoorGa8
namespace Vm
theorem rd_valid {enc : Int} {l : Bytes} {x : Int × Bool × Nat} (h : rd enc l = some x) (he : x.2.1 = false) : validB x.1 = true := by
  rw [validB_iff]
  unfold rd at h
  by_cases h0 : l.length = 0
  · rw [if_pos h0] at h; cases h
  · rw [if_neg h0] at h
    by_cases h3 : enc = 3
    · rw [if_pos h3] at h
      simp only [Option.some.injEq] at h; subst h
      have := b0_bd l 0
      simp only; omega
    · rw [if_neg h3] at h
      by_cases hu : enc = 0
      · rw [if_pos hu] at h
        have hv := utfRef_valid l
        generalize utfRef l = u at *
        by_cases hk : u.2 = 0
        · rw [if_pos hk] at h
          simp only [Option.some.injEq] at h; subst h
          simp at he
        · rw [if_neg hk] at h
          simp only [Option.some.injEq] at h; subst h
          exact (validB_iff u.1).1 (hv hk).1
      · rw [if_neg hu] at h
        have hb := unitAt_bd enc l 0
        generalize unitAt enc l 0 = u at *
        generalize unitAt enc l 2 = v at *
        by_cases h2 : l.length < 2
        · rw [if_pos h2] at h; cases h
        · rw [if_neg h2] at h
          by_cases hp : 55296 ≤ u ∧ u ≤ 56319 ∧ 3 < l.length ∧ 56320 ≤ v ∧ v ≤ 57343
          · rw [if_pos hp] at h
            simp only [Option.some.injEq] at h; subst h
            simp only; omega
          · rw [if_neg hp] at h
            simp only [Option.some.injEq] at h; subst h
            simp only [Bool.and_eq_false_iff, decide_eq_false_iff_not] at he
            simp only; omega
def SgOk (x : Sg) : Prop := x.1 = -1 ∨ validB x.1 = true
theorem headSg_ok {enc : Int} {l : Bytes} {x : Sg} (h : headSg enc l = some x) : SgOk x := by
  rw [← rd_head] at h
  cases hr : rd enc l with
  | none => rw [hr] at h; cases h
  | some y =>
    rw [hr] at h
    simp only [Option.map_some, Option.some.injEq] at h
    subst h
    unfold sgOf SgOk
    cases hy : y.2.1
    · exact .inr (by simpa using rd_valid hr hy)
    · exact .inl (by simp)
theorem signsF_ok (enc : Int) : ∀ (f : Nat) (l : Bytes) (x : Sg), x ∈ signsF enc f l → SgOk x
  | 0, _, _, h => by simp [signsF] at h
  | f + 1, l, x, h => by
    simp only [signsF] at h
    cases hx : headSg enc l with
    | none => rw [hx] at h; simp at h
    | some y =>
      rw [hx] at h
      simp only [List.mem_cons] at h
      rcases h with rfl | h
      · exact headSg_ok hx
      · exact signsF_ok enc f _ x h
/-- Of an atom: its character may be one, and is not 13. -/
def ChOk (a : At) : Prop := validB (chA a) = true ∧ chA a ≠ 13
theorem single_ch {x : Sg} (h : SgOk x) (h13 : ¬ x.1 = 13) : ChOk (singleA x) := by
  unfold singleA ChOk chA
  split
  · exact ⟨rfl, by simp⟩
  · rename_i h1
    split
    · exact ⟨rfl, by simp⟩
    · rcases h with h | h
      · exact absurd h h1
      · exact ⟨h, h13⟩
theorem atomsF_ch : ∀ (S : List Sg) (h : Nat), (∀ x ∈ S, SgOk x) → ∀ a ∈ atomsF h S, ChOk a
  | [], h, _, a, ha => by
    simp only [atomsF] at ha
    split at ha
    · simp only [List.mem_singleton] at ha; subst ha; exact ⟨rfl, by simp [chA]⟩
    · simp at ha
  | x :: r, h, hS, a, ha => by
    have hx := hS x (by simp)
    have hr : ∀ y ∈ r, SgOk y := fun y hy => hS y (by simp [hy])
    simp only [atomsF] at ha
    split at ha
    · simp only [List.mem_cons] at ha
      rcases ha with rfl | ha
      · exact ⟨rfl, by simp [chA]⟩
      · exact atomsF_ch r 0 hr a ha
    · simp only [List.mem_append] at ha
      rcases ha with ha | ha
      · split at ha
        · simp only [List.mem_singleton] at ha; subst ha; exact ⟨rfl, by simp [chA]⟩
        · simp at ha
      · split at ha
        · exact atomsF_ch r x.2 hr a ha
        · rename_i h13
          simp only [List.mem_cons] at ha
          rcases ha with rfl | ha
          · exact single_ch hx h13
          · exact atomsF_ch r 0 hr a ha
theorem atoms_ch (enc : Int) (l : Bytes) : ∀ a ∈ atoms enc l, ChOk a := atomsF_ch _ 0 (fun x hx => signsF_ok enc _ l x hx)
end Vm

namespace Vm

theorem b0_take {l : Bytes} {k i : Nat} (h : i < k) : b0 (l.take k) i = b0 l i := by
  simp [b0, List.getD, h]
theorem okAt_take {l : Bytes} {r k j : Nat} (h : j < k) : okAt (l.take k) r j = okAt l r j := by
  unfold okAt
  rw [b0_take h, List.length_take]
  congr 1
  by_cases g : j < l.length
  · simp only [g, decide_true, decide_eq_true_eq]; omega
  · simp only [g, decide_false, decide_eq_false_iff_not]; omega
theorem allOk_take {l : Bytes} {r k : Nat} : ∀ {n : Nat}, n < k → allOk (l.take k) r n = allOk l r n
  | 0, _ => rfl
  | n + 1, h => by
    unfold allOk
    rw [allOk_take (by omega), okAt_take h]
/-- A sequence that is there in the first bytes is there. -/
theorem okAt_of_take {l : Bytes} {r k j : Nat} (h : okAt (l.take k) r j = true) : okAt l r j = true := by
  by_cases hj : j < k
  · rwa [okAt_take hj] at h
  · unfold okAt at h
    rw [List.length_take] at h
    have : decide (j < min k l.length) = false := by simp; omega
    rw [this] at h; simp at h
theorem allOk_of_take {l : Bytes} {r k : Nat} : ∀ {n : Nat}, allOk (l.take k) r n = true → allOk l r n = true
  | 0, _ => rfl
  | n + 1, h => by
    unfold allOk at h ⊢
    rw [Bool.and_eq_true] at h ⊢
    exact ⟨allOk_of_take h.1, okAt_of_take h.2⟩
theorem partV_take {l : Bytes} {r k : Nat} : ∀ {n : Nat}, n ≤ k → partV (l.take k) r n = partV l r n
  | 0, _ => rfl
  | 1, h => by unfold partV; rw [b0_take (by omega)]
  | n + 2, h => by unfold partV; rw [partV_take (by omega), b0_take (by omega)]
theorem utfHead_take {l : Bytes} {k : Nat} (h1 : 1 ≤ k) (h : (utfHead l).2 ≤ k) : utfHead (l.take k) = utfHead l := by
  have e0 : b0 (l.take k) 0 = b0 l 0 := b0_take (by omega)
  unfold utfHead at h ⊢
  rw [e0]
  have hp := sqN_pos (sqRow (b0 l 0))
  by_cases g : allOk l (sqRow (b0 l 0)) (sqN (sqRow (b0 l 0)) - 1) = true
  · rw [if_pos g] at h ⊢
    simp only at h
    rw [allOk_take (by omega), if_pos g, partV_take h]
  · rw [if_neg g, if_neg (fun x => g (allOk_of_take x))]
theorem unitAt_take {enc : Int} {l : Bytes} {k i : Nat} (h : i + 1 < k) : unitAt enc (l.take k) i = unitAt enc l i := by
  unfold unitAt; rw [b0_take (by omega), b0_take h]
theorem unitHead_take {enc : Int} {l : Bytes} {k : Nat} (h1 : 2 ≤ k) (h : (unitHead enc l).2 ≤ k) : unitHead enc (l.take k) = unitHead enc l := by
  have e0 : unitAt enc (l.take k) 0 = unitAt enc l 0 := unitAt_take (by omega)
  unfold unitHead at h ⊢
  dsimp only at h ⊢
  rw [e0, List.length_take]
  by_cases hk : 4 ≤ k
  · have e2 : unitAt enc (l.take k) 2 = unitAt enc l 2 := unitAt_take (by omega)
    rw [e2]
    by_cases g : 3 < l.length
    · have g' : 3 < min k l.length := by omega
      simp only [g, g']
    · have g' : ¬ 3 < min k l.length := by omega
      simp only [g, g']
  · have g' : ¬ 3 < min k l.length := by omega
    by_cases g : 55296 ≤ unitAt enc l 0 ∧ unitAt enc l 0 ≤ 56319 ∧ 3 < l.length ∧ 56320 ≤ unitAt enc l 2 ∧ unitAt enc l 2 ≤ 57343
    · rw [if_pos g] at h
      exact absurd h hk
    · rw [if_neg g, if_neg (fun x => g' x.2.2.1)]
/-- A sign that lies within the first k bytes is read from them. -/
theorem headSg_take {enc : Int} {l : Bytes} {x : Sg} {k : Nat} (h : headSg enc l = some x) (hk : x.2 ≤ k) : headSg enc (l.take k) = some x := by
  obtain ⟨h1, h2⟩ := headSg_size h
  unfold headSg at h ⊢
  have n0 : ¬ l.length = 0 := by omega
  have n0' : ¬ (l.take k).length = 0 := by rw [List.length_take]; omega
  rw [if_neg n0] at h
  rw [if_neg n0']
  by_cases e0 : enc = 0
  · rw [if_pos e0] at h ⊢
    cases h
    rw [utfHead_take (by omega) hk]
  · rw [if_neg e0] at h ⊢
    by_cases e3 : enc = 3
    · rw [if_pos e3] at h ⊢
      cases h
      rw [b0_take (by omega)]
    · rw [if_neg e3] at h ⊢
      by_cases h2 : l.length < 2
      · rw [if_pos h2] at h; cases h
      · rw [if_neg h2] at h
        cases h
        have hu := unitHead_size enc l
        have h2' : ¬ (l.take k).length < 2 := by rw [List.length_take]; omega
        rw [if_neg h2', unitHead_take (by omega) hk]
theorem sqN_le4 (c : Int) : sqN (sqRow c) ≤ 4 := by
  have := sqSize_bd (sqRow c); unfold sqN; omega
/-- Four bytes tell the sign. -/
theorem headSg_four (enc : Int) (l : Bytes) (k : Nat) (hk : 4 ≤ k) : headSg enc (l.take k) = headSg enc l := by
  cases hx : headSg enc l with
  | some x =>
    refine headSg_take hx ?_
    unfold headSg at hx
    split at hx
    · cases hx
    · split at hx
      · cases hx
        unfold utfHead
        split
        · exact Nat.le_trans (sqN_le4 _) hk
        · show 1 ≤ k; omega
      · split at hx
        · cases hx; show 1 ≤ k; omega
        · split at hx
          · cases hx
          · cases hx
            unfold unitHead
            dsimp only
            (repeat' split) <;> simp <;> omega
  | none =>
    unfold headSg at hx ⊢
    rw [List.length_take]
    by_cases n0 : l.length = 0
    · rw [if_pos (by omega)]
    · rw [if_neg n0] at hx
      rw [if_neg (by omega)]
      by_cases e0 : enc = 0
      · rw [if_pos e0] at hx; cases hx
      · rw [if_neg e0] at hx ⊢
        by_cases e3 : enc = 3
        · rw [if_pos e3] at hx; cases hx
        · rw [if_neg e3] at hx ⊢
          by_cases h2 : l.length < 2
          · rw [if_pos (by omega)]
          · rw [if_neg h2] at hx; cases hx
theorem headSg_more (enc : Int) (l r : Bytes) (h : 4 ≤ l.length) : headSg enc (l ++ r) = headSg enc l := by
  rw [← headSg_four enc (l ++ r) 4 (Nat.le_refl _), ← headSg_four enc l 4 (Nat.le_refl _), List.take_append_of_le_length h]

/-- The bytes of signs. -/
def szS (S : List Sg) : Nat := (S.map (fun x => x.2)).sum
theorem szS_cons (x : Sg) (S : List Sg) : szS (x :: S) = x.2 + szS S := by simp [szS]
theorem head_of_signs {enc : Int} {l : Bytes} {x : Sg} {S : List Sg} (h : signs enc l = x :: S) : headSg enc l = some x ∧ signs enc (l.drop x.2) = S := by
  rw [signs_step] at h
  cases hx : headSg enc l with
  | none => rw [hx] at h; cases h
  | some y => rw [hx] at h; injection h with h1 h2; subst h1; exact ⟨rfl, h2⟩
theorem signs_cut {enc : Int} : ∀ {S1 S2 : List Sg} {l : Bytes}, signs enc l = S1 ++ S2 → signs enc (l.take (szS S1)) = S1 ∧ signs enc (l.drop (szS S1)) = S2
  | [], S2, l, h => by
    simp only [szS, List.map_nil, List.sum_nil, List.take_zero, List.drop_zero]
    exact ⟨signs_nil enc, h⟩
  | x :: S1, S2, l, h => by
    obtain ⟨hx, hr⟩ := head_of_signs (h : signs enc l = x :: (S1 ++ S2))
    obtain ⟨h1, h2⟩ := signs_cut hr
    rw [szS_cons]
    constructor
    · rw [signs_some (headSg_take hx (by omega)), List.drop_take, Nat.add_sub_cancel_left, h1]
    · rw [← List.drop_drop]; exact h2
/-- With four bytes more in view the signs are those of all. -/
theorem signs_more {enc : Int} : ∀ {S1 S2 : List Sg} {l r : Bytes}, signs enc l = S1 ++ S2 → szS S1 + 4 ≤ l.length → signs enc (l ++ r) = S1 ++ signs enc ((l ++ r).drop (szS S1))
  | [], S2, l, r, _, _ => by simp [szS]
  | x :: S1, S2, l, r, h, hk => by
    rw [szS_cons] at hk ⊢
    obtain ⟨hx, hr⟩ := head_of_signs (h : signs enc l = x :: (S1 ++ S2))
    have hx' : headSg enc (l ++ r) = some x := by rw [headSg_more _ _ _ (by omega)]; exact hx
    rw [signs_some hx', List.drop_append_of_le_length (by omega), signs_more hr (by rw [List.length_drop]; omega), ← List.drop_append_of_le_length (by omega), List.drop_drop]
    rfl
theorem singleA_size (x : Sg) : (singleA x).2.2 = x.2 := by
  unfold singleA; (repeat' split) <;> rfl
theorem sizeA_cons (a : At) (A : List At) : sizeA (a :: A) = a.2.2 + sizeA A := by simp [sizeA]
/-- Where atoms part, signs part. -/
theorem atomsF_cut : ∀ (S : List Sg) (h : Nat) (A0 A1 : List At), atomsF h S = A0 ++ A1 → (h = 0 ∨ A0 ≠ []) →
    ∃ S1 S2, S = S1 ++ S2 ∧ atomsF h S1 = A0 ∧ atomsF 0 S2 = A1 ∧ h + szS S1 = sizeA A0 ∧ ∀ T, T.head? = S2.head? → atomsF h (S1 ++ T) = A0 ++ atomsF 0 T
  | [], h, A0, A1, e, hc => by
    unfold atomsF at e
    by_cases h0 : 0 < h
    · rw [if_pos h0] at e
      have hA : A0 ≠ [] := hc.resolve_left (by omega)
      obtain ⟨a, A, rfl⟩ := List.exists_cons_of_ne_nil hA
      simp only [List.cons_append, List.cons.injEq] at e
      obtain ⟨rfl, e2⟩ := e
      have e3 := List.append_eq_nil_iff.1 e2.symm
      obtain ⟨rfl, rfl⟩ := e3
      refine ⟨[], [], rfl, by simp [atomsF, h0], by simp [atomsF], by simp [szS, sizeA], ?_⟩
      intro T hT
      have : T = [] := by cases T with | nil => rfl | cons _ _ => simp at hT
      subst this
      simp [atomsF, h0]
    · rw [if_neg h0] at e
      have e3 := List.append_eq_nil_iff.1 e.symm
      obtain ⟨rfl, rfl⟩ := e3
      have : h = 0 := by omega
      subst this
      exact ⟨[], [], rfl, by simp [atomsF], by simp [atomsF], by simp [szS, sizeA], fun T _ => by simp⟩
  | x :: r, h, A0, A1, e, hc => by
    by_cases hA : A0 = []
    · subst hA
      have h0 : h = 0 := hc.resolve_right (by simp)
      subst h0
      exact ⟨[], x :: r, rfl, by simp [atomsF], by simpa using e, by simp [szS, sizeA], fun T _ => by simp⟩
    · obtain ⟨a, A, rfl⟩ := List.exists_cons_of_ne_nil hA
      rw [atomsF] at e
      by_cases hc1 : 0 < h ∧ x.1 = 10
      · rw [if_pos hc1] at e
        simp only [List.cons_append, List.cons.injEq] at e
        obtain ⟨rfl, e2⟩ := e
        obtain ⟨S1, S2, rfl, i2, i3, i4, i5⟩ := atomsF_cut r 0 A A1 e2 (.inl rfl)
        refine ⟨x :: S1, S2, rfl, by rw [atomsF, if_pos hc1, i2], i3, by rw [szS_cons, sizeA_cons]; simp only; omega, ?_⟩
        intro T hT
        rw [List.cons_append, atomsF, if_pos hc1, i5 T hT]; rfl
      · rw [if_neg hc1] at e
        by_cases h0 : 0 < h
        · rw [if_pos h0] at e
          simp only [List.cons_append, List.nil_append, List.cons.injEq] at e
          obtain ⟨rfl, e2⟩ := e
          by_cases hA' : A = []
          · subst hA'
            refine ⟨[], x :: r, rfl, by simp [atomsF, h0], by rw [atomsF, if_neg (show ¬ (0 < 0 ∧ x.1 = 10) from fun q => absurd q.1 (by decide)), if_neg (show ¬ 0 < 0 by decide)]; simpa using e2, by simp [szS, sizeA], ?_⟩
            intro T hT
            obtain ⟨t, rfl⟩ : ∃ t, T = x :: t := by
              cases T with
              | nil => simp at hT
              | cons y t => simp at hT; exact ⟨t, by rw [hT]⟩
            rw [List.nil_append, atomsF, if_neg hc1, if_pos h0, atomsF, if_neg (show ¬ (0 < 0 ∧ x.1 = 10) from fun q => absurd q.1 (by decide)), if_neg (show ¬ 0 < 0 by decide)]; simp
          · by_cases h13 : x.1 = 13
            · rw [if_pos h13] at e2
              obtain ⟨S1, S2, rfl, i2, i3, i4, i5⟩ := atomsF_cut r x.2 A A1 e2 (.inr hA')
              refine ⟨x :: S1, S2, rfl, by rw [atomsF, if_neg hc1, if_pos h0, if_pos h13, i2]; rfl, i3, by rw [szS_cons, sizeA_cons]; simp only; omega, ?_⟩
              intro T hT
              rw [List.cons_append, atomsF, if_neg hc1, if_pos h0, if_pos h13, i5 T hT]; rfl
            · rw [if_neg h13] at e2
              obtain ⟨a2, A2, rfl⟩ := List.exists_cons_of_ne_nil hA'
              simp only [List.cons_append, List.cons.injEq] at e2
              obtain ⟨rfl, e3⟩ := e2
              obtain ⟨S1, S2, rfl, i2, i3, i4, i5⟩ := atomsF_cut r 0 A2 A1 e3 (.inl rfl)
              refine ⟨x :: S1, S2, rfl, by rw [atomsF, if_neg hc1, if_pos h0, if_neg h13, i2]; rfl, i3, by rw [szS_cons, sizeA_cons, sizeA_cons, singleA_size]; simp only; omega, ?_⟩
              intro T hT
              rw [List.cons_append, atomsF, if_neg hc1, if_pos h0, if_neg h13, i5 T hT]; rfl
        · rw [if_neg h0, List.nil_append] at e
          have hz : h = 0 := by omega
          subst hz
          by_cases h13 : x.1 = 13
          · rw [if_pos h13] at e
            obtain ⟨S1, S2, rfl, i2, i3, i4, i5⟩ := atomsF_cut r x.2 (a :: A) A1 e (.inr (by simp))
            refine ⟨x :: S1, S2, rfl, by rw [atomsF, if_neg hc1, if_neg h0, if_pos h13, i2]; rfl, i3, by rw [szS_cons]; omega, ?_⟩
            intro T hT
            rw [List.cons_append, atomsF, if_neg hc1, if_neg h0, if_pos h13, i5 T hT]; rfl
          · rw [if_neg h13] at e
            simp only [List.cons_append, List.cons.injEq] at e
            obtain ⟨rfl, e3⟩ := e
            obtain ⟨S1, S2, rfl, i2, i3, i4, i5⟩ := atomsF_cut r 0 A A1 e3 (.inl rfl)
            refine ⟨x :: S1, S2, rfl, by rw [atomsF, if_neg hc1, if_neg h0, if_neg h13, i2]; rfl, i3, by rw [szS_cons, sizeA_cons, singleA_size]; omega, ?_⟩
            intro T hT
            rw [List.cons_append, atomsF, if_neg hc1, if_neg h0, if_neg h13, i5 T hT]; rfl
theorem szS_le {enc : Int} : ∀ {S1 S2 : List Sg} {l : Bytes}, signs enc l = S1 ++ S2 → szS S1 ≤ l.length
  | [], _, _, _ => by simp [szS]
  | x :: S1, S2, l, h => by
    obtain ⟨hx, hr⟩ := head_of_signs (h : signs enc l = x :: (S1 ++ S2))
    have h1 := (headSg_le hx).2.2
    have h2 := szS_le hr
    rw [List.length_drop] at h2
    rw [szS_cons]; omega
theorem sizeA_le {enc : Int} {l : Bytes} {A0 : List At} (h : A0 <+: atoms enc l) : sizeA A0 ≤ l.length := by
  obtain ⟨A1, hA⟩ := h
  obtain ⟨S1, S2, e1, e2, e3, e4, _⟩ := atomsF_cut (signs enc l) 0 A0 A1 hA.symm (.inl rfl)
  have := szS_le e1
  omega
/-- THE CUT: what ends where an atom does reads alone as it did, and so does the rest. -/
theorem atoms_cut {enc : Int} {l : Bytes} {A0 : List At} (h : A0 <+: atoms enc l) : atoms enc (l.take (sizeA A0)) = A0 ∧ atoms enc l = A0 ++ atoms enc (l.drop (sizeA A0)) := by
  obtain ⟨A1, hA⟩ := h
  obtain ⟨S1, S2, e1, e2, e3, e4, _⟩ := atomsF_cut (signs enc l) 0 A0 A1 hA.symm (.inl rfl)
  obtain ⟨c1, c2⟩ := signs_cut e1
  rw [Nat.zero_add] at e4
  rw [← e4]
  refine ⟨by rw [atoms, c1, e2], ?_⟩
  rw [← hA, ← e3, ← c2]; rfl
/-- With four bytes more in view atoms are those of all. -/
theorem atoms_more {enc : Int} {l r : Bytes} {A0 : List At} (h : A0 <+: atoms enc l) (hk : sizeA A0 + 4 ≤ l.length) : atoms enc (l ++ r) = A0 ++ atoms enc ((l ++ r).drop (sizeA A0)) := by
  obtain ⟨A1, hA⟩ := h
  obtain ⟨S1, S2, e1, e2, e3, e4, e5⟩ := atomsF_cut (signs enc l) 0 A0 A1 hA.symm (.inl rfl)
  obtain ⟨c1, c2⟩ := signs_cut e1
  rw [Nat.zero_add] at e4
  rw [← e4] at hk ⊢
  have hs := signs_more (r := r) e1 hk
  show atomsF 0 (signs enc (l ++ r)) = _
  rw [hs]
  refine e5 _ ?_
  have hd : headSg enc ((l ++ r).drop (szS S1)) = headSg enc (l.drop (szS S1)) := by
    rw [List.drop_append_of_le_length (by omega)]
    exact headSg_more _ _ _ (by rw [List.length_drop]; omega)
  rw [← c2, signs_step, signs_step enc (l.drop (szS S1)), hd]
  cases headSg enc (l.drop (szS S1)) <;> rfl
end Vm
