import Derived.Maps.AppendAt
import Derived.Test.YtjbfgnhkgjigpaaDoorProg
import Derived.WalkKit
import Derived.WalkSpells
import Derived.WalkLawsBesides
import Derived.Deep.QuietTactic
import Derived.BigQuiet
import Derived.Test.YtjbfgnhkgjigpaaDoorGa1
import Derived.Test.YtjbfgnhkgjigpaaDoorGa3
import Derived.Test.YtjbfgnhkgjigpaaDoorGa4
namespace Vm
theorem rd_valid {enc : Int} {l : Bytes} {x : Int × Bool × Nat} (h : rd enc l = some x) (he : x.2.1 = false) : validB x.1 = true := by
  rw [validB_iff]
  unfold rd at h
  by_cases h0 : l.length = 0
  · rw [if_pos h0] at h; cases h
  · rw [if_neg h0] at h
    by_cases h3 : enc = 3
    · rw [if_pos h3] at h
      simp only [Option.some.injEq] at h; subst h
      have := b0_bd l 0
      simp only; omega
    · rw [if_neg h3] at h
      by_cases hu : enc = 0
      · rw [if_pos hu] at h
        have hv := utfRef_valid l
        generalize utfRef l = u at *
        by_cases hk : u.2 = 0
        · rw [if_pos hk] at h
          simp only [Option.some.injEq] at h; subst h
          simp at he
        · rw [if_neg hk] at h
          simp only [Option.some.injEq] at h; subst h
          exact (validB_iff u.1).1 (hv hk).1
      · rw [if_neg hu] at h
        have hb := unitAt_bd enc l 0
        generalize unitAt enc l 0 = u at *
        generalize unitAt enc l 2 = v at *
        by_cases h2 : l.length < 2
        · rw [if_pos h2] at h; cases h
        · rw [if_neg h2] at h
          by_cases hp : 55296 ≤ u ∧ u ≤ 56319 ∧ 3 < l.length ∧ 56320 ≤ v ∧ v ≤ 57343
          · rw [if_pos hp] at h
            simp only [Option.some.injEq] at h; subst h
            simp only; omega
          · rw [if_neg hp] at h
            simp only [Option.some.injEq] at h; subst h
            simp only [Bool.and_eq_false_iff, decide_eq_false_iff_not] at he
            simp only; omega
def SgOk (x : Sg) : Prop := x.1 = -1 ∨ validB x.1 = true
theorem headSg_ok {enc : Int} {l : Bytes} {x : Sg} (h : headSg enc l = some x) : SgOk x := by
  rw [← rd_head] at h
  cases hr : rd enc l with
  | none => rw [hr] at h; cases h
  | some y =>
    rw [hr] at h
    simp only [Option.map_some, Option.some.injEq] at h
    subst h
    unfold sgOf SgOk
    cases hy : y.2.1
    · exact .inr (by simpa using rd_valid hr hy)
    · exact .inl (by simp)
theorem signsF_ok (enc : Int) : ∀ (f : Nat) (l : Bytes) (x : Sg), x ∈ signsF enc f l → SgOk x
  | 0, _, _, h => by simp [signsF] at h
  | f + 1, l, x, h => by
    simp only [signsF] at h
    cases hx : headSg enc l with
    | none => rw [hx] at h; simp at h
    | some y =>
      rw [hx] at h
      simp only [List.mem_cons] at h
      rcases h with rfl | h
      · exact headSg_ok hx
      · exact signsF_ok enc f _ x h
/-- Of an atom: its character may be one, and is not 13. -/
def ChOk (a : At) : Prop := validB (chA a) = true ∧ chA a ≠ 13
theorem single_ch {x : Sg} (h : SgOk x) (h13 : ¬ x.1 = 13) : ChOk (singleA x) := by
  unfold singleA ChOk chA
  split
  · exact ⟨rfl, by simp⟩
  · rename_i h1
    split
    · exact ⟨rfl, by simp⟩
    · rcases h with h | h
      · exact absurd h h1
      · exact ⟨h, h13⟩
theorem atomsF_ch : ∀ (S : List Sg) (h : Nat), (∀ x ∈ S, SgOk x) → ∀ a ∈ atomsF h S, ChOk a
  | [], h, _, a, ha => by
    simp only [atomsF] at ha
    split at ha
    · simp only [List.mem_singleton] at ha; subst ha; exact ⟨rfl, by simp [chA]⟩
    · simp at ha
  | x :: r, h, hS, a, ha => by
    have hx := hS x (by simp)
    have hr : ∀ y ∈ r, SgOk y := fun y hy => hS y (by simp [hy])
    simp only [atomsF] at ha
    split at ha
    · simp only [List.mem_cons] at ha
      rcases ha with rfl | ha
      · exact ⟨rfl, by simp [chA]⟩
      · exact atomsF_ch r 0 hr a ha
    · simp only [List.mem_append] at ha
      rcases ha with ha | ha
      · split at ha
        · simp only [List.mem_singleton] at ha; subst ha; exact ⟨rfl, by simp [chA]⟩
        · simp at ha
      · split at ha
        · exact atomsF_ch r x.2 hr a ha
        · rename_i h13
          simp only [List.mem_cons] at ha
          rcases ha with rfl | ha
          · exact single_ch hx h13
          · exact atomsF_ch r 0 hr a ha
theorem atoms_ch (enc : Int) (l : Bytes) : ∀ a ∈ atoms enc l, ChOk a := atomsF_ch _ 0 (fun x hx => signsF_ok enc _ l x hx)
end Vm

namespace Vm

theorem b0_take {l : Bytes} {k i : Nat} (h : i < k) : b0 (l.take k) i = b0 l i := by
  simp [b0, List.getD, h]
theorem okAt_take {l : Bytes} {r k j : Nat} (h : j < k) : okAt (l.take k) r j = okAt l r j := by
  unfold okAt
  rw [b0_take h, List.length_take]
  congr 1
  by_cases g : j < l.length
  · simp only [g, decide_true, decide_eq_true_eq]; omega
  · simp only [g, decide_false, decide_eq_false_iff_not]; omega
theorem allOk_take {l : Bytes} {r k : Nat} : ∀ {n : Nat}, n < k → allOk (l.take k) r n = allOk l r n
  | 0, _ => rfl
  | n + 1, h => by
    unfold allOk
    rw [allOk_take (by omega), okAt_take h]
/-- A sequence that is there in the first bytes is there. -/
theorem okAt_of_take {l : Bytes} {r k j : Nat} (h : okAt (l.take k) r j = true) : okAt l r j = true := by
  by_cases hj : j < k
  · rwa [okAt_take hj] at h
  · unfold okAt at h
    rw [List.length_take] at h
    have : decide (j < min k l.length) = false := by simp; omega
    rw [this] at h; simp at h
theorem allOk_of_take {l : Bytes} {r k : Nat} : ∀ {n : Nat}, allOk (l.take k) r n = true → allOk l r n = true
  | 0, _ => rfl
  | n + 1, h => by
    unfold allOk at h ⊢
    rw [Bool.and_eq_true] at h ⊢
    exact ⟨allOk_of_take h.1, okAt_of_take h.2⟩
theorem partV_take {l : Bytes} {r k : Nat} : ∀ {n : Nat}, n ≤ k → partV (l.take k) r n = partV l r n
  | 0, _ => rfl
  | 1, h => by unfold partV; rw [b0_take (by omega)]
  | n + 2, h => by unfold partV; rw [partV_take (by omega), b0_take (by omega)]
theorem utfHead_take {l : Bytes} {k : Nat} (h1 : 1 ≤ k) (h : (utfHead l).2 ≤ k) : utfHead (l.take k) = utfHead l := by
  have e0 : b0 (l.take k) 0 = b0 l 0 := b0_take (by omega)
  unfold utfHead at h ⊢
  rw [e0]
  have hp := sqN_pos (sqRow (b0 l 0))
  by_cases g : allOk l (sqRow (b0 l 0)) (sqN (sqRow (b0 l 0)) - 1) = true
  · rw [if_pos g] at h ⊢
    simp only at h
    rw [allOk_take (by omega), if_pos g, partV_take h]
  · rw [if_neg g, if_neg (fun x => g (allOk_of_take x))]
theorem unitAt_take {enc : Int} {l : Bytes} {k i : Nat} (h : i + 1 < k) : unitAt enc (l.take k) i = unitAt enc l i := by
  unfold unitAt; rw [b0_take (by omega), b0_take h]
theorem unitHead_take {enc : Int} {l : Bytes} {k : Nat} (h1 : 2 ≤ k) (h : (unitHead enc l).2 ≤ k) : unitHead enc (l.take k) = unitHead enc l := by
  have e0 : unitAt enc (l.take k) 0 = unitAt enc l 0 := unitAt_take (by omega)
  unfold unitHead at h ⊢
  dsimp only at h ⊢
  rw [e0, List.length_take]
  by_cases hk : 4 ≤ k
  · have e2 : unitAt enc (l.take k) 2 = unitAt enc l 2 := unitAt_take (by omega)
    rw [e2]
    by_cases g : 3 < l.length
    · have g' : 3 < min k l.length := by omega
      simp only [g, g']
    · have g' : ¬ 3 < min k l.length := by omega
      simp only [g, g']
  · have g' : ¬ 3 < min k l.length := by omega
    by_cases g : 55296 ≤ unitAt enc l 0 ∧ unitAt enc l 0 ≤ 56319 ∧ 3 < l.length ∧ 56320 ≤ unitAt enc l 2 ∧ unitAt enc l 2 ≤ 57343
    · rw [if_pos g] at h
      exact absurd h hk
    · rw [if_neg g, if_neg (fun x => g' x.2.2.1)]
/-- A sign that lies within the first k bytes is read from them. -/
theorem headSg_take {enc : Int} {l : Bytes} {x : Sg} {k : Nat} (h : headSg enc l = some x) (hk : x.2 ≤ k) : headSg enc (l.take k) = some x := by
  obtain ⟨h1, h2⟩ := headSg_size h
  unfold headSg at h ⊢
  have n0 : ¬ l.length = 0 := by omega
  have n0' : ¬ (l.take k).length = 0 := by rw [List.length_take]; omega
  rw [if_neg n0] at h
  rw [if_neg n0']
  by_cases e0 : enc = 0
  · rw [if_pos e0] at h ⊢
    cases h
    rw [utfHead_take (by omega) hk]
  · rw [if_neg e0] at h ⊢
    by_cases e3 : enc = 3
    · rw [if_pos e3] at h ⊢
      cases h
      rw [b0_take (by omega)]
    · rw [if_neg e3] at h ⊢
      by_cases h2 : l.length < 2
      · rw [if_pos h2] at h; cases h
      · rw [if_neg h2] at h
        cases h
        have hu := unitHead_size enc l
        have h2' : ¬ (l.take k).length < 2 := by rw [List.length_take]; omega
        rw [if_neg h2', unitHead_take (by omega) hk]
theorem sqN_le4 (c : Int) : sqN (sqRow c) ≤ 4 := by
  have := sqSize_bd (sqRow c); unfold sqN; omega
/-- Four bytes tell the sign. -/
theorem headSg_four (enc : Int) (l : Bytes) (k : Nat) (hk : 4 ≤ k) : headSg enc (l.take k) = headSg enc l := by
  cases hx : headSg enc l with
  | some x =>
    refine headSg_take hx ?_
    unfold headSg at hx
    split at hx
    · cases hx
    · split at hx
      · cases hx
        unfold utfHead
        split
        · exact Nat.le_trans (sqN_le4 _) hk
        · show 1 ≤ k; omega
      · split at hx
        · cases hx; show 1 ≤ k; omega
        · split at hx
          · cases hx
          · cases hx
            unfold unitHead
            dsimp only
            (repeat' split) <;> simp <;> omega
  | none =>
    unfold headSg at hx ⊢
    rw [List.length_take]
    by_cases n0 : l.length = 0
    · rw [if_pos (by omega)]
    · rw [if_neg n0] at hx
      rw [if_neg (by omega)]
      by_cases e0 : enc = 0
      · rw [if_pos e0] at hx; cases hx
      · rw [if_neg e0] at hx ⊢
        by_cases e3 : enc = 3
        · rw [if_pos e3] at hx; cases hx
        · rw [if_neg e3] at hx ⊢
          by_cases h2 : l.length < 2
          · rw [if_pos (by omega)]
          · rw [if_neg h2] at hx; cases hx
theorem headSg_more (enc : Int) (l r : Bytes) (h : 4 ≤ l.length) : headSg enc (l ++ r) = headSg enc l := by
  rw [← headSg_four enc (l ++ r) 4 (Nat.le_refl _), ← headSg_four enc l 4 (Nat.le_refl _), List.take_append_of_le_length h]

/-- The bytes of signs. -/
def szS (S : List Sg) : Nat := (S.map (fun x => x.2)).sum
theorem szS_cons (x : Sg) (S : List Sg) : szS (x :: S) = x.2 + szS S := by simp [szS]
theorem head_of_signs {enc : Int} {l : Bytes} {x : Sg} {S : List Sg} (h : signs enc l = x :: S) : headSg enc l = some x ∧ signs enc (l.drop x.2) = S := by
  rw [signs_step] at h
  cases hx : headSg enc l with
  | none => rw [hx] at h; cases h
  | some y => rw [hx] at h; injection h with h1 h2; subst h1; exact ⟨rfl, h2⟩
theorem signs_cut {enc : Int} : ∀ {S1 S2 : List Sg} {l : Bytes}, signs enc l = S1 ++ S2 → signs enc (l.take (szS S1)) = S1 ∧ signs enc (l.drop (szS S1)) = S2
  | [], S2, l, h => by
    simp only [szS, List.map_nil, List.sum_nil, List.take_zero, List.drop_zero]
    exact ⟨signs_nil enc, h⟩
  | x :: S1, S2, l, h => by
    obtain ⟨hx, hr⟩ := head_of_signs (h : signs enc l = x :: (S1 ++ S2))
    obtain ⟨h1, h2⟩ := signs_cut hr
    rw [szS_cons]
    constructor
    · rw [signs_some (headSg_take hx (by omega)), List.drop_take, Nat.add_sub_cancel_left, h1]
    · rw [← List.drop_drop]; exact h2
/-- With four bytes more in view the signs are those of all. -/
theorem signs_more {enc : Int} : ∀ {S1 S2 : List Sg} {l r : Bytes}, signs enc l = S1 ++ S2 → szS S1 + 4 ≤ l.length → signs enc (l ++ r) = S1 ++ signs enc ((l ++ r).drop (szS S1))
  | [], S2, l, r, _, _ => by simp [szS]
  | x :: S1, S2, l, r, h, hk => by
    rw [szS_cons] at hk ⊢
    obtain ⟨hx, hr⟩ := head_of_signs (h : signs enc l = x :: (S1 ++ S2))
    have hx' : headSg enc (l ++ r) = some x := by rw [headSg_more _ _ _ (by omega)]; exact hx
    rw [signs_some hx', List.drop_append_of_le_length (by omega), signs_more hr (by rw [List.length_drop]; omega), ← List.drop_append_of_le_length (by omega), List.drop_drop]
    rfl
theorem singleA_size (x : Sg) : (singleA x).2.2 = x.2 := by
  unfold singleA; (repeat' split) <;> rfl
theorem sizeA_cons (a : At) (A : List At) : sizeA (a :: A) = a.2.2 + sizeA A := by simp [sizeA]
/-- Where atoms part, signs part. -/
theorem atomsF_cut : ∀ (S : List Sg) (h : Nat) (A0 A1 : List At), atomsF h S = A0 ++ A1 → (h = 0 ∨ A0 ≠ []) →
    ∃ S1 S2, S = S1 ++ S2 ∧ atomsF h S1 = A0 ∧ atomsF 0 S2 = A1 ∧ h + szS S1 = sizeA A0 ∧ ∀ T, T.head? = S2.head? → atomsF h (S1 ++ T) = A0 ++ atomsF 0 T
  | [], h, A0, A1, e, hc => by
    unfold atomsF at e
    by_cases h0 : 0 < h
    · rw [if_pos h0] at e
      have hA : A0 ≠ [] := hc.resolve_left (by omega)
      obtain ⟨a, A, rfl⟩ := List.exists_cons_of_ne_nil hA
      simp only [List.cons_append, List.cons.injEq] at e
      obtain ⟨rfl, e2⟩ := e
      have e3 := List.append_eq_nil_iff.1 e2.symm
      obtain ⟨rfl, rfl⟩ := e3
      refine ⟨[], [], rfl, by simp [atomsF, h0], by simp [atomsF], by simp [szS, sizeA], ?_⟩
      intro T hT
      have : T = [] := by cases T with | nil => rfl | cons _ _ => simp at hT
      subst this
      simp [atomsF, h0]
    · rw [if_neg h0] at e
      have e3 := List.append_eq_nil_iff.1 e.symm
      obtain ⟨rfl, rfl⟩ := e3
      have : h = 0 := by omega
      subst this
      exact ⟨[], [], rfl, by simp [atomsF], by simp [atomsF], by simp [szS, sizeA], fun T _ => by simp⟩
  | x :: r, h, A0, A1, e, hc => by
    by_cases hA : A0 = []
    · subst hA
      have h0 : h = 0 := hc.resolve_right (by simp)
      subst h0
      exact ⟨[], x :: r, rfl, by simp [atomsF], by simpa using e, by simp [szS, sizeA], fun T _ => by simp⟩
    · obtain ⟨a, A, rfl⟩ := List.exists_cons_of_ne_nil hA
      rw [atomsF] at e
      by_cases hc1 : 0 < h ∧ x.1 = 10
      · rw [if_pos hc1] at e
        simp only [List.cons_append, List.cons.injEq] at e
        obtain ⟨rfl, e2⟩ := e
        obtain ⟨S1, S2, rfl, i2, i3, i4, i5⟩ := atomsF_cut r 0 A A1 e2 (.inl rfl)
        refine ⟨x :: S1, S2, rfl, by rw [atomsF, if_pos hc1, i2], i3, by rw [szS_cons, sizeA_cons]; simp only; omega, ?_⟩
        intro T hT
        rw [List.cons_append, atomsF, if_pos hc1, i5 T hT]; rfl
      · rw [if_neg hc1] at e
        by_cases h0 : 0 < h
        · rw [if_pos h0] at e
          simp only [List.cons_append, List.nil_append, List.cons.injEq] at e
          obtain ⟨rfl, e2⟩ := e
          by_cases hA' : A = []
          · subst hA'
            refine ⟨[], x :: r, rfl, by simp [atomsF, h0], by rw [atomsF, if_neg (show ¬ (0 < 0 ∧ x.1 = 10) from fun q => absurd q.1 (by decide)), if_neg (show ¬ 0 < 0 by decide)]; simpa using e2, by simp [szS, sizeA], ?_⟩
            intro T hT
            obtain ⟨t, rfl⟩ : ∃ t, T = x :: t := by
              cases T with
              | nil => simp at hT
              | cons y t => simp at hT; exact ⟨t, by rw [hT]⟩
            rw [List.nil_append, atomsF, if_neg hc1, if_pos h0, atomsF, if_neg (show ¬ (0 < 0 ∧ x.1 = 10) from fun q => absurd q.1 (by decide)), if_neg (show ¬ 0 < 0 by decide)]; simp
          · by_cases h13 : x.1 = 13
            · rw [if_pos h13] at e2
              obtain ⟨S1, S2, rfl, i2, i3, i4, i5⟩ := atomsF_cut r x.2 A A1 e2 (.inr hA')
              refine ⟨x :: S1, S2, rfl, by rw [atomsF, if_neg hc1, if_pos h0, if_pos h13, i2]; rfl, i3, by rw [szS_cons, sizeA_cons]; simp only; omega, ?_⟩
              intro T hT
              rw [List.cons_append, atomsF, if_neg hc1, if_pos h0, if_pos h13, i5 T hT]; rfl
            · rw [if_neg h13] at e2
              obtain ⟨a2, A2, rfl⟩ := List.exists_cons_of_ne_nil hA'
              simp only [List.cons_append, List.cons.injEq] at e2
              obtain ⟨rfl, e3⟩ := e2
              obtain ⟨S1, S2, rfl, i2, i3, i4, i5⟩ := atomsF_cut r 0 A2 A1 e3 (.inl rfl)
              refine ⟨x :: S1, S2, rfl, by rw [atomsF, if_neg hc1, if_pos h0, if_neg h13, i2]; rfl, i3, by rw [szS_cons, sizeA_cons, sizeA_cons, singleA_size]; simp only; omega, ?_⟩
              intro T hT
              rw [List.cons_append, atomsF, if_neg hc1, if_pos h0, if_neg h13, i5 T hT]; rfl
        · rw [if_neg h0, List.nil_append] at e
          have hz : h = 0 := by omega
          subst hz
          by_cases h13 : x.1 = 13
          · rw [if_pos h13] at e
            obtain ⟨S1, S2, rfl, i2, i3, i4, i5⟩ := atomsF_cut r x.2 (a :: A) A1 e (.inr (by simp))
            refine ⟨x :: S1, S2, rfl, by rw [atomsF, if_neg hc1, if_neg h0, if_pos h13, i2]; rfl, i3, by rw [szS_cons]; omega, ?_⟩
            intro T hT
            rw [List.cons_append, atomsF, if_neg hc1, if_neg h0, if_pos h13, i5 T hT]; rfl
          · rw [if_neg h13] at e
            simp only [List.cons_append, List.cons.injEq] at e
            obtain ⟨rfl, e3⟩ := e
            obtain ⟨S1, S2, rfl, i2, i3, i4, i5⟩ := atomsF_cut r 0 A A1 e3 (.inl rfl)
            refine ⟨x :: S1, S2, rfl, by rw [atomsF, if_neg hc1, if_neg h0, if_neg h13, i2]; rfl, i3, by rw [szS_cons, sizeA_cons, singleA_size]; omega, ?_⟩
            intro T hT
            rw [List.cons_append, atomsF, if_neg hc1, if_neg h0, if_neg h13, i5 T hT]; rfl
theorem szS_le {enc : Int} : ∀ {S1 S2 : List Sg} {l : Bytes}, signs enc l = S1 ++ S2 → szS S1 ≤ l.length
  | [], _, _, _ => by simp [szS]
  | x :: S1, S2, l, h => by
    obtain ⟨hx, hr⟩ := head_of_signs (h : signs enc l = x :: (S1 ++ S2))
    have h1 := (headSg_le hx).2.2
    have h2 := szS_le hr
    rw [List.length_drop] at h2
    rw [szS_cons]; omega
theorem sizeA_le {enc : Int} {l : Bytes} {A0 : List At} (h : A0 <+: atoms enc l) : sizeA A0 ≤ l.length := by
  obtain ⟨A1, hA⟩ := h
  obtain ⟨S1, S2, e1, e2, e3, e4, _⟩ := atomsF_cut (signs enc l) 0 A0 A1 hA.symm (.inl rfl)
  have := szS_le e1
  omega
/-- THE CUT: what ends where an atom does reads alone as it did, and so does the rest. -/
theorem atoms_cut {enc : Int} {l : Bytes} {A0 : List At} (h : A0 <+: atoms enc l) : atoms enc (l.take (sizeA A0)) = A0 ∧ atoms enc l = A0 ++ atoms enc (l.drop (sizeA A0)) := by
  obtain ⟨A1, hA⟩ := h
  obtain ⟨S1, S2, e1, e2, e3, e4, _⟩ := atomsF_cut (signs enc l) 0 A0 A1 hA.symm (.inl rfl)
  obtain ⟨c1, c2⟩ := signs_cut e1
  rw [Nat.zero_add] at e4
  rw [← e4]
  refine ⟨by rw [atoms, c1, e2], ?_⟩
  rw [← hA, ← e3, ← c2]; rfl
/-- With four bytes more in view atoms are those of all. -/
theorem atoms_more {enc : Int} {l r : Bytes} {A0 : List At} (h : A0 <+: atoms enc l) (hk : sizeA A0 + 4 ≤ l.length) : atoms enc (l ++ r) = A0 ++ atoms enc ((l ++ r).drop (sizeA A0)) := by
  obtain ⟨A1, hA⟩ := h
  obtain ⟨S1, S2, e1, e2, e3, e4, e5⟩ := atomsF_cut (signs enc l) 0 A0 A1 hA.symm (.inl rfl)
  obtain ⟨c1, c2⟩ := signs_cut e1
  rw [Nat.zero_add] at e4
  rw [← e4] at hk ⊢
  have hs := signs_more (r := r) e1 hk
  show atomsF 0 (signs enc (l ++ r)) = _
  rw [hs]
  refine e5 _ ?_
  have hd : headSg enc ((l ++ r).drop (szS S1)) = headSg enc (l.drop (szS S1)) := by
    rw [List.drop_append_of_le_length (by omega)]
    exact headSg_more _ _ _ (by rw [List.length_drop]; omega)
  rw [← c2, signs_step, signs_step enc (l.drop (szS S1)), hd]
  cases headSg enc (l.drop (szS S1)) <;> rfl
end Vm

namespace Go.Proofs.YtjbfgnhkgjigpaaDoor
open Go.RowKit Go.Shelf Go.Vit
attribute [local go_sem] Oper.semAt_some

/-- RuneLen at a character. -/
theorem runeLen_any (r : Int) (hv : Vm.validB r = true) (w : World) : Calls Tryd.prog 92 #[.int .i32 r] w fun e w' => e = .returned (.int .i64 (Vm.utfLen r)) ∧ w' = w := by
  refine (Any.utf8_RuneLen lays118 r w).mono ?_
  rintro e w' ⟨rfl, rfl⟩
  refine ⟨?_, rfl⟩
  have : Lib.runeLen r = (Vm.utfLen r : Int) := by
    unfold Lib.runeLen Vm.utfLen
    simp only [Vm.validB, Bool.or_eq_true, Bool.and_eq_true, decide_eq_true_eq] at hv
    repeat' split
    all_goals first | rfl | omega
  rw [this]
theorem cnOf_snoc (A : List Vm.At) (x : Vm.At) : cnOf (A ++ [x]) = (cnOf A).add x.1 x.2.1 x.2.2 (Vm.utfLen x.2.1) := by
  simp only [cnOf, Cn.add, Vm.sizeA_append, Vm.bytesA_append, Vm.unitsA_append, List.length_append, Vm.cntK_snoc]
  by_cases h : 65535 < x.2.1 <;> simp [Vm.sizeA, Vm.bytesA, Vm.unitsA, Vm.lenA, Vm.unA, Vm.chA, h]
/-- Between two atoms. -/
structure LfI (w0 : World) (enc : Int) (b : ByteArray) (most : Nat) (pre : List Vm.At) (W : World) : Prop where
  sz : w0.heap.size + 5 ≤ W.heap.size
  c : CnAt W (w0.heap.size + 1 + 1) (cnOf pre)
  m : W.cell? ⟨w0.heap.size, 0, none⟩ = some (.int .i64 most)
  e : W.cell? ⟨w0.heap.size + 1 + 1 + 1, 0, none⟩ = some (.int .i64 enc)
  b : W.cell? ⟨w0.heap.size + 1 + 1 + 1 + 1, 0, none⟩ = some (.string b)
  r : W.cell? ⟨w0.heap.size + 1, 0, none⟩ = some .nilIface
  rf : W.frozen? ⟨w0.heap.size + 1, 0, none⟩ = false
  le : Vm.sizeA pre ≤ most
  low : Below w0.heap.size w0 W
theorem CnAt.block {w w' : World} {b : Nat} {c : Cn} (h : CnAt w b c) (hb : w'.heap[b]? = w.heap[b]?) : CnAt w' b c := by
  have g : ∀ o, w'.cell? ⟨b, o, none⟩ = w.cell? ⟨b, o, none⟩ := fun o => World.cell?_of_block (w := w) hb
  exact ⟨(g _).trans h.c0, (g _).trans h.c1, (g _).trans h.c2, (g _).trans h.c3, (g _).trans h.c4, (g _).trans h.c5, (g _).trans h.c6, (g _).trans h.c7, fun j => (World.frozen?_of_block (w := w) hb).trans (h.fr j)⟩
theorem LfI.kept {w0 : World} {enc : Int} {b : ByteArray} {most : Nat} {pre : List Vm.At} {W W' : World} (h : LfI w0 enc b most pre W) (hs : W.heap.size ≤ W'.heap.size) (ho : W'.os = W.os) (ht : W'.tape = W.tape) (hou : W'.output = W.output) (hk : ∀ k, k < w0.heap.size + 5 → W'.heap[k]? = W.heap[k]?) : LfI w0 enc b most pre W' :=
  ⟨Nat.le_trans h.sz hs, h.c.block (hk (w0.heap.size + 1 + 1) (by omega)), (World.cell?_of_block (w := W) (hk w0.heap.size (by omega))).trans h.m, (World.cell?_of_block (w := W) (hk (w0.heap.size + 1 + 1 + 1) (by omega))).trans h.e, (World.cell?_of_block (w := W) (hk (w0.heap.size + 1 + 1 + 1 + 1) (by omega))).trans h.b, (World.cell?_of_block (w := W) (hk (w0.heap.size + 1) (by omega))).trans h.r, (World.frozen?_of_block (w := W) (hk (w0.heap.size + 1) (by omega))).trans h.rf, h.le,
    h.low.trans ⟨ho, ht, hou, hs, fun k hk' => hk k (by omega)⟩⟩
/-- One atom more. -/
theorem LfI.more {w0 : World} {enc : Int} {b : ByteArray} {most : Nat} {pre : List Vm.At} {W W' : World} {x : Vm.At} (h : LfI w0 enc b most pre W) (hc : CnAt W' (w0.heap.size + 1 + 1) (cnOf (pre ++ [x]))) (ht : Tn (w0.heap.size + 1 + 1) W W') (hle : Vm.sizeA (pre ++ [x]) ≤ most) : LfI w0 enc b most (pre ++ [x]) W' := by
  have hsz := h.sz
  have hk : ∀ k, k < w0.heap.size + 5 → k ≠ w0.heap.size + 1 + 1 → W'.heap[k]? = W.heap[k]? := fun k h1 h2 => ht.keep k (by omega) h2
  exact ⟨Nat.le_trans h.sz ht.size, hc, (World.cell?_of_block (w := W) (hk w0.heap.size (by omega) (by omega))).trans h.m, (World.cell?_of_block (w := W) (hk (w0.heap.size + 1 + 1 + 1) (by omega) (by omega))).trans h.e, (World.cell?_of_block (w := W) (hk (w0.heap.size + 1 + 1 + 1 + 1) (by omega) (by omega))).trans h.b, (World.cell?_of_block (w := W) (hk (w0.heap.size + 1) (by omega) (by omega))).trans h.r, (World.frozen?_of_block (w := W) (hk (w0.heap.size + 1) (by omega) (by omega))).trans h.rf, hle,
    h.low.trans ⟨ht.os, ht.tape, ht.output, ht.size, fun k hk' => hk k (by omega) (by omega)⟩⟩
theorem Tn.body {b lo : Nat} {w w' : World} (h : Tn b w w') (hb : b < lo) : BodyStep (fun _ _ => False) lo w w' :=
  ⟨h.os, h.tape, h.output, h.size, fun k h1 h2 _ => h.keep k h2 (by omega), fun _ hf => hf.elim⟩

theorem leaf_def {W : World} {K Z : Nat} {o : Obj} (hd : W.heap[K]? = some o) (hne : Z < K) (hsz : K < W.heap.size) (j : Nat) (v : Value) (x : Obj) : ((W.setCell ⟨Z, j, none⟩ v).alloc x).drew.heap[K]? = some o := by
  show ((W.setCell ⟨Z, j, none⟩ v).alloc x).heap[K]? = _
  rw [Below.heap_alloc _ _ _ (by simpa [World.setCell] using hsz), Below.heap_setCell _ _ _ _ (show K ≠ Z by omega)]
  exact hd
theorem leaf_fin {W : World} {K Z : Nat} (hne : Z + 1 < K) (hsz : K < W.heap.size) (v : Value) (x y : Obj) (hr : W.cell? ⟨Z + 1, 0, none⟩ = some .nilIface) :
    ((((W.setCell ⟨Z + 1, 0, none⟩ v).alloc x).drew.putObj K y).cell? ⟨Z + 1, 0, none⟩ = some v) ∧ (((W.setCell ⟨Z + 1, 0, none⟩ v).alloc x).drew.putObj K y).heap[W.heap.size]? = some x ∧
      ∀ w0, Z = w0.heap.size → Below Z w0 W → Below Z w0 (((W.setCell ⟨Z + 1, 0, none⟩ v).alloc x).drew.putObj K y) := by
  have hs : (W.setCell ⟨Z + 1, 0, none⟩ v).heap.size = W.heap.size := by simp [World.setCell]
  have hz := block_lt hr
  refine ⟨?_, ?_, ?_⟩
  · rw [World.cell?_of_block (w := (W.setCell ⟨Z + 1, 0, none⟩ v)) (a := ⟨Z + 1, 0, none⟩)]
    · exact World.cell?_setCell_same' _ _ _ (by rw [hr]; rfl)
    · show (((W.setCell ⟨Z + 1, 0, none⟩ v).alloc x).drew.putObj K y).heap[Z + 1]? = _
      rw [World.putObj_heap_other (by omega)]
      exact Below.heap_alloc _ _ _ (by omega)
  · rw [World.putObj_heap_other (by omega)]
    have := Go.Deep.blk_alloc_new (W.setCell ⟨Z + 1, 0, none⟩ v) x
    rw [hs] at this
    exact this
  · intro w0 h0 hb
    have h1 := (hb.setCell (p := ⟨Z + 1, 0, none⟩) (by show Z ≤ Z + 1; omega) v).alloc (by rw [hs]; omega) x
    refine ⟨h1.os, h1.tape, h1.output, by simpa using h1.size, fun k hk => ?_⟩
    rw [World.putObj_heap_other (by omega)]
    exact h1.block k hk
/-- Left at an atom that does not fit. -/
def LfX (w0 : World) (enc : Int) (b : ByteArray) (most : Nat) (c : Code) (pre : List Vm.At) (W : World) : Prop :=
  ∃ A0 x, c = .exit 0 ∧ pre = A0 ++ [x] ∧ LfI w0 enc b most A0 W ∧ most < Vm.sizeA (A0 ++ [x])

set_option maxHeartbeats 4000000 in
theorem leaf_any (enc : Int) (b : ByteArray) (most : Nat) (w : World) (ht : Tabs w) (hb : b.size ≤ 1099511627776) (hm : most ≤ 1099511627776) (h0 : 0 ≤ enc) (h3 : enc ≤ 3) :
    Calls Tryd.prog 60 #[.int .i64 enc, .string b, .int .i64 most] w fun e w' => ∃ B A0, e = .returned (.agg #[.iface 135 (.pointer (some ⟨B, 0, none⟩))]) ∧
      A0 <+: Vm.atoms enc b.data.toList ∧ Vm.sizeA A0 ≤ most ∧ (A0 = Vm.atoms enc b.data.toList ∨ ∃ x, A0 ++ [x] <+: Vm.atoms enc b.data.toList ∧ most < Vm.sizeA (A0 ++ [x])) ∧
      (Nd.leaf B (cnOf A0) (b.extract 0 (Vm.sizeA A0))).In w' ∧ Below w.heap.size w w' := by
  have hfo : Tryd.prog.follows Departure.mixedOrders = true := by kernel_rfl
  refine (callsIn_wide (n := 9)).1 ?_
  refine callsIn_of_wp_marks Tryd.func60 rfl trivial ?_ rfl
  simp only [Tryd.ntmps60, List.size_toArray, List.length_cons, List.length_nil, Nat.reduceAdd, Nat.reduceSub, Array.replicate_succ, Array.replicate_zero, List.push_toArray, List.append_toArray, List.nil_append, List.cons_append]
  gi_wp2_with fail
  refine ⟨trivial, (callsIn_wide.2 (atoms_any enc b _)).mono ?_⟩
  rintro e w1 ⟨rfl, hw1⟩
  simp only [World.size_alloc] at hw1 ⊢
  have hs1 : w1.heap.size = w.heap.size + 5 := by rw [hw1]; simp
  have hb1 : Below w.heap.size w w1 := by
    rw [hw1]; exact (((((Below.refl _ w).alloc (Nat.le_refl _) _).alloc (by simp) _).alloc (by simp; omega) _).alloc (by simp; omega) _).alloc (by simp; omega) _
  have hI0 : LfI w enc b most [] w1 := by
    refine ⟨by omega, ?_, ?_, ?_, ?_, ?_, ?_, Nat.zero_le _, hb1⟩
    · rw [hw1]
      have := ((CnAt.new ((w.alloc (.cells #[.int .i64 most] 3)).alloc (.cells #[.nilIface] 67)) 84).alloc (.cells #[.int .i64 enc] 3)).alloc (.cells #[.string b] 9)
      have hz : ((w.alloc (.cells #[.int .i64 most] 3)).alloc (.cells #[.nilIface] 67)).heap.size = w.heap.size + 1 + 1 := by simp
      rw [hz] at this
      exact this
    · rw [hw1]; simp [go_sem]
    · rw [hw1]; simp [go_sem]
    · rw [hw1]; simp [go_sem]
    · rw [hw1]; simp [go_sem]
    · rw [hw1]; simp [go_sem]
  clear hw1
  have hok := Vm.atoms_ok enc b.data.toList
  have hch := Vm.atoms_ch enc b.data.toList
  have hit := atoms1_it b enc (w.heap.size + 1 + 1 + 1) (w.heap.size + 1 + 1 + 1 + 1) hb h0 h3
  have hpre0 : ∀ A0, A0 <+: Vm.atoms enc b.data.toList → Vm.sizeA A0 ≤ b.size := fun A0 h => Vm.sizeA_le h
  generalize hA : Vm.atoms enc b.data.toList = A at *
  have HAA := hide hA
  have HP0 := hide hpre0
  clear hA hpre0
  gi_wp2
  refine wp_range (gf := 86) rfl (enters_of Tryd.func86 (by kernel_rfl) rfl) hit (fun _ => rfl) (fun _ _ => False) (mlow_none _)
    (LfI w enc b most) (LfX w enc b most) ?hI ?hIx ?hN hI0 (fun x a' W => ∃ Bq, a' = { tmps := #[.int .i64 enc, .string b, .int .i64 most, undef, undef, .pointer (some ⟨w.heap.size, 0, none⟩), .pointer (some ⟨w.heap.size + 1, 0, none⟩), .pointer (some ⟨w.heap.size + 1 + 1, 0, none⟩), .pointer (some ⟨Bq, 0, none⟩), .int .i64 enc, .string b, .func (.func 86) #[] #[.pointer (some ⟨w.heap.size + 1 + 1 + 1, 0, none⟩), .pointer (some ⟨w.heap.size + 1 + 1 + 1 + 1, 0, none⟩)], .agg #[.int .i64 x.1, .int .i32 x.2.1, .int .i64 x.2.2], undef, undef, undef, undef, undef, undef, undef, undef, undef, undef, undef, undef, undef, undef, undef, undef, undef, undef, undef], defers := [] } ∧ W.heap[Bq]? = some (.cells #[.int .i64 x.1, .int .i32 x.2.1, .int .i64 x.2.2] 129) ∧ w1.heap.size ≤ Bq) ?hAx ?assign ?body ?done ?stop
  case hI =>
    intro s A B h st
    exact h.kept st.size st.os st.tape st.output (fun k hk => st.low k (by omega))
  case hIx =>
    rintro c s A B ⟨A0, x, h1, h2, h3, h4⟩ st
    exact ⟨A0, x, h1, h2, h3.kept st.size st.os st.tape st.output (fun k hk => st.low k (by omega)), h4⟩
  case hN =>
    intro s A h
    exact ⟨⟨ht.below h.low, h.e, h.b⟩, fun _ hf => hf.elim⟩
  case hAx =>
    rintro x a' A L r o ⟨Bq, h1, h2, h3⟩ hl
    refine ⟨Bq, h1, ?_, h3⟩
    rw [World.putObj_heap_other (fun e => by rw [e, hl] at h2; cases h2)]
    exact h2
  case assign =>
    intro l pre x W K hsz hi hK
    dsimp only [encAt]
    gi_wp2
    have hbw : Below W.heap.size W (W.alloc (.cells #[.int .i64 x.1, .int .i32 x.2.1, .int .i64 x.2.2] 129)) := (Below.refl _ _).alloc (Nat.le_refl _) _
    have hsw := hi.sz
    exact hK _ _ (BodyStep.of_below (mlow_none _) hbw (by omega)) (hi.kept hbw.size hbw.os hbw.tape hbw.output (fun k hk => hbw.block k (by omega))) ⟨W.heap.size, rfl, Go.Deep.blk_alloc_new _ _, by omega⟩
  case body =>
    rintro l2 pre x a' W2 hsz ⟨r, hr⟩ hl2 hi ⟨Bq, rfl, hq, hBq⟩ hpre
    have hx := hok x (hpre.subset (by simp))
    have hxc := (hch x (hpre.subset (by simp))).1
    have hpl : pre.length ≤ Vm.sizeA pre := Vm.len_sizeA (fun a ha => hok a (hpre.subset (by simp [ha])))
    have hle := hi.le
    have hsm : (cnOf pre).Small := cnOf_small (by omega) (by omega)
    have hsn : Vm.sizeA (pre ++ [x]) = Vm.sizeA pre + x.2.2 := Vm.sizeA_snoc _ _
    obtain ⟨k, ch, sz⟩ := x
    obtain ⟨g1, g2, g3, g4, g5, g6, g7, g8⟩ := hx
    simp only at g1 g2 g3 g4 g5 g6 g7 g8 hsn hq
    have c0 : W2.cell? ⟨w.heap.size + 1 + 1, 0, none⟩ = some (.int .i64 (Vm.sizeA pre)) := hi.c.c0
    have q0 : W2.cell? ⟨Bq, 0, none⟩ = some (.int .i64 k) := by rw [Lib.cell_of_heap hq]; rfl
    have q1 : W2.cell? ⟨Bq, 1, none⟩ = some (.int .i32 ch) := by rw [Lib.cell_of_heap hq]; rfl
    have q2 : W2.cell? ⟨Bq, 2, none⟩ = some (.int .i64 sz) := by rw [Lib.cell_of_heap hq]; rfl
    have m0 := hi.m
    have z1 := block_lt c0
    have z2 := block_lt q0
    have z3 := block_lt m0
    have HI := hide hi
    have HP := hide hpre
    have HS := hide hsn
    have HA := hide (add_any (w.heap.size + 1 + 1) (cnOf pre) k ch sz (Vm.utfLen ch) W2 hi.c hsm g1 g2 g8 (by have := Vm.utfLen_cases ch; omega) (runeLen_any ch hxc))
    have HN := hide (cnOf_snoc pre (k, ch, sz))
    clear hi hpre hsn hok hch hit hxc hq hsm
    generalize Vm.sizeA pre = sp at *
    by_cases hgt : most < sp + sz
    · gi_wp2
      exact ⟨BodyStep.refl _ _ _, pre, (k, ch, sz), rfl, rfl, HI.out, by rw [HS.out]; exact hgt⟩
    · gi_wp2_with fail
      refine ⟨trivial, (CallsIn.inRound l2 (callsIn_wide.2 HA.out)).mono ?_⟩
      rintro e W3 ⟨rfl, hc3, ht3⟩
      gi_wp2
      exact ⟨ht3.body (by omega), HI.out.more (by rw [HN.out]; exact hc3) ht3 (by rw [HS.out]; omega)⟩
  case done =>
    intro W hsz hi hd hmd
    have hsb := HP0.out A (List.prefix_refl _)
    have c0 := hi.c.c0
    have c1 := hi.c.c1
    have c2 := hi.c.c2
    have c3 := hi.c.c3
    have c4 := hi.c.c4
    have c5 := hi.c.c5
    have c6 := hi.c.c6
    have c7 := hi.c.c7
    have r0 := hi.r
    have rf := hi.rf
    have z1 := block_lt c0
    have z2 := block_lt r0
    have HI := hide hi
    simp only [cnOf] at c0 c1 c2 c3 c4 c5 c6 c7
    generalize hz0 : Vm.sizeA A = sz0 at c0 hsb
    have HZ := hide hz0
    clear hi hit hz0 hok hch
    gi_wp2
    refine wpIn_wide.2 ?_
    go_region
    all_goals
      go_wp2_with fail
      gi_wp2
      refine ⟨by simp, .inl ⟨_, _, rfl, run_takeDeferred (leaf_def hd (by omega) hsz _ _ _), ?_⟩⟩
      obtain ⟨y1, y2, y3⟩ := leaf_fin (Z := w.heap.size) (K := w1.heap.size) (by omega) hsz (.iface 135 (.pointer (some ⟨W.heap.size, 0, none⟩))) (.cells #[.int .i64 sz0, .int .i64 (Vm.bytesA A), .int .i64 (A : List Vm.At).length, .int .i64 (Vm.unitsA A), .int .i64 (Vm.cntK A 4), .int .i64 (Vm.cntK A 0), .int .i64 (Vm.cntK A 1), .int .i64 (Vm.cntK A 2), .int .i64 0, .string (b.extract 0 sz0)] 139) (.deferred none) HI.out.r
      refine ⟨.agg #[.iface 135 (.pointer (some ⟨W.heap.size, 0, none⟩))], by simp [results, Tryd.results60, go_sem, y1], W.heap.size, A, rfl, ?_⟩
      have hz := HZ.out
      subst hz
      exact ⟨by rw [HAA.out]; exact List.prefix_refl _, HI.out.le, .inl HAA.out.symm, y2, y3 w rfl HI.out.low⟩
  case stop =>
    rintro c pre W hsz hpre ⟨A0, x, rfl, rfl, hi, hgt⟩ hd hmd
    have hsb := HP0.out A0 ((List.prefix_append _ _).trans hpre)
    have c0 := hi.c.c0
    have c1 := hi.c.c1
    have c2 := hi.c.c2
    have c3 := hi.c.c3
    have c4 := hi.c.c4
    have c5 := hi.c.c5
    have c6 := hi.c.c6
    have c7 := hi.c.c7
    have r0 := hi.r
    have rf := hi.rf
    have z1 := block_lt c0
    have z2 := block_lt r0
    have HI := hide hi
    simp only [cnOf] at c0 c1 c2 c3 c4 c5 c6 c7
    generalize hz0 : Vm.sizeA A0 = sz0 at c0 hsb
    have HZ := hide hz0
    clear hi hit hz0 hok hch
    gi_wp2
    refine wpIn_wide.2 ?_
    go_region
    all_goals
      go_wp2_with fail
      gi_wp2
      refine ⟨by simp, .inl ⟨_, _, rfl, run_takeDeferred (leaf_def hd (by omega) hsz _ _ _), ?_⟩⟩
      obtain ⟨y1, y2, y3⟩ := leaf_fin (Z := w.heap.size) (K := w1.heap.size) (by omega) hsz (.iface 135 (.pointer (some ⟨W.heap.size, 0, none⟩))) (.cells #[.int .i64 sz0, .int .i64 (Vm.bytesA A0), .int .i64 (A0 : List Vm.At).length, .int .i64 (Vm.unitsA A0), .int .i64 (Vm.cntK A0 4), .int .i64 (Vm.cntK A0 0), .int .i64 (Vm.cntK A0 1), .int .i64 (Vm.cntK A0 2), .int .i64 0, .string (b.extract 0 sz0)] 139) (.deferred none) HI.out.r
      refine ⟨.agg #[.iface 135 (.pointer (some ⟨W.heap.size, 0, none⟩))], by simp [results, Tryd.results60, go_sem, y1], W.heap.size, A0, rfl, ?_⟩
      have hz := HZ.out
      subst hz
      exact ⟨by rw [HAA.out]; exact (List.prefix_append _ _).trans hpre, HI.out.le, .inr ⟨x, by rw [HAA.out]; exact hpre, hgt⟩, y2, y3 w rfl HI.out.low⟩
end Go.Proofs.YtjbfgnhkgjigpaaDoor

namespace Go.Proofs.YtjbfgnhkgjigpaaDoor
open Go.RowKit Go.Vit

/-- A builder that has been written, at block b, from B on. -/
def Bd (B b : Nat) (bs : List Value) (w : World) : Prop := Lib.BuilderAt 110 5 B b (.pointer (some ⟨b, 0, none⟩)) bs w
/-- The buffer's block. -/
def MB (b : Nat) : World → Nat → Prop := fun W k => ∃ v, W.cell? ⟨b, 1, none⟩ = some v ∧ v.ownBlock = some k
/-- What writing turns. -/
structure Gr (b : Nat) (w w' : World) : Prop where
  os : w'.os = w.os
  tape : w'.tape = w.tape
  output : w'.output = w.output
  size : w.heap.size ≤ w'.heap.size
  keep : ∀ k, k < w.heap.size → k ≠ b → ¬ MB b w k → w'.heap[k]? = w.heap[k]?
  new : ∀ k, MB b w' k → MB b w k ∨ w.heap.size ≤ k
theorem Gr.refl (b : Nat) (w : World) : Gr b w w := ⟨rfl, rfl, rfl, Nat.le_refl _, fun _ _ _ _ => rfl, fun _ h => .inl h⟩
theorem Gr.trans {b : Nat} {w1 w2 w3 : World} (h : Gr b w1 w2) (k : Gr b w2 w3) : Gr b w1 w3 :=
  ⟨k.os.trans h.os, k.tape.trans h.tape, k.output.trans h.output, Nat.le_trans h.size k.size,
    fun i h1 h2 h3 => (k.keep i (Nat.lt_of_lt_of_le h1 h.size) h2 (fun hm => by
      rcases h.new i hm with x | x
      · exact h3 x
      · omega)).trans (h.keep i h1 h2 h3),
    fun i hi => by
      have := h.size
      rcases k.new i hi with x | x
      · exact h.new i x
      · exact .inr (by omega)⟩
theorem mb_low {b lo : Nat} (h : b < lo) : MLow (MB b) lo := fun A B hk k hm => by
  obtain ⟨v, h1, h2⟩ := hm
  refine ⟨v, ?_, h2⟩
  rw [← h1]
  exact (World.cell?_of_block (a := ⟨b, 1, none⟩) (hk b h)).symm
theorem Gr.body {b lo : Nat} {w w' : World} (h : Gr b w w') (hb : b < lo) : BodyStep (MB b) lo w w' :=
  ⟨h.os, h.tape, h.output, h.size, fun k h1 h2 h3 => h.keep k h2 (by omega) h3, fun k hk => (h.new k hk).elim (fun x => .inr (.inl x)) (fun x => .inr (.inr x))⟩
theorem Bd.mem {B b : Nat} {bs : List Value} {w : World} (h : Bd B b bs w) : ∀ k, MB b w k → B ≤ k ∧ k < w.heap.size := by
  obtain ⟨hB, v, hbk, hown, hne⟩ := h
  rintro k ⟨u, h1, h2⟩
  have c1 : w.cell? ⟨b, 1, none⟩ = some v := by rw [Lib.cell_of_heap hbk]; rfl
  rw [c1] at h1
  injection h1 with h1
  subst h1
  exact hown.lt _ h2
theorem Gr.below {B b : Nat} {bs : List Value} {w w' : World} (h : Gr b w w') (hd : Bd B b bs w) (hB : B ≤ w.heap.size) : Below B w w' :=
  ⟨h.os, h.tape, h.output, h.size, fun k hk => h.keep k (by omega) (by have := hd.1; omega) (fun hm => by have := (hd.mem k hm).1; omega)⟩
/-- The builder goes through what the iterator does. -/
theorem Bd.it {B b lo : Nat} {bs : List Value} {w w' : World} (h : Bd B b bs w) (hs : ItStep (MB b) lo w w') (hb : b < lo) : Bd B b bs w' := by
  have hm := h.mem
  obtain ⟨hB, v, hbk, hown, hne⟩ := h
  have c1 : w.cell? ⟨b, 1, none⟩ = some v := by rw [Lib.cell_of_heap hbk]; rfl
  refine ⟨hB, v, (hs.low b hb).trans hbk, ⟨hown.1, ?_⟩, hne⟩
  rcases hown.2 with x | ⟨g, cap, cur, e1, e2, e3, r⟩
  · exact .inl x
  · refine .inr ⟨g, cap, cur, e1, e2, (hs.own g ⟨v, c1, ?_⟩).trans e3, r⟩
    rw [e1]; rfl

theorem cc_used (b : Nat) (w : World) (h : w.cell? ⟨b, 0, none⟩ = some (.pointer (some ⟨b, 0, none⟩))) :
    Calls Tryd.prog 82 #[.pointer (some ⟨b, 0, none⟩)] w fun e w' => e = .returned (.tuple #[]) ∧ w' = w :=
  Any.Builder_copyCheck_used lays240 extraB.toX72 b w h
/-- A character's bytes, as cells. -/
def chCells (r : Int) : List Value := (Vm.utfL r).map (.int .u8)
theorem chCells_len (r : Int) : (chCells r).length = Vm.utfLen r := by unfold chCells; rw [List.length_map, Vm.utfL_length]
theorem cells_new (w : World) (l : List Value) (t : TypeId) : ∀ j u, l[j]? = some u → (w.alloc (.cells l.toArray t)).cell? ((⟨w.heap.size, 0, none⟩ : Addr).add j) = some u := by
  intro j u hj
  have e : (⟨w.heap.size, 0, none⟩ : Addr).add j = ⟨w.heap.size, j, none⟩ := by
    unfold Addr.add
    split
    · simp_all
    · simp
  rw [e, ← hj]
  simp
/-- What is said of an append behind it. -/
def AppPost (B : Nat) (v : Value) (n : Nat) (xs news : List Value) (w : World) (e : Ending) (w' : World) : Prop :=
  ∃ v', e = .returned v' ∧ w'.ownsRow B 5 1 v' (n + news.length) (xs ++ news) ∧ (∃ o, (w.alloc o).grownBy w' v.ownBlock) ∧ (v'.ownBlock = v.ownBlock ∨ v'.ownBlock = some (w.heap.size + 1))
set_option maxRecDepth 100000 in
set_option maxHeartbeats 1000000 in
theorem app_other (B : Nat) (v : Value) (n : Nat) (xs : List Value) (r : Int) (h0 : 128 ≤ r) (hv : Vm.validB r = true) (w : World) (hown : w.ownsRow B 5 1 v n xs) (hlen : n + 4 ≤ 140737488355328) (hB : B ≤ w.heap.size) :
    Calls Tryd.prog 101 #[v, .int .i32 r] w (AppPost B v n xs (chCells r) w) := by
  obtain ⟨i0, hi, hz0, hz1, hz2⟩ := info_parts Tryd.infoByte
  have hvv : r ≤ 55295 ∨ (57344 ≤ r ∧ r ≤ 1114111) := by simp [Vm.validB] at hv; omega
  clear hv
  by_cases h2 : r < 2048
  · clear hvv
    have e : chCells r = [.int .u8 (192 + r / 64), .int .u8 (128 + r % 64)] := by unfold chCells Vm.utfL; rw [if_neg (by omega), if_pos h2]; rfl
    rw [e]; clear e
    go_enter Tryd.func101, Tryd.ntmps101
    go_wp2_with (at_builtin; refine wpList_append_own_at _ rfl _ _ 70 rfl B 5 i0 (.int .u8 0) 1 1 Tryd.underlying70 hi hz0 hz1 hz2 rfl (by decide) _ n xs rfl (hown.alloc _) ⟨w.heap.size, 0, none⟩ 2 2 [.int .u8 (192 + r / 64), .int .u8 (128 + r % 64)] rfl rfl (cells_new w [.int .u8 (192 + r / 64), .int .u8 (128 + r % 64)] 5) ?h1 ?h63 ?hby ?hbase ?_)
    case h1 => simp [Value.oneCell']
    try case h63 => unfold maxLen; omega
    try case hby => omega
    try case hbase => first | omega | (simp; omega)
    intro v' w2 hown2 hgr _ hat
    go_wp2
    go_ret
    exact ⟨v', rfl, hown2, ⟨_, hgr⟩, by simpa using hat⟩
  · have h2' : ¬ r ≤ 2047 := by omega
    by_cases h3 : r < 65536
    · rcases hvv with h4 | ⟨h4, _⟩
      · have h5 : r < 55296 := by omega
        have e : chCells r = [.int .u8 (224 + r / 4096), .int .u8 (128 + r / 64 % 64), .int .u8 (128 + r % 64)] := by unfold chCells Vm.utfL; rw [if_neg (by omega), if_neg h2, if_pos h3]; rfl
        rw [e]; clear e
        go_enter Tryd.func101, Tryd.ntmps101
        go_wp2_with (at_builtin; refine wpList_append_own_at _ rfl _ _ 70 rfl B 5 i0 (.int .u8 0) 1 1 Tryd.underlying70 hi hz0 hz1 hz2 rfl (by decide) _ n xs rfl (hown.alloc _) ⟨w.heap.size, 0, none⟩ 3 3 [.int .u8 (224 + r / 4096), .int .u8 (128 + r / 64 % 64), .int .u8 (128 + r % 64)] rfl rfl (cells_new w [.int .u8 (224 + r / 4096), .int .u8 (128 + r / 64 % 64), .int .u8 (128 + r % 64)] 5) ?h1 ?h63 ?hby ?hbase ?_)
        case h1 => simp [Value.oneCell']
        try case h63 => unfold maxLen; omega
        try case hby => omega
        try case hbase => first | omega | (simp; omega)
        intro v' w2 hown2 hgr _ hat
        go_wp2
        go_ret
        exact ⟨v', rfl, hown2, ⟨_, hgr⟩, by simpa using hat⟩
      · have h5 : ¬ r < 55296 := by omega
        have h6 : 57343 < r := by omega
        have h7 : r ≤ 65535 := by omega
        have e : chCells r = [.int .u8 (224 + r / 4096), .int .u8 (128 + r / 64 % 64), .int .u8 (128 + r % 64)] := by unfold chCells Vm.utfL; rw [if_neg (by omega), if_neg h2, if_pos h3]; rfl
        rw [e]; clear e
        go_enter Tryd.func101, Tryd.ntmps101
        go_wp2_with (at_builtin; refine wpList_append_own_at _ rfl _ _ 70 rfl B 5 i0 (.int .u8 0) 1 1 Tryd.underlying70 hi hz0 hz1 hz2 rfl (by decide) _ n xs rfl (hown.alloc _) ⟨w.heap.size, 0, none⟩ 3 3 [.int .u8 (224 + r / 4096), .int .u8 (128 + r / 64 % 64), .int .u8 (128 + r % 64)] rfl rfl (cells_new w [.int .u8 (224 + r / 4096), .int .u8 (128 + r / 64 % 64), .int .u8 (128 + r % 64)] 5) ?h1 ?h63 ?hby ?hbase ?_)
        case h1 => simp [Value.oneCell']
        try case h63 => unfold maxLen; omega
        try case hby => omega
        try case hbase => first | omega | (simp; omega)
        intro v' w2 hown2 hgr _ hat
        go_wp2
        go_ret
        exact ⟨v', rfl, hown2, ⟨_, hgr⟩, by simpa using hat⟩
    · have h5 : ¬ r < 55296 := by omega
      have h6 : 57343 < r := by omega
      have h7 : ¬ r ≤ 65535 := by omega
      have h8 : 65535 < r := by omega
      have h9 : r ≤ 1114111 := by omega
      clear hvv
      have e : chCells r = [.int .u8 (240 + r / 262144), .int .u8 (128 + r / 4096 % 64), .int .u8 (128 + r / 64 % 64), .int .u8 (128 + r % 64)] := by unfold chCells Vm.utfL; rw [if_neg (by omega), if_neg h2, if_neg h3]; rfl
      rw [e]; clear e
      go_enter Tryd.func101, Tryd.ntmps101
      go_wp2_with (at_builtin; refine wpList_append_own_at _ rfl _ _ 70 rfl B 5 i0 (.int .u8 0) 1 1 Tryd.underlying70 hi hz0 hz1 hz2 rfl (by decide) _ n xs rfl (hown.alloc _) ⟨w.heap.size, 0, none⟩ 4 4 [.int .u8 (240 + r / 262144), .int .u8 (128 + r / 4096 % 64), .int .u8 (128 + r / 64 % 64), .int .u8 (128 + r % 64)] rfl rfl (cells_new w [.int .u8 (240 + r / 262144), .int .u8 (128 + r / 4096 % 64), .int .u8 (128 + r / 64 % 64), .int .u8 (128 + r % 64)] 5) ?h1 ?h63 ?hby ?hbase ?_)
      case h1 => simp [Value.oneCell']
      try case h63 => unfold maxLen; omega
      try case hby => omega
      try case hbase => first | omega | (simp; omega)
      intro v' w2 hown2 hgr _ hat
      go_wp2
      go_ret
      exact ⟨v', rfl, hown2, ⟨_, hgr⟩, by simpa using hat⟩
set_option maxRecDepth 100000 in
set_option maxHeartbeats 1000000 in
theorem app_rune (B : Nat) (v : Value) (n : Nat) (xs : List Value) (r : Int) (hv : Vm.validB r = true) (w : World) (hown : w.ownsRow B 5 1 v n xs) (hlen : n + 4 ≤ 140737488355328) (hB : B ≤ w.heap.size) :
    Calls Tryd.prog 89 #[v, .int .i32 r] w (AppPost B v n xs (chCells r) w) := by
  obtain ⟨i0, hi, hz0, hz1, hz2⟩ := info_parts Tryd.infoByte
  have hvv : 0 ≤ r ∧ r ≤ 1114111 := by simp [Vm.validB] at hv; omega
  by_cases h1 : r < 128
  · have h1' : r ≤ 127 := by omega
    have e : chCells r = [.int .u8 r] := by unfold chCells Vm.utfL; rw [if_pos h1]; rfl
    rw [e]; clear e
    go_enter Tryd.func89, Tryd.ntmps89
    go_wp2_with (at_builtin; refine wpList_append_own_at _ rfl _ _ 70 rfl B 5 i0 (.int .u8 0) 1 1 Tryd.underlying70 hi hz0 hz1 hz2 rfl (by decide) _ n xs rfl (hown.alloc _) ⟨w.heap.size, 0, none⟩ 1 1 [.int .u8 r] rfl rfl (cells_new w [.int .u8 r] 5) ?h1 ?h63 ?hby ?hbase ?hrest)
    case hrest =>
      intro v' w2 hown2 hgr _ hat
      go_wp2
      go_ret
      exact ⟨v', rfl, hown2, ⟨_, hgr⟩, by simpa using hat⟩
    case h1 => simp [Value.oneCell']
    all_goals first | omega | (unfold maxLen; omega) | (simp; omega)
  · have h1' : ¬ r ≤ 127 := by omega
    have HC := hide2 (app_other B v n xs r (by omega) hv w hown hlen hB)
    clear hv hown
    go_enter Tryd.func89, Tryd.ntmps89
    go_wp2_with fail
    refine HC.out.mono ?_
    rintro e w2 ⟨v', rfl, h3, h4, h5⟩
    go_wp2
    go_ret
    exact ⟨v', rfl, h3, h4, h5⟩

/-- The builder's buffer is turned for another. -/
theorem bd_put {B b n : Nat} {v v' : Value} {xs : List Value} {w w2 : World} {o : Obj} (hB : B ≤ b) (hbz : b < w.heap.size)
    (hbk : w.heap[b]? = some (.cells #[.pointer (some ⟨b, 0, none⟩), v] 110)) (hne : v.ownBlock ≠ some b) (hgr : (w.alloc o).grownBy w2 v.ownBlock)
    (hown : w2.ownsRow B 5 1 v' n xs) (hat : v'.ownBlock = v.ownBlock ∨ v'.ownBlock = some (w.heap.size + 1)) :
    w2.cell? ⟨b, 1, none⟩ = some v ∧ w2.frozen? ⟨b, 1, none⟩ = false ∧ Bd B b xs (w2.setCell ⟨b, 1, none⟩ v') ∧ Gr b w (w2.setCell ⟨b, 1, none⟩ v') := by
  have hkb : w2.heap[b]? = some (.cells #[.pointer (some ⟨b, 0, none⟩), v] 110) := by
    rw [hgr.block b (by rw [World.size_alloc]; omega) (fun e => hne e.symm), Below.heap_alloc _ _ _ hbz]
    exact hbk
  have c1 : w2.cell? ⟨b, 1, none⟩ = some v := by rw [Lib.cell_of_heap hkb]; rfl
  have hsz := hgr.size
  rw [World.size_alloc] at hsz
  have hw : w.cell? ⟨b, 1, none⟩ = some v := by rw [Lib.cell_of_heap hbk]; rfl
  have hvb : v'.ownBlock ≠ some b := by
    rcases hat with x | x
    · rw [x]; exact hne
    · rw [x]; intro e; injection e with e; omega
  have hn : n = xs.length := by have := hown.1; omega
  subst hn
  refine ⟨c1, by simp [World.frozen?, hkb], ⟨hB, v', ?_, ⟨hown.1, ?_⟩, hvb⟩, rfl.trans hgr.os, hgr.tape, hgr.output, ?_, ?_, ?_⟩
  · simp [World.setCell, Array.getElem?_modify, hkb]
  · rcases hown.2 with x | ⟨g, cap, cur, e1, e2, e3, r⟩
    · exact .inl x
    · refine .inr ⟨g, cap, cur, e1, e2, ?_, r⟩
      rw [Below.heap_setCell _ _ _ _ (fun e => hvb (by rw [e1, e]; rfl))]
      exact e3
  · simp [World.setCell]; omega
  · intro k h1 h2 h3
    rw [Below.heap_setCell _ _ _ _ (by simpa using h2)]
    rw [hgr.block k (by rw [World.size_alloc]; omega) (fun e => h3 ⟨v, hw, e.symm⟩), Below.heap_alloc _ _ _ h1]
  · rintro k ⟨u, h1, h2⟩
    rw [sc_eq _ _ 1 _ _ c1] at h1
    injection h1 with h1
    subst h1
    rcases hat with x | x
    · exact .inl ⟨v, hw, x ▸ h2⟩
    · rw [x] at h2; injection h2 with h2; exact .inr (by omega)

set_option maxRecDepth 100000 in
set_option maxHeartbeats 1000000 in
theorem bld_rune (B b : Nat) (bs : List Value) (r : Int) (hv : Vm.validB r = true) (w : World) (h : Bd B b bs w) (hlen : bs.length + 4 ≤ 140737488355328) (hBw : B ≤ w.heap.size) :
    Calls Tryd.prog 74 #[.pointer (some ⟨b, 0, none⟩), .int .i32 r] w fun e w' => (∃ v, e = .returned v) ∧ Bd B b (bs ++ chCells r) w' ∧ Gr b w w' := by
  have hmem := h.mem
  obtain ⟨hB, v, hbk, hown, hne⟩ := h
  have c0 : w.cell? ⟨b, 0, none⟩ = some (.pointer (some ⟨b, 0, none⟩)) := by rw [Lib.cell_of_heap hbk]; rfl
  have c1 : w.cell? ⟨b, 1, none⟩ = some v := by rw [Lib.cell_of_heap hbk]; rfl
  have hbz := block_lt c0
  obtain ⟨p, cap, rfl⟩ : ∃ p cap, v = .slice p bs.length cap := by
    rcases hown.2 with ⟨x, y⟩ | ⟨g, c, cur, x, _⟩
    · exact ⟨none, 0, by rw [x, y]⟩
    · exact ⟨_, _, x⟩
  have hmem1 := hmem
  have HM := hide2 hmem
  have HO := hide2 hown
  have HK := hide2 hbk
  have HN := hide2 hne
  clear hmem hmem1 hown hbk hne
  go_enter Tryd.func74, Tryd.ntmps74
  go_wp2_with fail
  refine (cc_used b _ c0).mono ?_
  rintro e w1 ⟨rfl, rfl⟩
  go_wp2_with fail
  refine (app_rune B _ bs.length bs r hv _ HO.out hlen hBw).mono ?_
  rintro e w2 ⟨v', rfl, hown2, ⟨o, hgr⟩, hat⟩
  obtain ⟨q, cap2, rfl⟩ : ∃ q cap2, v' = .slice q (bs.length + (chCells r).length) cap2 := by
    rcases hown2.2 with ⟨x, y⟩ | ⟨g, c, cur, x, _⟩
    · exact ⟨none, 0, by rw [x, y]⟩
    · exact ⟨_, _, x⟩
  have hput := bd_put hB hbz HK.out HN.out hgr hown2 hat
  have c1' := hput.1
  have f1' := hput.2.1
  have HP := hide2 hput.2.2
  clear hput hgr hown2 hat
  go_wp2
  go_ret2
  exact ⟨⟨_, rfl⟩, HP.out.1, HP.out.2⟩
end Go.Proofs.YtjbfgnhkgjigpaaDoor

namespace Vm
theorem utfL_bd {r : Int} (h : validB r = true) : ∀ n ∈ utfL r, 0 ≤ n ∧ n ≤ 255 := by
  have hv : 0 ≤ r ∧ r ≤ 1114111 := by rw [validB_iff] at h; omega
  unfold utfL
  intro n hn
  split at hn
  · simp at hn; omega
  · split at hn
    · simp at hn; omega
    · split at hn
      · simp at hn; omega
      · simp at hn; omega
end Vm
namespace Go.Proofs.YtjbfgnhkgjigpaaDoor
open Go.RowKit Go.Vit

def numsB (l : List Int) : List UInt8 := l.map (fun n => UInt8.ofNat n.toNat)
theorem str_numsB (l : List Int) : strOfNums l = ⟨(numsB l).toArray⟩ := rfl
theorem cells_nums {l : List Int} (h : ∀ n ∈ l, 0 ≤ n ∧ n ≤ 255) : l.map (Value.int .u8) = Lib.byteCells (numsB l) := by
  induction l with
  | nil => rfl
  | cons n l ih =>
    have hn := h n (by simp)
    have e : ((UInt8.ofNat n.toNat).toNat : Int) = n := by
      have : (UInt8.ofNat n.toNat).toNat = n.toNat % 256 := by simp
      rw [this]; omega
    have : Lib.byteCells (numsB (n :: l)) = .int .u8 ((UInt8.ofNat n.toNat).toNat : Int) :: Lib.byteCells (numsB l) := rfl
    rw [this, e, ← ih (fun m hm => h m (by simp [hm]))]
    rfl
/-- The cells of a text. -/
def txCells (A : List Vm.At) : List Value := A.flatMap (fun a => chCells (Vm.chA a))
theorem txCells_snoc (A : List Vm.At) (a : Vm.At) : txCells (A ++ [a]) = txCells A ++ chCells (Vm.chA a) := by simp [txCells]
theorem txCells_append (A B : List Vm.At) : txCells (A ++ B) = txCells A ++ txCells B := by simp [txCells]
theorem txCells_text {A : List Vm.At} (h : ∀ a ∈ A, Vm.ChOk a) : txCells A = Lib.byteCells (numsB (Vm.textL A)) := by
  have e : txCells A = (Vm.textL A).map (Value.int .u8) := by simp [txCells, Vm.textL, chCells, List.map_flatMap]
  rw [e]
  refine cells_nums ?_
  intro n hn
  simp only [Vm.textL, List.mem_flatMap] at hn
  obtain ⟨a, ha, hn⟩ := hn
  exact Vm.utfL_bd (h a ha).1 n hn
theorem txCells_len (A : List Vm.At) : (txCells A).length ≤ 4 * A.length := by
  induction A with
  | nil => simp [txCells]
  | cons a A ih =>
    have e : txCells (a :: A) = chCells (Vm.chA a) ++ txCells A := rfl
    rw [e, List.length_append, chCells_len, List.length_cons]
    have := Vm.utfLen_cases (Vm.chA a)
    omega

theorem bld_grow (B b n : Nat) (w : World) (hB : B ≤ b) (hbk : w.heap[b]? = some (.cells #[.pointer none, .slice none 0 0] 110)) (hBw : B ≤ w.heap.size) (hn : n ≤ 281474976710656) :
    Calls Tryd.prog 63 #[.pointer (some ⟨b, 0, none⟩), .int .i64 n] w fun e w' => e = .returned (.tuple #[]) ∧ Bd B b [] w' ∧ Below B w w' :=
  Any.Builder_Grow_fresh lays165 extraB B b n w hB hbk hBw hn
theorem bld_str (B b : Nat) (bs : List Value) (s : ByteArray) (w : World) (h : Bd B b bs w) (hlen : bs.length + s.size ≤ 140737488355328) (hBw : B ≤ w.heap.size) :
    Calls Tryd.prog 64 #[.pointer (some ⟨b, 0, none⟩), .string s] w fun e w' => e = .returned (.tuple #[.int .i64 s.size, .nilIface]) ∧ Bd B b (bs ++ Lib.strCells s) w' ∧ Below B w w' :=
  Any.Builder_WriteString lays166 extraB B b bs s w (.inr h) hlen hBw
theorem bld_string (B b : Nat) (l : List UInt8) (w : World) (h : Bd B b (Lib.byteCells l) w) (hBw : B ≤ w.heap.size) :
    Calls Tryd.prog 67 #[.pointer (some ⟨b, 0, none⟩)] w fun e w' => e = .returned (.string ⟨l.toArray⟩) ∧ Below B w w' :=
  Any.Builder_String_any lays169 extraB B b l w (.inr h) hBw
end Go.Proofs.YtjbfgnhkgjigpaaDoor

namespace Vm
/-- The bytes from one place to ahead of another, which may lie outside. -/
def partL (l : List UInt8) (f t : Int) : List UInt8 := (l.take t.toNat).drop f.toNat
theorem partL_out {l : List UInt8} {f t : Int} (h : (l.length : Int) ≤ f ∨ t ≤ 0 ∨ t ≤ f) : partL l f t = [] := by
  unfold partL
  apply List.drop_eq_nil_of_le
  rw [List.length_take]; omega
theorem partL_append (a b : List UInt8) (f t : Int) : partL (a ++ b) f t = partL a f t ++ partL b (f - a.length) (t - a.length) := by
  unfold partL
  rw [List.take_append, List.drop_append]
  congr 1
  have e1 : (t - (a.length : Int)).toNat = t.toNat - a.length := by omega
  have e2 : (f - (a.length : Int)).toNat = f.toNat - a.length := by omega
  rw [e1, e2, List.length_take]
  by_cases h : a.length ≤ t.toNat
  · rw [Nat.min_eq_right h]
  · have : t.toNat - a.length = 0 := by omega
    rw [this]; simp
theorem partL_all (l : List UInt8) (t : Int) (h : (l.length : Int) ≤ t) : partL l 0 t = l := by
  unfold partL
  rw [List.take_of_length_le (by omega)]; simp
theorem partL_len (l : List UInt8) (f t : Int) : (partL l f t).length ≤ l.length := by
  unfold partL
  rw [List.length_drop, List.length_take]; omega
theorem partL_extract (b : ByteArray) (i j : Nat) (f t : Int) (hi : i = f.toNat) (hj : j = min t.toNat b.size) : (b.extract i j).data.toList = partL b.data.toList f t := by
  rw [ByteArray.data_extract, Array.toList_extract, List.extract_eq_take_drop, hi, hj]
  unfold partL
  rw [List.take_drop]
  have hl : b.data.toList.length = b.size := rfl
  by_cases h : f.toNat ≤ min t.toNat b.size
  · rw [Nat.add_sub_cancel' h]
    congr 1
    by_cases g : t.toNat ≤ b.size
    · rw [Nat.min_eq_left g]
    · rw [Nat.min_eq_right (by omega), List.take_of_length_le (by omega), List.take_of_length_le (by omega)]
  · rw [Nat.sub_eq_zero_of_le (by omega), Nat.add_zero]
    rw [List.drop_eq_nil_of_le (by rw [List.length_take]; omega), List.drop_eq_nil_of_le (by rw [List.length_take]; omega)]
end Vm

namespace Go.Proofs.YtjbfgnhkgjigpaaDoor
open Go.RowKit

theorem slice_str (s : ByteArray) (i j : Nat) (w : World) (hij : i ≤ j) (hj : j ≤ s.size) : (Instr.slice 9 (.string s) (some (.int .i64 i)) (some (.int .i64 j)) none).run Tryd.prog w = .ok (.string (s.extract i j)) w := by
  simp [Instr.slice, go_sem, hij, hj]
end Go.Proofs.YtjbfgnhkgjigpaaDoor

namespace Go.Proofs.YtjbfgnhkgjigpaaDoor
open Go.RowKit

def Nd.wf : Nd → Nat
  | .leaf _ _ _ => 135
  | .inner _ _ _ _ _ => 141
theorem meth_leaf_write (f : Nat) (v : Value) (w : World) : (method (f + 1) 135 v "vellum/atoms.write").run Tryd.prog w = .ok (135, v) w := by kernel_rfl
theorem meth_inner_write (f : Nat) (v : Value) (w : World) : (method (f + 1) 157 v "vellum/atoms.write").run Tryd.prog w = .ok (141, v) w := by kernel_rfl
theorem meth_write (n : Nd) (f : Nat) (v : Value) (w : World) : (method (f + 1) n.ty v "vellum/atoms.write").run Tryd.prog w = .ok (n.wf, v) w := by
  cases n
  · exact meth_leaf_write f v w
  · exact meth_inner_write f v w

theorem bd_drew {B b : Nat} {bs : List Value} {w : World} (h : Bd B b bs w) : Bd B b bs w.drew := h
set_option maxRecDepth 100000 in
set_option maxHeartbeats 1000000 in
theorem write_leaf_in (B b : Nat) (bs : List Value) (Bl : Nat) (c : Cn) (s : ByteArray) (f t : Int) (w : World) (hl : (Nd.leaf Bl c s).In w) (hc : c.body = s.size) (hd : Bd B b bs w) (hBw : B ≤ w.heap.size)
    (hlen : bs.length + s.size ≤ 140737488355328) (_h1 : -4611686018427387904 ≤ f) (h2 : t ≤ 4611686018427387904) (hft : f ≤ t) (hin : f < s.size) (h0 : 0 < t) (hBl : Bl < B) :
    Calls Tryd.prog 135 #[.pointer (some ⟨Bl, 0, none⟩), .pointer (some ⟨b, 0, none⟩), .int .i64 f, .int .i64 t] w fun e w' => e = .returned (.tuple #[]) ∧ Bd B b (bs ++ Lib.byteCells (Vm.partL s.data.toList f t)) w' ∧ Below B w w' := by
  have c0 : w.cell? ⟨Bl, 0, none⟩ = some (.int .i64 c.body) := by rw [Lib.cell_of_heap hl]; rfl
  have c9 : w.cell? ⟨Bl, 9, none⟩ = some (.string s) := by rw [Lib.cell_of_heap hl]; rfl
  have hbz := heap_lt hl
  rw [hc] at c0
  clear hl hc
  have HD := hide1 hd
  clear hd
  have x1 : (0 : Int) ≤ max f 0 := by omega
  have x2 : max f 0 ≤ min t (s.size : Int) := by omega
  have x3 : (0 : Int) ≤ min t (s.size : Int) := by omega
  have x4 : min t (s.size : Int) ≤ (s.size : Int) := by omega
  have HW := hide1 (fun w' (h : Bd B b bs w') (hz : B ≤ w'.heap.size) => bld_str B b bs (s.extract (max f 0).toNat (min t (s.size : Int)).toNat) w' h (by rw [ByteArray.size_extract]; omega) hz)
  have HX := hide1 (Vm.partL_extract s (max f 0).toNat (min t (s.size : Int)).toNat f t (by omega) (by omega))
  go_enter Tryd.func135, Tryd.ntmps135
  go_wp2_with fail
  go_region_held3 (fun w' => w'.cell? ⟨Bl, 0, none⟩ = some (.int .i64 s.size) ∧ w'.cell? ⟨Bl, 9, none⟩ = some (.string s)) (first | exact ⟨k0, k9⟩ | go_keep)
    (first
      | (go_at_call 64; refine (HW.out _ (bd_drew HD.out) hBw).mono ?_; rintro e w1 ⟨rfl, hd1, hb1⟩; have k0 : w1.cell? ⟨Bl, 0, none⟩ = some (.int .i64 s.size) := (hb1.cell (p := ⟨Bl, 0, none⟩) hBl).trans c0; have k9 : w1.cell? ⟨Bl, 9, none⟩ = some (.string s) := (hb1.cell (p := ⟨Bl, 9, none⟩) hBl).trans c9))
  all_goals
    go_wp2_with fail
    go_returns
    refine ⟨rfl, ?_, ⟨hb1.os, hb1.tape, hb1.output, hb1.size, hb1.block⟩⟩
    rw [← HX.out]
    exact hd1

set_option maxRecDepth 100000 in
set_option maxHeartbeats 1000000 in
theorem write_leaf_out (b : Nat) (Bl : Nat) (c : Cn) (s : ByteArray) (f t : Int) (w : World) (hl : (Nd.leaf Bl c s).In w) (hc : c.body = s.size) (h : (s.size : Int) ≤ f ∨ t ≤ 0) :
    Calls Tryd.prog 135 #[.pointer (some ⟨Bl, 0, none⟩), .pointer (some ⟨b, 0, none⟩), .int .i64 f, .int .i64 t] w fun e w' => e = .returned (.tuple #[]) ∧ w' = w := by
  have c0 : w.cell? ⟨Bl, 0, none⟩ = some (.int .i64 c.body) := by rw [Lib.cell_of_heap hl]; rfl
  have hbz := heap_lt hl
  rw [hc] at c0
  clear hl hc
  by_cases hf : (s.size : Int) ≤ f
  · have hf' : ¬ f < (s.size : Int) := by omega
    clear h
    go_enter Tryd.func135, Tryd.ntmps135
    go_wp2_with fail
    go_returns
    exact ⟨rfl, rfl⟩
  · have ht : t ≤ 0 := h.resolve_left hf
    have hf' : f < (s.size : Int) := by omega
    have ht' : ¬ 0 < t := by omega
    clear h hf
    go_enter Tryd.func135, Tryd.ntmps135
    go_wp2_with fail
    go_returns
    exact ⟨rfl, rfl⟩
set_option maxRecDepth 100000 in
set_option maxHeartbeats 1000000 in
theorem write_inner_out (b : Nat) (Bl : Nat) (c : Cn) (k : Nat) (l r : Nd) (f t : Int) (w : World) (hl : (Nd.inner Bl c k l r).In w) (h : (c.body : Int) ≤ f ∨ t ≤ 0) :
    Calls Tryd.prog 141 #[.pointer (some ⟨Bl, 0, none⟩), .pointer (some ⟨b, 0, none⟩), .int .i64 f, .int .i64 t] w fun e w' => e = .returned (.tuple #[]) ∧ w' = w := by
  have c0 : w.cell? ⟨Bl, 0, none⟩ = some (.int .i64 c.body) := by rw [Lib.cell_of_heap hl.1]; rfl
  have hbz := heap_lt hl.1
  clear hl
  by_cases hf : (c.body : Int) ≤ f
  · have hf' : ¬ f < (c.body : Int) := by omega
    clear h
    go_enter Tryd.func141, Tryd.ntmps141
    go_wp2_with fail
    go_returns
    exact ⟨rfl, rfl⟩
  · have ht : t ≤ 0 := h.resolve_left hf
    have hf' : f < (c.body : Int) := by omega
    have ht' : ¬ 0 < t := by omega
    clear h hf
    go_enter Tryd.func141, Tryd.ntmps141
    go_wp2_with fail
    go_returns
    exact ⟨rfl, rfl⟩

/-- Writing a node appends what of its bytes stands between two places. -/
def Writes (n : Nd) (B : Nat) : Prop := ∀ (b : Nat) (bs : List Value) (f t : Int) (w : World), n.In w → Bd B b bs w → B ≤ w.heap.size → bs.length + (rowB n.row).length ≤ 140737488355328 → ((rowB n.row).length : Int) - 4611686018427387904 ≤ f → t ≤ 4611686018427387904 → f ≤ t →
  Calls Tryd.prog n.wf #[.pointer (some ⟨n.blk, 0, none⟩), .pointer (some ⟨b, 0, none⟩), .int .i64 f, .int .i64 t] w fun e w' => e = .returned (.tuple #[]) ∧ Bd B b (bs ++ Lib.byteCells (Vm.partL (rowB n.row) f t)) w' ∧ Below B w w'
theorem byteCells_nil : Lib.byteCells [] = [] := rfl
theorem writes_leaf (Bl : Nat) (c : Cn) (s : ByteArray) (B : Nat) (hB : Bl < B) (hc : c.body = s.size) : Writes (.leaf Bl c s) B := by
  intro b bs f t w hl hd hBw hlen h1 h2 hft
  have hr : rowB (Nd.leaf Bl c s).row = s.data.toList := by simp [rowB, Nd.row]
  rw [hr] at hlen h1 ⊢
  by_cases h : (s.size : Int) ≤ f ∨ t ≤ 0
  · have hp : Vm.partL s.data.toList f t = [] := Vm.partL_out (h.elim (fun x => .inl x) (fun x => .inr (.inl x)))
    rw [hp, byteCells_nil, List.append_nil]
    refine (write_leaf_out b Bl c s f t w hl hc h).mono ?_
    rintro e w' ⟨rfl, rfl⟩
    exact ⟨rfl, hd, Below.refl _ _⟩
  · exact write_leaf_in B b bs Bl c s f t w hl hc hd hBw hlen (by omega) h2 hft (by omega) (by omega) hB
end Go.Proofs.YtjbfgnhkgjigpaaDoor
