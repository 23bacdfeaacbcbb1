import Derived.Test.YtjbfgnhkgjigpaaGreatDoorGa3
namespace Vm
/-- Char, Escape, End, From, To. -/
abbrev RA := Int × Bool × Int × Int × Int
/-- The reference's atom a is the atom x, which begins at p. -/
def RaOk (a : RA) (x : At) (p : Nat) : Prop :=
  a.2.2.2.1 = p ∧ a.2.2.2.2 = (p : Int) + x.2.2 ∧ a.2.1 = decide (x.1 = 4) ∧ a.2.2.1 = (if x.1 ≤ 2 then x.1 + 1 else 0) ∧ (x.1 ≠ 4 → a.1 = x.2.1) ∧ 0 ≤ x.1 ∧ x.1 ≤ 4
def Reads : List RA → List At → Nat → Prop
  | [], [], _ => True
  | a :: L, x :: A, p => RaOk a x p ∧ Reads L A (p + x.2.2)
  | _, _, _ => False
def sizeA (A : List At) : Nat := (A.map (fun x => x.2.2)).sum
theorem sizeA_snoc (A : List At) (x : At) : sizeA (A ++ [x]) = sizeA A + x.2.2 := by simp [sizeA]
theorem Reads.snoc : ∀ {L : List RA} {A : List At} {p : Nat} {a : RA} {x : At}, Reads L A p → RaOk a x (p + sizeA A) → Reads (L ++ [a]) (A ++ [x]) p
  | [], [], p, a, x, _, h => by simpa [Reads, sizeA] using h
  | [], _ :: _, _, _, _, h, _ => h.elim
  | _ :: _, [], _, _, _, h, _ => h.elim
  | b :: L, y :: A, p, a, x, h, hx => by
    refine ⟨h.1, h.2.snoc ?_⟩
    have : p + y.2.2 + sizeA A = p + sizeA (y :: A) := by simp [sizeA]; omega
    rw [this]; exact hx
theorem Reads.length : ∀ {L : List RA} {A : List At} {p : Nat}, Reads L A p → L.length = A.length
  | [], [], _, _ => rfl
  | [], _ :: _, _, h => h.elim
  | _ :: _, [], _, h => h.elim
  | _ :: L, _ :: A, _, h => by simp [h.2.length]
/-- The last atom told is no CR where none is held. -/
def NoCr (A : List At) : Prop := ∀ B x, A = B ++ [x] → x.1 ≠ 2
theorem nocr_nil : NoCr [] := fun B x h => by simp at h
theorem nocr_snoc {A : List At} {x : At} (h : x.1 ≠ 2) : NoCr (A ++ [x]) := fun B y e => by
  have := List.append_inj_right' e (by simp)
  simp at this; rw [← this]; exact h
/-- The End of the last. -/
theorem Reads.last {L : List RA} {a : RA} {A : List At} {p : Nat} (h : Reads (L ++ [a]) A p) (hn : NoCr A) : a.2.2.1 ≠ 3 := by
  induction L generalizing A p with
  | nil =>
    cases A with
    | nil => exact h.elim
    | cons x A =>
      cases A with
      | nil =>
        obtain ⟨⟨_, _, _, he, _, h0, _⟩, _⟩ := h
        have := hn [] x rfl
        rw [he]; split <;> omega
      | cons y A => exact h.2.elim
  | cons b L ih =>
    cases A with
    | nil => exact h.elim
    | cons x A => exact ih h.2 (fun B y e => hn (x :: B) y (by simp [e]))
end Vm

namespace Vm
theorem utfRef_valid (l : Bytes) (h : (utfRef l).2 ≠ 0) : validB (utfRef l).1 = true ∧ utfLen (utfRef l).1 = (utfRef l).2 := by
  unfold utfRef at h ⊢
  generalize rok l (rk (b0 l 0) - 1) = R at *
  generalize rpart l (rk (b0 l 0)) = N at *
  generalize rk (b0 l 0) = K at *
  by_cases c1 : K = 0
  · rw [if_pos c1] at h; simp at h
  · rw [if_neg c1] at h ⊢
    by_cases c2 : R = false
    · rw [if_pos c2] at h; simp at h
    · rw [if_neg c2] at h ⊢
      by_cases c3 : validB N = false
      · rw [if_pos c3] at h; simp at h
      · rw [if_neg c3] at h ⊢
        by_cases c4 : utfLen N = K
        · rw [if_pos c4]; exact ⟨by simpa using c3, c4⟩
        · rw [if_neg c4] at h; simp at h
/-- What is read: an escape is no line end, a character no number below 0. -/
theorem rd_what {enc : Int} {l : Bytes} {x : Int × Bool × Nat} (h : rd enc l = some x) : (x.2.1 = true → x.1 ≠ 10 ∧ x.1 ≠ 13) ∧ (x.2.1 = false → 0 ≤ x.1) := by
  unfold rd at h
  by_cases h0 : l.length = 0
  · rw [if_pos h0] at h; cases h
  · rw [if_neg h0] at h
    by_cases h3 : enc = 3
    · rw [if_pos h3] at h
      simp only [Option.some.injEq] at h; subst h
      exact ⟨fun e => by simp at e, fun _ => (b0_bd l 0).1⟩
    · rw [if_neg h3] at h
      by_cases hu : enc = 0
      · rw [if_pos hu] at h
        have hv := utfRef_valid l
        generalize utfRef l = u at *
        by_cases hk : u.2 = 0
        · rw [if_pos hk] at h
          simp only [Option.some.injEq] at h; subst h
          exact ⟨fun _ => by simp, fun e => by simp at e⟩
        · rw [if_neg hk] at h
          simp only [Option.some.injEq] at h; subst h
          have := (validB_iff u.1).1 (hv hk).1
          exact ⟨fun e => by simp at e, fun _ => by simp only; omega⟩
      · rw [if_neg hu] at h
        have hb := unitAt_bd enc l 0
        generalize unitAt enc l 0 = u at *
        generalize unitAt enc l 2 = v at *
        by_cases h2 : l.length < 2
        · rw [if_pos h2] at h; cases h
        · rw [if_neg h2] at h
          by_cases hp : 55296 ≤ u ∧ u ≤ 56319 ∧ 3 < l.length ∧ 56320 ≤ v ∧ v ≤ 57343
          · rw [if_pos hp] at h
            simp only [Option.some.injEq] at h; subst h
            exact ⟨fun e => by simp at e, fun _ => by simp only; omega⟩
          · rw [if_neg hp] at h
            simp only [Option.some.injEq] at h; subst h
            refine ⟨fun e => ?_, fun _ => hb.1⟩
            simp only [Bool.and_eq_true, decide_eq_true_eq] at e
            constructor <;> (simp only; omega)
theorem rd_le {enc : Int} {l : Bytes} {x : Int × Bool × Nat} (h : rd enc l = some x) (he : x.2.1 = false) : x.1 ≤ 1114111 := by
  unfold rd at h
  by_cases h0 : l.length = 0
  · rw [if_pos h0] at h; cases h
  · rw [if_neg h0] at h
    by_cases h3 : enc = 3
    · rw [if_pos h3] at h
      simp only [Option.some.injEq] at h; subst h
      have := (b0_bd l 0).2
      simp only; omega
    · rw [if_neg h3] at h
      by_cases hu : enc = 0
      · rw [if_pos hu] at h
        have hv := utfRef_valid l
        generalize utfRef l = u at *
        by_cases hk : u.2 = 0
        · rw [if_pos hk] at h
          simp only [Option.some.injEq] at h; subst h
          simp at he
        · rw [if_neg hk] at h
          simp only [Option.some.injEq] at h; subst h
          have := (validB_iff u.1).1 (hv hk).1
          simp only; omega
      · rw [if_neg hu] at h
        have hb := unitAt_bd enc l 0
        generalize unitAt enc l 0 = u at *
        generalize unitAt enc l 2 = v at *
        by_cases h2 : l.length < 2
        · rw [if_pos h2] at h; cases h
        · rw [if_neg h2] at h
          by_cases hp : 55296 ≤ u ∧ u ≤ 56319 ∧ 3 < l.length ∧ 56320 ≤ v ∧ v ≤ 57343
          · rw [if_pos hp] at h
            simp only [Option.some.injEq] at h; subst h
            simp only; omega
          · rw [if_neg hp] at h
            simp only [Option.some.injEq] at h; subst h
            simp only; omega
theorem rd_bd {enc : Int} {l : Bytes} {x : Int × Bool × Nat} (h : rd enc l = some x) : 1 ≤ x.2.2 ∧ x.2.2 ≤ 4 ∧ x.2.2 ≤ l.length := by
  have := rd_head enc l
  rw [h] at this
  exact headSg_le this.symm
theorem rd_sign {enc : Int} {l : Bytes} {x : Int × Bool × Nat} (h : rd enc l = some x) : headSg enc l = some (sgOf x) := by
  rw [← rd_head, h]; rfl
theorem rd_no {enc : Int} {l : Bytes} (h : rd enc l = none) : headSg enc l = none := by
  rw [← rd_head, h]; rfl
/-- The list when k bytes have been read. -/
def RS (enc : Int) (bs : Bytes) (k : Nat) (L : List RA) : Prop :=
  ∃ pre outA h L0, signs enc bs = pre ++ signs enc (bs.drop k) ∧ Told pre outA h ∧ Reads L0 outA 0 ∧ sizeA outA + h = k ∧ (h = 0 → NoCr outA) ∧
    L = L0 ++ (if 0 < h then [(10, false, 3, ((k : Int) - h), (k : Int))] else []) ∧ L.length ≤ k
theorem RS.nil (enc : Int) (bs : Bytes) : RS enc bs 0 [] := ⟨[], [], 0, [], rfl, Told.nil, trivial, rfl, fun _ => nocr_nil, rfl, Nat.le_refl _⟩
/-- A held 13 becomes a line end of its own. -/
theorem Reads.cr {L0 : List RA} {outA : List At} {h k : Nat} (hr : Reads L0 outA 0) (hs : sizeA outA + h = k) : Reads (L0 ++ [(10, false, 3, ((k : Int) - h), (k : Int))]) (outA ++ [(2, 10, h)]) 0 :=
  hr.snoc ⟨by simp only; omega, by simp only; omega, by simp, by simp, fun _ => rfl, by simp, by simp⟩
theorem RS.done {enc : Int} {bs : Bytes} {k : Nat} {L : List RA} (r : RS enc bs k L) (h : headSg enc (bs.drop k) = none) : Reads L (atoms enc bs) 0 := by
  obtain ⟨pre, outA, hh, L0, hs, t, hr, hz, _, rfl, _⟩ := r
  have e := sg_end hs h
  unfold atoms
  rw [e, t.all]
  by_cases x : 0 < hh
  · rw [if_pos x, if_pos x]; exact hr.cr hz
  · rw [if_neg x, if_neg x]; simpa using hr
theorem RS.len {enc : Int} {bs : Bytes} {k : Nat} {L : List RA} (r : RS enc bs k L) : L.length ≤ k := by
  obtain ⟨_, _, _, _, _, _, _, _, _, _, h⟩ := r; exact h
theorem sgl (c : Int) (e : Bool) (n : Nat) (h10 : c ≠ 10) (hp : e = false → 0 ≤ c) : singleA (sgOf (c, e, n)) = if e then (4, 65533, n) else (3, c, n) := by
  unfold singleA sgOf
  cases e
  · have := hp rfl
    simp [h10, show c ≠ -1 by omega]
  · rfl
/-- A sign that is neither 10 nor 13. -/
theorem RS.other {enc : Int} {bs : Bytes} {k : Nat} {L : List RA} {c : Int} {e : Bool} {n : Nat} (r : RS enc bs k L) (hx : rd enc (bs.drop k) = some (c, e, n)) (h10 : c ≠ 10) (h13 : c ≠ 13) :
    RS enc bs (k + n) (L ++ [(c, e, 0, (k : Int), (k : Int) + n)]) := by
  obtain ⟨pre, outA, hh, L0, hs, t, hr, hz, hn, rfl, hl⟩ := r
  obtain ⟨b1, b2, b3⟩ := rd_bd hx
  simp only at b1
  obtain ⟨_, hs2⟩ := sg_next hs (rd_sign hx)
  have g10 : (sgOf (c, e, n)).1 ≠ 10 := by unfold sgOf; cases e <;> simp [h10]
  have g13 : (sgOf (c, e, n)).1 ≠ 13 := by unfold sgOf; cases e <;> simp [h13]
  have gn : (sgOf (c, e, n)).2 = n := rfl
  rw [gn] at hs2
  have hA := sgl c e n h10 (rd_what hx).2
  have hsingle : (singleA (sgOf (c, e, n))).2.2 = n := by rw [hA]; cases e <;> rfl
  have hnk : (singleA (sgOf (c, e, n))).1 ≠ 2 := by rw [hA]; cases e <;> simp
  have hok : ∀ p : Nat, p = k → RaOk (c, e, 0, (k : Int), (k : Int) + n) (singleA (sgOf (c, e, n))) p := fun p hp => by
    subst hp
    rw [hA]
    cases e
    · exact ⟨rfl, rfl, by simp, by simp, fun _ => rfl, by simp, by simp⟩
    · exact ⟨rfl, rfl, by simp, by simp, fun x => absurd rfl x, by simp, by simp⟩
  have hlen : ∀ M : List RA, M.length ≤ k → (M ++ [(c, e, 0, (k : Int), (k : Int) + n)]).length ≤ k + n := fun M hM => by simp; omega
  by_cases x : 0 < hh
  · rw [if_pos x] at hl ⊢
    refine ⟨_, outA ++ [(2, 10, hh)] ++ [singleA (sgOf (c, e, n))], 0, L0 ++ [(10, false, 3, ((k : Int) - hh), (k : Int))] ++ [(c, e, 0, (k : Int), (k : Int) + n)], hs2, t.one2 x g13 g10, (hr.cr hz).snoc (hok _ ?_), ?_, fun _ => nocr_snoc hnk, by simp, hlen _ hl⟩
    · rw [sizeA_snoc]; simp only; omega
    · rw [sizeA_snoc, sizeA_snoc, hsingle]; simp only; omega
  · rw [if_neg x, List.append_nil] at hl ⊢
    refine ⟨_, outA ++ [singleA (sgOf (c, e, n))], 0, L0 ++ [(c, e, 0, (k : Int), (k : Int) + n)], hs2, t.one (by omega) g13, hr.snoc (hok _ (by omega)), ?_, fun _ => nocr_snoc hnk, by simp, hlen _ hl⟩
    rw [sizeA_snoc, hsingle]; omega
/-- A 13. -/
theorem RS.cr {enc : Int} {bs : Bytes} {k : Nat} {L : List RA} {n : Nat} (r : RS enc bs k L) (hx : rd enc (bs.drop k) = some (13, false, n)) :
    RS enc bs (k + n) (L ++ [(10, false, 3, (k : Int), (k : Int) + n)]) := by
  obtain ⟨pre, outA, hh, L0, hs, t, hr, hz, hn, rfl, hl⟩ := r
  obtain ⟨b1, b2, b3⟩ := rd_bd hx
  simp only at b1
  obtain ⟨_, hs2⟩ := sg_next hs (rd_sign hx)
  have gn : sgOf (13, false, n) = (13, n) := rfl
  rw [gn] at hs2
  have e1 : (((k + n : Nat) : Int) - (n : Int)) = (k : Int) := by omega
  have e2 : ((k + n : Nat) : Int) = (k : Int) + n := by omega
  by_cases x : 0 < hh
  · rw [if_pos x] at hl ⊢
    refine ⟨_, outA ++ [(2, 10, hh)], n, L0 ++ [(10, false, 3, ((k : Int) - hh), (k : Int))], hs2, t.cr2 x rfl, hr.cr hz, ?_, fun y => by omega, ?_, by simp at hl ⊢; omega⟩
    · rw [sizeA_snoc]; simp only; omega
    · rw [if_pos (by omega), e1, e2]
  · rw [if_neg x, List.append_nil] at hl ⊢
    refine ⟨_, outA, n, L0, hs2, t.cr (by omega) rfl, hr, by omega, fun y => by omega, ?_, by simp; omega⟩
    rw [if_pos (by omega), e1, e2]
/-- A 10 behind no 13. -/
theorem RS.lf {enc : Int} {bs : Bytes} {k : Nat} {L : List RA} {n : Nat} (r : RS enc bs k L) (hx : rd enc (bs.drop k) = some (10, false, n)) (hlast : ∀ M a, L = M ++ [a] → a.2.2.1 ≠ 3) :
    RS enc bs (k + n) (L ++ [(10, false, 1, (k : Int), (k : Int) + n)]) := by
  obtain ⟨pre, outA, hh, L0, hs, t, hr, hz, hn, rfl, hl⟩ := r
  obtain ⟨b1, b2, b3⟩ := rd_bd hx
  simp only at b1
  obtain ⟨_, hs2⟩ := sg_next hs (rd_sign hx)
  have gn : sgOf (10, false, n) = (10, n) := rfl
  rw [gn] at hs2
  by_cases x : 0 < hh
  · rw [if_pos x] at hlast
    exact absurd rfl (hlast _ _ rfl)
  · rw [if_neg x, List.append_nil] at hl ⊢
    refine ⟨_, outA ++ [(0, 10, n)], 0, L0 ++ [(10, false, 1, (k : Int), (k : Int) + n)], hs2, t.one (x := (10, n)) (by omega) (by simp), hr.snoc ⟨by simp only; omega, by simp only; omega, by simp, by simp, fun _ => rfl, by simp, by simp⟩, ?_, fun _ => nocr_snoc (by simp), by simp, by simp; omega⟩
    rw [sizeA_snoc]; simp only; omega
/-- A 10 behind a 13. -/
theorem RS.crlf {enc : Int} {bs : Bytes} {k : Nat} {M : List RA} {a : RA} {n : Nat} (r : RS enc bs k (M ++ [a])) (hx : rd enc (bs.drop k) = some (10, false, n)) (ha : a.2.2.1 = 3) :
    RS enc bs (k + n) (M ++ [(a.1, a.2.1, 2, a.2.2.2.1, (k : Int) + n)]) := by
  obtain ⟨pre, outA, hh, L0, hs, t, hr, hz, hn, hL, hl⟩ := r
  obtain ⟨b1, b2, b3⟩ := rd_bd hx
  simp only at b1
  obtain ⟨_, hs2⟩ := sg_next hs (rd_sign hx)
  have gn : sgOf (10, false, n) = (10, n) := rfl
  rw [gn] at hs2
  by_cases x : 0 < hh
  · rw [if_pos x] at hL
    have h1 := List.append_inj_right' hL (by simp)
    have h2 := List.append_inj_left' hL (by simp)
    subst h2
    simp only [List.cons.injEq, and_true] at h1
    subst h1
    refine ⟨_, outA ++ [(1, 10, n + hh)], 0, M ++ [(10, false, 2, ((k : Int) - hh), (k : Int) + n)], hs2, t.crlf (x := (10, n)) x rfl, hr.snoc ⟨by simp only; omega, by simp only; omega, by simp, by simp, fun _ => rfl, by simp, by simp⟩, ?_, fun _ => nocr_snoc (by simp), by simp, by simp at hl ⊢; omega⟩
    rw [sizeA_snoc]; simp only; omega
  · rw [if_neg x, List.append_nil] at hL
    subst hL
    exact absurd ha (hr.last (hn (by omega)))
end Vm
