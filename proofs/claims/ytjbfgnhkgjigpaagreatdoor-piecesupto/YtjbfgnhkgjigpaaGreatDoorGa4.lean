import Derived.Test.YtjbfgnhkgjigpaaGreatDoorGa2
import Derived.Test.YtjbfgnhkgjigpaaGreatDoorGa3
namespace Go.Proofs.YtjbfgnhkgjigpaaGreatDoor
open Go.RowKit

theorem bcell {W w1 : World} (hb : Below W.heap.size W w1) : (∀ b o, b < W.heap.size → w1.cell? ⟨b, o, none⟩ = W.cell? ⟨b, o, none⟩) ∧ (∀ b o, b < W.heap.size → w1.frozen? ⟨b, o, none⟩ = W.frozen? ⟨b, o, none⟩) :=
  ⟨fun b o h => hb.cell (p := ⟨b, o, none⟩) h, fun b o h => hb.frozen (p := ⟨b, o, none⟩) h⟩

theorem sc_ne (W : World) (B i j : Nat) (v : Value) (h : i ≠ j) : (W.setCell ⟨B, i, none⟩ v).cell? ⟨B, j, none⟩ = W.cell? ⟨B, j, none⟩ := by
  apply World.cell?_setCell_other
  intro e
  injection e with e1 e2
  exact h e2
theorem sc_eq (W : World) (B i : Nat) (v u : Value) (h : W.cell? ⟨B, i, none⟩ = some u) : (W.setCell ⟨B, i, none⟩ v).cell? ⟨B, i, none⟩ = some v := World.cell?_setCell_same' W _ v (by rw [h]; rfl)
/-- Five stores into one block, read back. -/
theorem five_set {W : World} {B : Nat} {u0 u1 u2 u3 u4 : Value} (v0 v1 v2 v3 v4 : Value)
    (h : W.cell? ⟨B, 0, none⟩ = some u0 ∧ W.cell? ⟨B, 1, none⟩ = some u1 ∧ W.cell? ⟨B, 2, none⟩ = some u2 ∧ W.cell? ⟨B, 3, none⟩ = some u3 ∧ W.cell? ⟨B, 4, none⟩ = some u4) :
    (((((W.setCell ⟨B, 0, none⟩ v0).setCell ⟨B, 1, none⟩ v1).setCell ⟨B, 2, none⟩ v2).setCell ⟨B, 3, none⟩ v3).setCell ⟨B, 4, none⟩ v4).cell? ⟨B, 0, none⟩ = some v0 ∧
    (((((W.setCell ⟨B, 0, none⟩ v0).setCell ⟨B, 1, none⟩ v1).setCell ⟨B, 2, none⟩ v2).setCell ⟨B, 3, none⟩ v3).setCell ⟨B, 4, none⟩ v4).cell? ⟨B, 1, none⟩ = some v1 ∧
    (((((W.setCell ⟨B, 0, none⟩ v0).setCell ⟨B, 1, none⟩ v1).setCell ⟨B, 2, none⟩ v2).setCell ⟨B, 3, none⟩ v3).setCell ⟨B, 4, none⟩ v4).cell? ⟨B, 2, none⟩ = some v2 ∧
    (((((W.setCell ⟨B, 0, none⟩ v0).setCell ⟨B, 1, none⟩ v1).setCell ⟨B, 2, none⟩ v2).setCell ⟨B, 3, none⟩ v3).setCell ⟨B, 4, none⟩ v4).cell? ⟨B, 3, none⟩ = some v3 ∧
    (((((W.setCell ⟨B, 0, none⟩ v0).setCell ⟨B, 1, none⟩ v1).setCell ⟨B, 2, none⟩ v2).setCell ⟨B, 3, none⟩ v3).setCell ⟨B, 4, none⟩ v4).cell? ⟨B, 4, none⟩ = some v4 := by
  obtain ⟨h0, h1, h2, h3, h4⟩ := h
  refine ⟨?_, ?_, ?_, ?_, ?_⟩
  · rw [sc_ne _ _ 4 0 _ (by decide), sc_ne _ _ 3 0 _ (by decide), sc_ne _ _ 2 0 _ (by decide), sc_ne _ _ 1 0 _ (by decide), sc_eq _ _ 0 _ u0 h0]
  · rw [sc_ne _ _ 4 1 _ (by decide), sc_ne _ _ 3 1 _ (by decide), sc_ne _ _ 2 1 _ (by decide), sc_eq _ _ 1 _ u1 (by rw [sc_ne _ _ 0 1 _ (by decide)]; exact h1)]
  · rw [sc_ne _ _ 4 2 _ (by decide), sc_ne _ _ 3 2 _ (by decide), sc_eq _ _ 2 _ u2 (by rw [sc_ne _ _ 1 2 _ (by decide), sc_ne _ _ 0 2 _ (by decide)]; exact h2)]
  · rw [sc_ne _ _ 4 3 _ (by decide), sc_eq _ _ 3 _ u3 (by rw [sc_ne _ _ 2 3 _ (by decide), sc_ne _ _ 1 3 _ (by decide), sc_ne _ _ 0 3 _ (by decide)]; exact h3)]
  · rw [sc_eq _ _ 4 _ u4 (by rw [sc_ne _ _ 3 4 _ (by decide), sc_ne _ _ 2 4 _ (by decide), sc_ne _ _ 1 4 _ (by decide), sc_ne _ _ 0 4 _ (by decide)]; exact h4)]
/-- The five stores turn nothing below. -/
theorem five_below {w W : World} {B : Nat} (v0 v1 v2 v3 v4 : Value) (h : Below w.heap.size w W) (hB : w.heap.size ≤ B) :
    Below w.heap.size w (((((W.setCell ⟨B, 0, none⟩ v0).setCell ⟨B, 1, none⟩ v1).setCell ⟨B, 2, none⟩ v2).setCell ⟨B, 3, none⟩ v3).setCell ⟨B, 4, none⟩ v4) :=
  ((((h.setCell (p := ⟨B, 0, none⟩) hB _).setCell (p := ⟨B, 1, none⟩) hB _).setCell (p := ⟨B, 2, none⟩) hB _).setCell (p := ⟨B, 3, none⟩) hB _).setCell (p := ⟨B, 4, none⟩) hB _
/-- Five cells of a block behind a store elsewhere. -/
theorem five_far {W : World} {B C o : Nat} {u0 u1 u2 u3 u4 v : Value} (hne : C ≠ B)
    (h : W.cell? ⟨B, 0, none⟩ = some u0 ∧ W.cell? ⟨B, 1, none⟩ = some u1 ∧ W.cell? ⟨B, 2, none⟩ = some u2 ∧ W.cell? ⟨B, 3, none⟩ = some u3 ∧ W.cell? ⟨B, 4, none⟩ = some u4) :
    (W.setCell ⟨C, o, none⟩ v).cell? ⟨B, 0, none⟩ = some u0 ∧ (W.setCell ⟨C, o, none⟩ v).cell? ⟨B, 1, none⟩ = some u1 ∧ (W.setCell ⟨C, o, none⟩ v).cell? ⟨B, 2, none⟩ = some u2 ∧ (W.setCell ⟨C, o, none⟩ v).cell? ⟨B, 3, none⟩ = some u3 ∧ (W.setCell ⟨C, o, none⟩ v).cell? ⟨B, 4, none⟩ = some u4 := by
  have g : ∀ p, (W.setCell ⟨C, o, none⟩ v).cell? ⟨B, p, none⟩ = W.cell? ⟨B, p, none⟩ := fun p => World.cell?_setCell_far W _ _ v hne
  exact ⟨(g _).trans h.1, (g _).trans h.2.1, (g _).trans h.2.2.1, (g _).trans h.2.2.2.1, (g _).trans h.2.2.2.2⟩

/-- What the reader answers. -/
def rdVal (enc : Int) (s : ByteArray) (i : Nat) : Value :=
  match Vm.rd enc (s.data.toList.drop i) with
  | none => .tuple #[.agg #[.int .i64 0, .bool false, .int .i64 0, .int .i64 i, .int .i64 ((i : Int) + 1)], .bool false]
  | some x => .tuple #[.agg #[.int .i64 x.1, .bool x.2.1, .int .i64 0, .int .i64 i, .int .i64 ((i : Int) + x.2.2)], .bool true]

set_option maxRecDepth 100000 in
set_option maxHeartbeats 1000000 in
theorem rread_latin (s : ByteArray) (i : Nat) (w : World) (hs : s.size ≤ 1099511627776) (hi : i < s.size) :
    Calls Tryz.prog 131 #[.string s, .int .i64 i, .int .i64 3] w fun e w' => e = .returned (rdVal 3 s i) ∧ Below w.heap.size w w' := by
  have hI : (i : Int) < (s.size : Int) := by omega
  have hc := s[i].toNat_lt
  have e : rdVal 3 s i = .tuple #[.agg #[.int .i64 (s[i].toNat : Int), .bool false, .int .i64 0, .int .i64 i, .int .i64 ((i : Int) + 1)], .bool true] := by
    have e := Vm.len_drop s i
    unfold rdVal Vm.rd
    rw [if_neg (by omega), if_pos rfl, Vm.b0_drop, Nat.add_zero, Vm.b0_byte s i hi]; rfl
  rw [e]; clear e
  go_enter Tryz.func131, Tryz.ntmps131
  go_wp2
  exact bodyPost_ret (v := .tuple #[.agg #[.int .i64 (s[i].toNat : Int), .bool false, .int .i64 0, .int .i64 i, .int .i64 ((i : Int) + 1)], .bool true]) (by simp [results, Tryz.results131, go_sem]) rfl ⟨rfl, ((Below.refl _ _).alloc (Nat.le_refl _) _).alloc (by simp) _⟩

set_option maxRecDepth 100000 in
set_option maxHeartbeats 1000000 in
theorem rread_utf (s : ByteArray) (i : Nat) (w : World) (hs : s.size ≤ 1099511627776) (hi : i < s.size) :
    Calls Tryz.prog 131 #[.string s, .int .i64 i, .int .i64 0] w fun e w' => e = .returned (rdVal 0 s i) ∧ Below w.heap.size w w' := by
  have hI : (i : Int) < (s.size : Int) := by omega
  have hc := s[i].toNat_lt
  have e : rdVal 0 s i = if (Vm.utfRef (s.data.toList.drop i)).2 = 0 then .tuple #[.agg #[.int .i64 0, .bool true, .int .i64 0, .int .i64 i, .int .i64 ((i : Int) + 1)], .bool true]
      else .tuple #[.agg #[.int .i64 (Vm.utfRef (s.data.toList.drop i)).1, .bool false, .int .i64 0, .int .i64 i, .int .i64 ((i : Int) + (Vm.utfRef (s.data.toList.drop i)).2)], .bool true] := by
    have e := Vm.len_drop s i
    unfold rdVal Vm.rd
    rw [if_neg (by omega), if_neg (by decide), if_pos rfl]
    split
    · rename_i h; split at h <;> simp at h
    · rename_i x h
      split at h
      · rename_i h2; cases h; rw [if_pos h2]; rfl
      · rename_i h2; cases h; rw [if_neg h2]
  have hle := Vm.utfRef_le (s.data.toList.drop i)
  have hca := rutfAt_any s i
  generalize Vm.utfRef (s.data.toList.drop i) = u at *
  obtain ⟨n, k⟩ := u
  simp only at hle hca e
  have Hca := hide2 hca
  clear hca
  by_cases hk : k = 0
  · subst hk
    rw [e, if_pos rfl]; clear e
    go_enter Tryz.func131, Tryz.ntmps131
    go_wp2_with fail
    refine (Hca.out _ hs hi).mono ?_
    rintro e w2 ⟨rfl, hb2⟩
    obtain ⟨hc2, hf2⟩ := bcell hb2
    simp only [World.size_alloc] at hc2 hf2
    have hz2 := hb2.size
    simp only [World.size_alloc] at hz2
    have z : w2.cell? ⟨w.heap.size, 0, none⟩ = some (.int .i64 0) ∧ w2.cell? ⟨w.heap.size, 1, none⟩ = some (.bool false) ∧ w2.cell? ⟨w.heap.size, 2, none⟩ = some (.int .i64 0) ∧ w2.cell? ⟨w.heap.size, 3, none⟩ = some (.int .i64 0) ∧ w2.cell? ⟨w.heap.size, 4, none⟩ = some (.int .i64 0) :=
      ⟨(hc2 _ _ (by omega)).trans (by simp), (hc2 _ _ (by omega)).trans (by simp), (hc2 _ _ (by omega)).trans (by simp), (hc2 _ _ (by omega)).trans (by simp), (hc2 _ _ (by omega)).trans (by simp)⟩
    have hbw : Below w.heap.size w w2 := (((Below.refl _ _).alloc (Nat.le_refl _) _).alloc (by simp) _).trans (hb2.mono (by simp; omega))
    have Z := hide2 z
    clear z
    go_wp2
    have z := Z.out
    exact bodyPost_ret (v := .tuple #[.agg #[.int .i64 0, .bool true, .int .i64 0, .int .i64 i, .int .i64 ((i : Int) + 1)], .bool true]) (by
      have z5 := five_far (C := w.heap.size + 1) (o := 1) (v := .bool true) (by omega) z
      obtain ⟨q0, q1, q2, q3, q4⟩ := five_set (.int .i64 0) (.bool true) (.int .i64 0) (.int .i64 i) (.int .i64 ((i : Int) + 1)) z5
      simp [results, Tryz.results131, go_sem, q0, q1, q2, q3, q4]) rfl ⟨rfl, five_below _ _ _ _ _ (hbw.setCell (p := ⟨w.heap.size + 1, 1, none⟩) (Nat.le_succ _) _) (Nat.le_refl _)⟩
  · have hk' : ((k : Int) == 0) = false := by rw [beq_eq_false_iff_ne]; omega
    rw [e, if_neg hk]; clear e
    go_enter Tryz.func131, Tryz.ntmps131
    go_wp2_with fail
    refine (Hca.out _ hs hi).mono ?_
    rintro e w2 ⟨rfl, hb2⟩
    obtain ⟨hc2, hf2⟩ := bcell hb2
    simp only [World.size_alloc] at hc2 hf2
    have hz2 := hb2.size
    simp only [World.size_alloc] at hz2
    have z : w2.cell? ⟨w.heap.size, 0, none⟩ = some (.int .i64 0) ∧ w2.cell? ⟨w.heap.size, 1, none⟩ = some (.bool false) ∧ w2.cell? ⟨w.heap.size, 2, none⟩ = some (.int .i64 0) ∧ w2.cell? ⟨w.heap.size, 3, none⟩ = some (.int .i64 0) ∧ w2.cell? ⟨w.heap.size, 4, none⟩ = some (.int .i64 0) :=
      ⟨(hc2 _ _ (by omega)).trans (by simp), (hc2 _ _ (by omega)).trans (by simp), (hc2 _ _ (by omega)).trans (by simp), (hc2 _ _ (by omega)).trans (by simp), (hc2 _ _ (by omega)).trans (by simp)⟩
    have hbw : Below w.heap.size w w2 := (((Below.refl _ _).alloc (Nat.le_refl _) _).alloc (by simp) _).trans (hb2.mono (by simp; omega))
    have Z := hide2 z
    clear z
    go_wp2
    have z := Z.out
    exact bodyPost_ret (v := .tuple #[.agg #[.int .i64 n, .bool false, .int .i64 0, .int .i64 i, .int .i64 ((i : Int) + k)], .bool true]) (by
      have z5 := five_far (C := w.heap.size + 1) (o := 4) (v := .int .i64 ((i : Int) + k)) (by omega) (five_far (C := w.heap.size + 1) (o := 0) (v := .int .i64 n) (by omega) z)
      obtain ⟨q0, q1, q2, q3, q4⟩ := five_set (.int .i64 n) (.bool false) (.int .i64 0) (.int .i64 i) (.int .i64 ((i : Int) + k)) z5
      simp [results, Tryz.results131, go_sem, q0, q1, q2, q3, q4]) rfl ⟨rfl, five_below _ _ _ _ _ ((hbw.setCell (p := ⟨w.heap.size + 1, 0, none⟩) (Nat.le_succ _) _).setCell (p := ⟨w.heap.size + 1, 4, none⟩) (Nat.le_succ _) _) (Nat.le_refl _)⟩

theorem rdVal_tail {enc : Int} {s : ByteArray} {i : Nat} (he : enc = 1 ∨ enc = 2) (hi : i < s.size) (h : s.size ≤ i + 1) :
    rdVal enc s i = .tuple #[.agg #[.int .i64 0, .bool false, .int .i64 0, .int .i64 i, .int .i64 ((i : Int) + 1)], .bool false] := by
  have e := Vm.len_drop s i
  unfold rdVal Vm.rd
  rw [if_neg (by omega), if_neg (by omega), if_neg (by omega), if_pos (by omega)]
theorem rdVal_pair {enc : Int} {s : ByteArray} {i : Nat} (he : enc = 1 ∨ enc = 2) (h : i + 3 < s.size) (hu : 55296 ≤ Vm.unitAt enc s.data.toList i ∧ Vm.unitAt enc s.data.toList i ≤ 56319) (hv : 56320 ≤ Vm.unitAt enc s.data.toList (i + 2) ∧ Vm.unitAt enc s.data.toList (i + 2) ≤ 57343) :
    rdVal enc s i = .tuple #[.agg #[.int .i64 (65536 + 1024 * (Vm.unitAt enc s.data.toList i - 55296) + Vm.unitAt enc s.data.toList (i + 2) - 56320), .bool false, .int .i64 0, .int .i64 i, .int .i64 ((i : Int) + 4)], .bool true] := by
  have e := Vm.len_drop s i
  unfold rdVal Vm.rd
  rw [if_neg (by omega), if_neg (by omega), if_neg (by omega), if_neg (by omega), Vm.unitAt_drop, Vm.unitAt_drop, Nat.add_zero, if_pos ⟨hu.1, hu.2, by omega, hv.1, hv.2⟩]
  rfl
theorem rdVal_lone {enc : Int} {s : ByteArray} {i : Nat} (he : enc = 1 ∨ enc = 2) (h : i + 1 < s.size) (hp : ¬ (55296 ≤ Vm.unitAt enc s.data.toList i ∧ Vm.unitAt enc s.data.toList i ≤ 56319 ∧ i + 3 < s.size ∧ 56320 ≤ Vm.unitAt enc s.data.toList (i + 2) ∧ Vm.unitAt enc s.data.toList (i + 2) ≤ 57343)) :
    rdVal enc s i = .tuple #[.agg #[.int .i64 (Vm.unitAt enc s.data.toList i), .bool (decide (55296 ≤ Vm.unitAt enc s.data.toList i) && decide (Vm.unitAt enc s.data.toList i ≤ 57343)), .int .i64 0, .int .i64 i, .int .i64 ((i : Int) + 2)], .bool true] := by
  have e := Vm.len_drop s i
  unfold rdVal Vm.rd
  rw [if_neg (by omega), if_neg (by omega), if_neg (by omega), if_neg (by omega), Vm.unitAt_drop, Vm.unitAt_drop, Nat.add_zero, if_neg (fun x => hp ⟨x.1, x.2.1, by omega, x.2.2.2⟩)]
  rfl
end Go.Proofs.YtjbfgnhkgjigpaaGreatDoor

namespace Go.Proofs.YtjbfgnhkgjigpaaGreatDoor
open Go.RowKit

set_option maxRecDepth 100000 in
set_option maxHeartbeats 1000000 in
theorem rread_tail (s : ByteArray) (i : Nat) (enc : Int) (w : World) (hs : s.size ≤ 1099511627776) (he : enc = 1 ∨ enc = 2) (hi : i < s.size) (h : s.size ≤ i + 1) :
    Calls Tryz.prog 131 #[.string s, .int .i64 i, .int .i64 enc] w fun e w' => e = .returned (rdVal enc s i) ∧ Below w.heap.size w w' := by
  rw [rdVal_tail he hi h]
  have hI : (i : Int) < (s.size : Int) := by omega
  have hI1 : (s.size : Int) ≤ (i : Int) + 1 := by omega
  have e3 : (enc == 3) = false := by rw [beq_eq_false_iff_ne]; omega
  have e0 : (enc == 0) = false := by rw [beq_eq_false_iff_ne]; omega
  clear he
  go_enter Tryz.func131, Tryz.ntmps131
  go_wp2
  exact bodyPost_ret (v := .tuple #[.agg #[.int .i64 0, .bool false, .int .i64 0, .int .i64 i, .int .i64 ((i : Int) + 1)], .bool false]) (by simp [results, Tryz.results131, go_sem]) rfl ⟨rfl, ((Below.refl _ _).alloc (Nat.le_refl _) _).alloc (by simp) _⟩

/-- Five cells of a block that may be written. -/
structure Bx5 (w : World) (B : Nat) (v0 v1 v2 v3 v4 : Value) : Prop where
  c : w.cell? ⟨B, 0, none⟩ = some v0 ∧ w.cell? ⟨B, 1, none⟩ = some v1 ∧ w.cell? ⟨B, 2, none⟩ = some v2 ∧ w.cell? ⟨B, 3, none⟩ = some v3 ∧ w.cell? ⟨B, 4, none⟩ = some v4
  f : w.frozen? ⟨B, 0, none⟩ = false ∧ w.frozen? ⟨B, 1, none⟩ = false ∧ w.frozen? ⟨B, 2, none⟩ = false ∧ w.frozen? ⟨B, 3, none⟩ = false ∧ w.frozen? ⟨B, 4, none⟩ = false
theorem Bx5.below {w w' : World} {B : Nat} {v0 v1 v2 v3 v4 : Value} (h : Bx5 w B v0 v1 v2 v3 v4) (hb : Below w.heap.size w w') : Bx5 w' B v0 v1 v2 v3 v4 := by
  have hB := block_lt h.c.1
  have g : ∀ o, w'.cell? ⟨B, o, none⟩ = w.cell? ⟨B, o, none⟩ := fun o => hb.cell (p := ⟨B, o, none⟩) hB
  have k : ∀ o, w'.frozen? ⟨B, o, none⟩ = w.frozen? ⟨B, o, none⟩ := fun o => hb.frozen (p := ⟨B, o, none⟩) hB
  exact ⟨⟨(g _).trans h.c.1, (g _).trans h.c.2.1, (g _).trans h.c.2.2.1, (g _).trans h.c.2.2.2.1, (g _).trans h.c.2.2.2.2⟩, ⟨(k _).trans h.f.1, (k _).trans h.f.2.1, (k _).trans h.f.2.2.1, (k _).trans h.f.2.2.2.1, (k _).trans h.f.2.2.2.2⟩⟩
theorem Bx5.new (w : World) (t : TypeId) (v0 v1 v2 v3 v4 : Value) : Bx5 (w.alloc (.cells #[v0, v1, v2, v3, v4] t)) w.heap.size v0 v1 v2 v3 v4 :=
  ⟨⟨by simp, by simp, by simp, by simp, by simp⟩, ⟨by simp [go_sem], by simp [go_sem], by simp [go_sem], by simp [go_sem], by simp [go_sem]⟩⟩
theorem cast_call2 {s : ByteArray} {i : Nat} {enc : Int} {w : World} {R : Ending → World → Prop} (h : Calls Tryz.prog 156 #[.string s, .int .i64 ((i + 2 : Nat) : Int), .int .i64 enc] w R) : Calls Tryz.prog 156 #[.string s, .int .i64 ((i : Int) + 2), .int .i64 enc] w R := h
theorem five_kept' {w w' : World} {B : Nat} {v0 v1 v2 v3 v4 : Value} (h : w.cell? ⟨B, 0, none⟩ = some v0 ∧ w.cell? ⟨B, 1, none⟩ = some v1 ∧ w.cell? ⟨B, 2, none⟩ = some v2 ∧ w.cell? ⟨B, 3, none⟩ = some v3 ∧ w.cell? ⟨B, 4, none⟩ = some v4)
    (hb : Below w.heap.size w w') : w'.cell? ⟨B, 0, none⟩ = some v0 ∧ w'.cell? ⟨B, 1, none⟩ = some v1 ∧ w'.cell? ⟨B, 2, none⟩ = some v2 ∧ w'.cell? ⟨B, 3, none⟩ = some v3 ∧ w'.cell? ⟨B, 4, none⟩ = some v4 := by
  have hB := block_lt h.1
  exact ⟨(hb.cell (p := ⟨B, 0, none⟩) hB).trans h.1, (hb.cell (p := ⟨B, 1, none⟩) hB).trans h.2.1, (hb.cell (p := ⟨B, 2, none⟩) hB).trans h.2.2.1, (hb.cell (p := ⟨B, 3, none⟩) hB).trans h.2.2.2.1, (hb.cell (p := ⟨B, 4, none⟩) hB).trans h.2.2.2.2⟩

set_option maxRecDepth 100000 in
set_option maxHeartbeats 2000000 in
theorem rread_units (s : ByteArray) (i : Nat) (enc : Int) (w : World) (hs : s.size ≤ 1099511627776) (he : enc = 1 ∨ enc = 2) (h : i + 1 < s.size) :
    Calls Tryz.prog 131 #[.string s, .int .i64 i, .int .i64 enc] w fun e w' => e = .returned (rdVal enc s i) ∧ Below w.heap.size w w' := by
  have hI : (i : Int) < (s.size : Int) := by omega
  have hI1 : (i : Int) + 1 < (s.size : Int) := by omega
  have e3 : (enc == 3) = false := by rw [beq_eq_false_iff_ne]; omega
  have e0 : (enc == 0) = false := by rw [beq_eq_false_iff_ne]; omega
  have hub := Vm.unitAt_bd enc s.data.toList i
  have hvb := Vm.unitAt_bd enc s.data.toList (i + 2)
  have hca := runit_any s i enc
  have hcb := runit_any s (i + 2) enc
  have hpair := @rdVal_pair enc s i he
  have hlone := @rdVal_lone enc s i he h
  generalize Vm.unitAt enc s.data.toList i = U at *
  generalize Vm.unitAt enc s.data.toList (i + 2) = V at *
  have Hca := hide2 hca
  have Hcb := hide2 hcb
  have Hpair := hide2 hpair
  have Hlone := hide2 hlone
  clear hca hcb hpair hlone he
  go_enter Tryz.func131, Tryz.ntmps131
  go_wp2_with fail
  refine (Hca.out _ hs h).mono ?_
  rintro e w2 ⟨rfl, hb2⟩
  have bR := ((Bx5.new w 118 (.int .i64 0) (.bool false) (.int .i64 0) (.int .i64 0) (.int .i64 0)).below ((Below.refl _ _).alloc (Nat.le_refl _) (.cells #[.int .i64 0, .bool false, .int .i64 0, .int .i64 i, .int .i64 ((i : Int) + 2)] 118))).below hb2
  have bA := (Bx5.new (w.alloc (.cells #[.int .i64 0, .bool false, .int .i64 0, .int .i64 0, .int .i64 0] 118)) 118 (.int .i64 0) (.bool false) (.int .i64 0) (.int .i64 i) (.int .i64 ((i : Int) + 2))).below hb2
  simp only [World.size_alloc] at bA
  have hbw : Below w.heap.size w w2 := (((Below.refl _ _).alloc (Nat.le_refl _) _).alloc (by simp) _).trans (hb2.mono (by simp; omega))
  clear hb2
  obtain ⟨a0, a1, a2, a3, a4⟩ := bA.c
  obtain ⟨fa0, fa1, fa2, fa3, fa4⟩ := bA.f
  obtain ⟨r0, r1, r2, r3, r4⟩ := bR.c
  obtain ⟨fr0, fr1, fr2, fr3, fr4⟩ := bR.f
  have Z := hide2 bR.c
  by_cases hU : 55296 ≤ U ∧ U ≤ 56319
  · obtain ⟨hU1, hU2⟩ := hU
    by_cases h3 : i + 3 < s.size
    · have h3I : (i : Int) + 3 < (s.size : Int) := by omega
      go_wp2_with fail
      refine (cast_call2 (Hcb.out _ hs (by omega))).mono ?_
      rintro e w3 ⟨rfl, hb3⟩
      have hbw3 : Below w.heap.size w w3 := hbw.trans (hb3.mono hbw.size)
      have bR3 := bR.below hb3
      have bA3 := bA.below hb3
      clear hb3 Z
      obtain ⟨a0', a1', a2', a3', a4'⟩ := bA3.c
      obtain ⟨fa0', fa1', fa2', fa3', fa4'⟩ := bA3.f
      obtain ⟨r0', r1', r2', r3', r4'⟩ := bR3.c
      obtain ⟨fr0', fr1', fr2', fr3', fr4'⟩ := bR3.f
      have Z := hide2 bR3.c
      by_cases hV : 56320 ≤ V ∧ V ≤ 57343
      · obtain ⟨hV1, hV2⟩ := hV
        have Hv := hide2 (Hpair.out h3 ⟨hU1, hU2⟩ ⟨hV1, hV2⟩)
        go_wp2
        have z := Z.out
        exact bodyPost_ret (v := .tuple #[.agg #[.int .i64 (65536 + 1024 * (U - 55296) + V - 56320), .bool false, .int .i64 0, .int .i64 i, .int .i64 ((i : Int) + 4)], .bool true]) (by
          have z5 := five_far (C := w.heap.size + 1) (o := 4) (v := .int .i64 ((i : Int) + 4)) (by omega) (five_far (C := w.heap.size + 1) (o := 0) (v := .int .i64 (65536 + 1024 * (U - 55296) + V - 56320)) (by omega) z)
          obtain ⟨q0, q1, q2, q3, q4⟩ := five_set (.int .i64 (65536 + 1024 * (U - 55296) + V - 56320)) (.bool false) (.int .i64 0) (.int .i64 i) (.int .i64 ((i : Int) + 4)) z5
          simp [results, Tryz.results131, go_sem, q0, q1, q2, q3, q4]) rfl ⟨by rw [Hv.out], five_below _ _ _ _ _ ((hbw3.setCell (p := ⟨w.heap.size + 1, 0, none⟩) (Nat.le_succ _) _).setCell (p := ⟨w.heap.size + 1, 4, none⟩) (Nat.le_succ _) _) (Nat.le_refl _)⟩
      · have Hv := hide2 (Hlone.out (by omega))
        have HE : Hid ((decide (55296 ≤ U) && decide (U ≤ 57343)) = true) := by show _ = _; simp; omega
        have hE2 : U ≤ 57343 := by omega
        by_cases hV1 : 56320 ≤ V
        · have hV2 : ¬ V ≤ 57343 := by omega
          go_wp2
          have z := Z.out
          exact bodyPost_ret (v := .tuple #[.agg #[.int .i64 U, .bool true, .int .i64 0, .int .i64 i, .int .i64 ((i : Int) + 2)], .bool true]) (by
            have z5 := five_far (C := w.heap.size + 1) (o := 1) (v := .bool true) (by omega) (five_far (C := w.heap.size + 1) (o := 0) (v := .int .i64 U) (by omega) z)
            obtain ⟨q0, q1, q2, q3, q4⟩ := five_set (.int .i64 U) (.bool true) (.int .i64 0) (.int .i64 i) (.int .i64 ((i : Int) + 2)) z5
            simp [results, Tryz.results131, go_sem, q0, q1, q2, q3, q4]) rfl ⟨by rw [Hv.out]; rw [HE.out], five_below _ _ _ _ _ ((hbw3.setCell (p := ⟨w.heap.size + 1, 0, none⟩) (Nat.le_succ _) _).setCell (p := ⟨w.heap.size + 1, 1, none⟩) (Nat.le_succ _) _) (Nat.le_refl _)⟩
        · skip
          go_wp2
          have z := Z.out
          exact bodyPost_ret (v := .tuple #[.agg #[.int .i64 U, .bool true, .int .i64 0, .int .i64 i, .int .i64 ((i : Int) + 2)], .bool true]) (by
            have z5 := five_far (C := w.heap.size + 1) (o := 1) (v := .bool true) (by omega) (five_far (C := w.heap.size + 1) (o := 0) (v := .int .i64 U) (by omega) z)
            obtain ⟨q0, q1, q2, q3, q4⟩ := five_set (.int .i64 U) (.bool true) (.int .i64 0) (.int .i64 i) (.int .i64 ((i : Int) + 2)) z5
            simp [results, Tryz.results131, go_sem, q0, q1, q2, q3, q4]) rfl ⟨by rw [Hv.out]; rw [HE.out], five_below _ _ _ _ _ ((hbw3.setCell (p := ⟨w.heap.size + 1, 0, none⟩) (Nat.le_succ _) _).setCell (p := ⟨w.heap.size + 1, 1, none⟩) (Nat.le_succ _) _) (Nat.le_refl _)⟩
    · have h3I : ¬ (i : Int) + 3 < (s.size : Int) := by omega
      have Hv := hide2 (Hlone.out (by omega))
      have HE : Hid ((decide (55296 ≤ U) && decide (U ≤ 57343)) = true) := by show _ = _; simp; omega
      have hE2 : U ≤ 57343 := by omega
      go_wp2
      have z := Z.out
      exact bodyPost_ret (v := .tuple #[.agg #[.int .i64 U, .bool true, .int .i64 0, .int .i64 i, .int .i64 ((i : Int) + 2)], .bool true]) (by
        have z5 := five_far (C := w.heap.size + 1) (o := 1) (v := .bool true) (by omega) (five_far (C := w.heap.size + 1) (o := 0) (v := .int .i64 U) (by omega) z)
        obtain ⟨q0, q1, q2, q3, q4⟩ := five_set (.int .i64 U) (.bool true) (.int .i64 0) (.int .i64 i) (.int .i64 ((i : Int) + 2)) z5
        simp [results, Tryz.results131, go_sem, q0, q1, q2, q3, q4]) rfl ⟨by rw [Hv.out]; rw [HE.out], five_below _ _ _ _ _ ((hbw.setCell (p := ⟨w.heap.size + 1, 0, none⟩) (Nat.le_succ _) _).setCell (p := ⟨w.heap.size + 1, 1, none⟩) (Nat.le_succ _) _) (Nat.le_refl _)⟩
  · by_cases hU1 : 55296 ≤ U
    · have hU2 : ¬ U ≤ 56319 := by omega
      have Hv := hide2 (Hlone.out (by omega))
      by_cases hE2 : U ≤ 57343
      · have HE : Hid ((decide (55296 ≤ U) && decide (U ≤ 57343)) = true) := by show _ = _; simp; omega
        go_wp2
        have z := Z.out
        exact bodyPost_ret (v := .tuple #[.agg #[.int .i64 U, .bool true, .int .i64 0, .int .i64 i, .int .i64 ((i : Int) + 2)], .bool true]) (by
          have z5 := five_far (C := w.heap.size + 1) (o := 1) (v := .bool true) (by omega) (five_far (C := w.heap.size + 1) (o := 0) (v := .int .i64 U) (by omega) z)
          obtain ⟨q0, q1, q2, q3, q4⟩ := five_set (.int .i64 U) (.bool true) (.int .i64 0) (.int .i64 i) (.int .i64 ((i : Int) + 2)) z5
          simp [results, Tryz.results131, go_sem, q0, q1, q2, q3, q4]) rfl ⟨by rw [Hv.out]; rw [HE.out], five_below _ _ _ _ _ ((hbw.setCell (p := ⟨w.heap.size + 1, 0, none⟩) (Nat.le_succ _) _).setCell (p := ⟨w.heap.size + 1, 1, none⟩) (Nat.le_succ _) _) (Nat.le_refl _)⟩
      · have HE : Hid ((decide (55296 ≤ U) && decide (U ≤ 57343)) = false) := by show _ = _; simp; omega
        have hE3 : decide (U ≤ 57343) = false := by simp; omega
        go_wp2
        have z := Z.out
        exact bodyPost_ret (v := .tuple #[.agg #[.int .i64 U, .bool false, .int .i64 0, .int .i64 i, .int .i64 ((i : Int) + 2)], .bool true]) (by
          have z5 := five_far (C := w.heap.size + 1) (o := 1) (v := .bool false) (by omega) (five_far (C := w.heap.size + 1) (o := 0) (v := .int .i64 U) (by omega) z)
          obtain ⟨q0, q1, q2, q3, q4⟩ := five_set (.int .i64 U) (.bool false) (.int .i64 0) (.int .i64 i) (.int .i64 ((i : Int) + 2)) z5
          simp [results, Tryz.results131, go_sem, q0, q1, q2, q3, q4]) rfl ⟨by rw [Hv.out]; rw [HE.out], five_below _ _ _ _ _ ((hbw.setCell (p := ⟨w.heap.size + 1, 0, none⟩) (Nat.le_succ _) _).setCell (p := ⟨w.heap.size + 1, 1, none⟩) (Nat.le_succ _) _) (Nat.le_refl _)⟩
    · have Hv := hide2 (Hlone.out (by omega))
      have HE : Hid ((decide (55296 ≤ U) && decide (U ≤ 57343)) = false) := by show _ = _; simp; omega
      go_wp2
      have z := Z.out
      exact bodyPost_ret (v := .tuple #[.agg #[.int .i64 U, .bool false, .int .i64 0, .int .i64 i, .int .i64 ((i : Int) + 2)], .bool true]) (by
        have z5 := five_far (C := w.heap.size + 1) (o := 1) (v := .bool false) (by omega) (five_far (C := w.heap.size + 1) (o := 0) (v := .int .i64 U) (by omega) z)
        obtain ⟨q0, q1, q2, q3, q4⟩ := five_set (.int .i64 U) (.bool false) (.int .i64 0) (.int .i64 i) (.int .i64 ((i : Int) + 2)) z5
        simp [results, Tryz.results131, go_sem, q0, q1, q2, q3, q4]) rfl ⟨by rw [Hv.out]; rw [HE.out], five_below _ _ _ _ _ ((hbw.setCell (p := ⟨w.heap.size + 1, 0, none⟩) (Nat.le_succ _) _).setCell (p := ⟨w.heap.size + 1, 1, none⟩) (Nat.le_succ _) _) (Nat.le_refl _)⟩

/-- The reference's reader: whatever the encoding. -/
theorem rread_any (s : ByteArray) (i : Nat) (enc : Int) (w : World) (hs : s.size ≤ 1099511627776) (h0 : 0 ≤ enc) (h3 : enc ≤ 3) (hi : i < s.size) :
    Calls Tryz.prog 131 #[.string s, .int .i64 i, .int .i64 enc] w fun e w' => e = .returned (rdVal enc s i) ∧ Below w.heap.size w w' := by
  have : enc = 0 ∨ enc = 3 ∨ (enc = 1 ∨ enc = 2) := by omega
  rcases this with rfl | rfl | he
  · exact rread_utf s i w hs hi
  · exact rread_latin s i w hs hi
  · by_cases h : i + 1 < s.size
    · exact rread_units s i enc w hs he h
    · exact rread_tail s i enc w hs he hi (by omega)
end Go.Proofs.YtjbfgnhkgjigpaaGreatDoor
