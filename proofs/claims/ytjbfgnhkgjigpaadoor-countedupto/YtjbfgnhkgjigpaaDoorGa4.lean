import Derived.RangeFuncNested
import Derived.RangeFuncLeaves
import Derived.Scope
import Derived.RangeFuncBound
import Derived.RangeFuncCalls
import Derived.Shelf.Abstract
import Derived.Shelf.RegionOpen
import Derived.OwnWalkIn
import Derived.TacticsInMore
import Derived.LoopNIn
import Derived.LoopIn
import Derived.Deep.QuietTactic
import Derived.BigQuiet
import Derived.Deep.RegionWith
import Derived.Deep.RegionHeld3
import Derived.Shelf.RegionOpenPlain
import Derived.Shelf.Strings.Builder1
import Derived.Shelf.Strings.Builder2
import Derived.Shelf.Small.Utf8
import Derived.Shelf.Strings.BuilderF
import Derived.Shelf.Strings.BuilderK
import Derived.Shelf.Strings.BuilderRune
import Derived.Shelf.Strings.Prefix
import Derived.Shelf.Utf8.AppendRunePlain
import Derived.Test.YtjbfgnhkgjigpaaDoorProg
import Derived.Test.YtjbfgnhkgjigpaaDoorGa1
import Derived.Test.YtjbfgnhkgjigpaaDoorGa3
namespace Vm
theorem sizeA_append (A B : List At) : sizeA (A ++ B) = sizeA A + sizeA B := by simp [sizeA]
theorem bytesA_append (A B : List At) : bytesA (A ++ B) = bytesA A + bytesA B := by simp [bytesA]
theorem unitsA_append (A B : List At) : unitsA (A ++ B) = unitsA A + unitsA B := by simp [unitsA]
theorem cntK_append (A B : List At) (j : Int) : cntK (A ++ B) j = cntK A j + cntK B j := by simp [cntK]
end Vm
namespace Go.Proofs.YtjbfgnhkgjigpaaDoor
open Go.RowKit

/-- What is counted of atoms. -/
def cnOf (A : List Vm.At) : Cn := ⟨Vm.sizeA A, Vm.bytesA A, A.length, Vm.unitsA A, Vm.cntK A 4, Vm.cntK A 0, Vm.cntK A 1, Vm.cntK A 2⟩
theorem cnOf_append (A B : List Vm.At) : cnOf (A ++ B) = (cnOf A).plus (cnOf B) := by
  simp only [cnOf, Cn.plus, Vm.sizeA_append, Vm.bytesA_append, Vm.unitsA_append, Vm.cntK_append, List.length_append]
theorem cnOf_nil : cnOf [] = ⟨0, 0, 0, 0, 0, 0, 0, 0⟩ := rfl
theorem cnOf_small {A : List Vm.At} (h : Vm.sizeA A ≤ 281474976710656) (hl : A.length ≤ 281474976710656) : (cnOf A).Small := by
  have h1 := Vm.bytesA_le A
  have h2 := Vm.unitsA_le A
  have h3 := Vm.cntK_le A 4
  have h4 := Vm.cntK_le A 0
  have h5 := Vm.cntK_le A 1
  have h6 := Vm.cntK_le A 2
  constructor <;> simp only [cnOf] <;> omega
/-- A leaf is as it should be: it reads as so many atoms, and they are all its bytes. -/
def LeafOk (enc : Int) (x : Cn × ByteArray) : Prop := x.1 = cnOf (Vm.atoms enc x.2.data.toList) ∧ Vm.sizeA (Vm.atoms enc x.2.data.toList) = x.2.size
/-- The atoms of a row of leaves, and their bytes. -/
def rowA (enc : Int) (R : List (Cn × ByteArray)) : List Vm.At := R.flatMap (fun x => Vm.atoms enc x.2.data.toList)
def rowB (R : List (Cn × ByteArray)) : List UInt8 := R.flatMap (fun x => x.2.data.toList)
theorem rowA_append (enc : Int) (R T : List (Cn × ByteArray)) : rowA enc (R ++ T) = rowA enc R ++ rowA enc T := by simp [rowA]
theorem rowB_append (R T : List (Cn × ByteArray)) : rowB (R ++ T) = rowB R ++ rowB T := by simp [rowB]
theorem Nd.cn_row (enc : Int) : ∀ {n : Nd}, n.Ok → (∀ x ∈ n.row, LeafOk enc x) → n.cn = cnOf (rowA enc n.row)
  | .leaf _ c s, _, h => by
    have := (h (c, s) (by simp [Nd.row])).1
    simpa [Nd.cn, Nd.row, rowA] using this
  | .inner _ c _ l r, ⟨hc, _, hl, hr⟩, h => by
    show c = _
    rw [hc, Nd.cn_row enc hl (fun x hx => h x (by simp [Nd.row, hx])), Nd.cn_row enc hr (fun x hx => h x (by simp [Nd.row, hx]))]
    rw [← cnOf_append, ← rowA_append]; rfl
theorem rowA_size {enc : Int} : ∀ {R : List (Cn × ByteArray)}, (∀ x ∈ R, LeafOk enc x) → Vm.sizeA (rowA enc R) = (rowB R).length
  | [], _ => rfl
  | x :: R, h => by
    have h1 := (h x (by simp)).2
    have h2 := rowA_size (R := R) (fun y hy => h y (by simp [hy]))
    have e1 : rowA enc (x :: R) = Vm.atoms enc x.2.data.toList ++ rowA enc R := by simp [rowA]
    have e2 : rowB (x :: R) = x.2.data.toList ++ rowB R := by simp [rowB]
    rw [e1, e2, Vm.sizeA_append, List.length_append, h1, h2]; rfl
/-- A tree's value. -/
def trv : Option Nd → Value
  | none => .nilIface
  | some n => .iface n.ty (.pointer (some ⟨n.blk, 0, none⟩))
/-- A tree in memory: its leaves, one behind the other. -/
structure TrAt (w : World) (enc : Int) (t : Option Nd) (R : List (Cn × ByteArray)) : Prop where
  inn : ∀ n, t = some n → n.In w ∧ n.Ok ∧ n.row = R
  non : t = none → R = []
  ok : ∀ x ∈ R, LeafOk enc x
theorem TrAt.low {w w' : World} {enc : Int} {t : Option Nd} {R : List (Cn × ByteArray)} (h : TrAt w enc t R) (hb : Below w.heap.size w w') : TrAt w' enc t R :=
  ⟨fun n hn => ⟨Nd.low hb (h.inn n hn).1, (h.inn n hn).2⟩, h.non, h.ok⟩
theorem TrAt.counts {w : World} {enc : Int} {t : Option Nd} {R : List (Cn × ByteArray)} (h : TrAt w enc t R) :
    Calls Tryd.prog 41 #[.agg #[trv t]] w fun e w' => e = .returned (cnOf (rowA enc R)).val ∧ Below w.heap.size w w' := by
  cases t with
  | none =>
    have := h.non rfl
    subst this
    exact tcounts_nil w
  | some n =>
    obtain ⟨h1, h2, h3⟩ := h.inn n rfl
    have hc := Nd.cn_row enc h2 (by rw [h3]; exact h.ok)
    rw [h3] at hc
    have := tcounts_any n w h1
    rw [n.val_eq, hc] at this
    exact this
end Go.Proofs.YtjbfgnhkgjigpaaDoor

namespace Vm
theorem len_sizeA {A : List At} (h : ∀ a ∈ A, AtOk a) : A.length ≤ sizeA A := by
  induction A with
  | nil => simp
  | cons a A ih =>
    have h1 := (h a (by simp)).2.2.2.2.2.2.1
    have h2 := ih (fun x hx => h x (by simp [hx]))
    have e : sizeA (a :: A) = a.2.2 + sizeA A := by simp [sizeA]
    rw [e, List.length_cons]; omega
end Vm
namespace Go.Proofs.YtjbfgnhkgjigpaaDoor
open Go.RowKit

theorem rowA_ok (enc : Int) (R : List (Cn × ByteArray)) : ∀ a ∈ rowA enc R, Vm.AtOk a := by
  intro a ha
  simp only [rowA, List.mem_flatMap] at ha
  obtain ⟨x, _, hx⟩ := ha
  exact Vm.atoms_ok enc _ a hx
theorem rowA_none {enc : Int} {R : List (Cn × ByteArray)} (h : ∀ x ∈ R, LeafOk enc x) (h0 : (rowB R).length = 0) : rowA enc R = [] ∧ rowB R = [] := by
  have h1 := rowA_size h
  have h2 := Vm.len_sizeA (rowA_ok enc R)
  exact ⟨List.eq_nil_of_length_eq_zero (by omega), List.eq_nil_of_length_eq_zero h0⟩
theorem rowA_small {enc : Int} {R : List (Cn × ByteArray)} (h : ∀ x ∈ R, LeafOk enc x) (hb : (rowB R).length ≤ 281474976710656) : (cnOf (rowA enc R)).Small := by
  have h1 := rowA_size h
  have h2 := Vm.len_sizeA (rowA_ok enc R)
  exact cnOf_small (by omega) (by omega)

/-- What Join gives. -/
structure JoinOk (enc : Int) (b : Option Nd) (Ra Rb : List (Cn × ByteArray)) (w : World) (e : Ending) (w' : World) (t : Option Nd) (R : List (Cn × ByteArray)) : Prop where
  val : e = .returned (.agg #[trv t])
  at_ : TrAt w' enc t R
  atoms : rowA enc R = rowA enc Ra ++ rowA enc Rb
  bytes : rowB R = rowB Ra ++ rowB Rb
  len : R.length ≤ Ra.length + Rb.length
  below : Below w.heap.size w w'
  som : b.isSome = true → t.isSome = true

theorem field_body (v0 v1 v2 v3 v4 v5 v6 v7 : Value) (w : World) : (Instr.field 84 (.agg #[v0, v1, v2, v3, v4, v5, v6, v7]) 0).run Tryd.prog w = .ok v0 w := by kernel_rfl
theorem trv_cases (t : Option Nd) : trv t = .nilIface ∨ ∃ k v, trv t = .iface k v := by
  cases t with
  | none => exact .inl rfl
  | some n => exact .inr ⟨_, _, rfl⟩
/-- A cell that holds a nil interface value is no node's first. -/
theorem Nd.kept_set {w : World} {b j : Nat} {v : Value} (hc : w.cell? ⟨b, 0, none⟩ = some .nilIface) : ∀ {n : Nd}, n.In w → n.In (w.setCell ⟨b, j, none⟩ v)
  | .leaf B _ _, h => by
    have hne : B ≠ b := by
      intro e; subst e
      rw [Lib.cell_of_heap h] at hc
      cases hc
    exact (Below.heap_setCell _ _ _ _ hne).trans h
  | .inner B _ _ _ _, h => by
    have hne : B ≠ b := by
      intro e; subst e
      rw [Lib.cell_of_heap h.1] at hc
      cases hc
    exact ⟨(Below.heap_setCell _ _ _ _ hne).trans h.1, Nd.kept_set hc h.2.1, Nd.kept_set hc h.2.2⟩
theorem TrAt.kept_set {w : World} {b j : Nat} {v : Value} {enc : Int} {t : Option Nd} {R : List (Cn × ByteArray)} (h : TrAt w enc t R) (hc : w.cell? ⟨b, 0, none⟩ = some .nilIface) : TrAt (w.setCell ⟨b, j, none⟩ v) enc t R :=
  ⟨fun n hn => ⟨Nd.kept_set hc (h.inn n hn).1, (h.inn n hn).2⟩, h.non, h.ok⟩
/-- Join's three first blocks: its two arguments, and the result. -/
theorem three_at {w w1 : World} {va vb : Value} {t : TypeId} (hb : Below (((w.alloc (.cells #[va] t)).alloc (.cells #[vb] t)).alloc (.cells #[.nilIface] t)).heap.size (((w.alloc (.cells #[va] t)).alloc (.cells #[vb] t)).alloc (.cells #[.nilIface] t)) w1) :
    w1.cell? ⟨w.heap.size, 0, none⟩ = some va ∧ w1.cell? ⟨w.heap.size + 1, 0, none⟩ = some vb ∧ w1.cell? ⟨w.heap.size + 1 + 1, 0, none⟩ = some .nilIface ∧ w1.frozen? ⟨w.heap.size + 1 + 1, 0, none⟩ = false ∧ w.heap.size + 1 + 1 < w1.heap.size ∧ Below w.heap.size w w1 := by
  have hz : (((w.alloc (.cells #[va] t)).alloc (.cells #[vb] t)).alloc (.cells #[.nilIface] t)).heap.size = w.heap.size + 3 := by simp
  have hs := hb.size
  have hlow : Below w.heap.size w (((w.alloc (.cells #[va] t)).alloc (.cells #[vb] t)).alloc (.cells #[.nilIface] t)) := (((Below.refl _ _).alloc (Nat.le_refl _) _).alloc (by simp) _).alloc (by simp; omega) _
  have b1 : Below (w.alloc (.cells #[va] t)).heap.size (w.alloc (.cells #[va] t)) (((w.alloc (.cells #[va] t)).alloc (.cells #[vb] t)).alloc (.cells #[.nilIface] t)) := ((Below.refl _ _).alloc (Nat.le_refl _) _).alloc (by simp) _
  have b2 : Below ((w.alloc (.cells #[va] t)).alloc (.cells #[vb] t)).heap.size ((w.alloc (.cells #[va] t)).alloc (.cells #[vb] t)) (((w.alloc (.cells #[va] t)).alloc (.cells #[vb] t)).alloc (.cells #[.nilIface] t)) := (Below.refl _ _).alloc (Nat.le_refl _) _
  refine ⟨?_, ?_, ?_, ?_, by omega, hlow.trans (hb.mono (by omega))⟩
  · rw [hb.cell (p := ⟨w.heap.size, 0, none⟩) (by show w.heap.size < _; omega), b1.cell (p := ⟨w.heap.size, 0, none⟩) (by show w.heap.size < _; simp)]; simp
  · rw [hb.cell (p := ⟨w.heap.size + 1, 0, none⟩) (by show w.heap.size + 1 < _; omega), b2.cell (p := ⟨w.heap.size + 1, 0, none⟩) (by show w.heap.size + 1 < _; simp)]
    have := new8 (w.alloc (.cells #[va] t)) (w.heap.size + 1) #[vb] t 0 vb (by simp) rfl
    exact this
  · rw [hb.cell (p := ⟨w.heap.size + 1 + 1, 0, none⟩) (by show w.heap.size + 1 + 1 < _; omega)]
    have := new8 ((w.alloc (.cells #[va] t)).alloc (.cells #[vb] t)) (w.heap.size + 1 + 1) #[.nilIface] t 0 .nilIface (by simp) rfl
    exact this
  · rw [hb.frozen (p := ⟨w.heap.size + 1 + 1, 0, none⟩) (by show w.heap.size + 1 + 1 < _; omega)]; simp [go_sem]
theorem three_next {w w1 w2 : World} {va vb : Value} (h : w1.cell? ⟨w.heap.size, 0, none⟩ = some va ∧ w1.cell? ⟨w.heap.size + 1, 0, none⟩ = some vb ∧ w1.cell? ⟨w.heap.size + 1 + 1, 0, none⟩ = some .nilIface ∧ w1.frozen? ⟨w.heap.size + 1 + 1, 0, none⟩ = false ∧ w.heap.size + 1 + 1 < w1.heap.size ∧ Below w.heap.size w w1) (hb : Below w1.heap.size w1 w2) :
    w2.cell? ⟨w.heap.size, 0, none⟩ = some va ∧ w2.cell? ⟨w.heap.size + 1, 0, none⟩ = some vb ∧ w2.cell? ⟨w.heap.size + 1 + 1, 0, none⟩ = some .nilIface ∧ w2.frozen? ⟨w.heap.size + 1 + 1, 0, none⟩ = false ∧ w.heap.size + 1 + 1 < w2.heap.size ∧ Below w.heap.size w w2 := by
  obtain ⟨h1, h2, h3, h4, h5, h6⟩ := h
  have hs := hb.size
  exact ⟨(hb.cell (p := ⟨w.heap.size, 0, none⟩) (by show w.heap.size < _; omega)).trans h1, (hb.cell (p := ⟨w.heap.size + 1, 0, none⟩) (by show w.heap.size + 1 < _; omega)).trans h2, (hb.cell (p := ⟨w.heap.size + 1 + 1, 0, none⟩) (by show w.heap.size + 1 + 1 < _; omega)).trans h3, (hb.frozen (p := ⟨w.heap.size + 1 + 1, 0, none⟩) (by show w.heap.size + 1 + 1 < _; omega)).trans h4, by omega, h6.trans (hb.mono (by omega))⟩

set_option maxRecDepth 100000 in
set_option maxHeartbeats 1000000 in
theorem joinT_0 (enc : Int) (a b : Option Nd) (Ra Rb : List (Cn × ByteArray)) (w : World) (ha : TrAt w enc a Ra) (hb : TrAt w enc b Rb) (h0 : (rowB Ra).length = 0) :
    Calls Tryd.prog 61 #[.agg #[trv a], .agg #[trv b]] w fun e w' => ∃ t R, JoinOk enc b Ra Rb w e w' t R := by
  obtain ⟨r1, r2⟩ := rowA_none ha.ok h0
  have HC := hide1 (fun w1 (h : TrAt w1 enc a Ra) => h.counts)
  rw [r1, cnOf_nil] at HC
  have HB := hide1 hb
  have HA := hide1 ha
  have HR := hide1 (And.intro r1 r2)
  have HW := hide1 (trv_cases b)
  generalize trv a = va at *
  generalize hvb : trv b = vb at *
  have HV := hide1 hvb
  clear hvb r1 r2 ha hb h0
  have fb := field_body
  go_enter Tryd.func61, Tryd.ntmps61
  go_wp2_with fail
  refine (HC.out _ (HA.out.low ((((Below.refl _ _).alloc (Nat.le_refl _) _).alloc (by simp) _).alloc (by simp; omega) _))).mono ?_
  rintro e w1 ⟨rfl, hb1⟩
  obtain ⟨q0, q1, q2, q3, q4, q5⟩ := three_at hb1
  simp only [Cn.val]
  clear hb1 HC HA
  have HQ5 := hide1 q5
  clear q5
  rcases HW.out with hx | ⟨k, u, hx⟩
  · subst hx
    clear HW
    go_wp2_with fail
    refine bodyPost_ret (v := .agg #[.nilIface]) (by simp [results, Tryd.results61, go_sem, q2]) rfl ⟨b, Rb, ?_⟩
    have hb' := HQ5.out.setCell (p := ⟨w.heap.size + 1 + 1, 0, none⟩) (by show w.heap.size ≤ w.heap.size + 1 + 1; omega) .nilIface
    exact ⟨by rw [HV.out], HB.out.low hb', by rw [HR.out.1]; rfl, by rw [HR.out.2]; rfl, by omega, hb', fun h => h⟩
  · subst hx
    clear HW
    go_wp2_with fail
    refine bodyPost_ret (v := .agg #[.iface k u]) (by simp [results, Tryd.results61, go_sem, q2]) rfl ⟨b, Rb, ?_⟩
    have hb' := HQ5.out.setCell (p := ⟨w.heap.size + 1 + 1, 0, none⟩) (by show w.heap.size ≤ w.heap.size + 1 + 1; omega) (.iface k u)
    exact ⟨by rw [HV.out], HB.out.low hb', by rw [HR.out.1]; rfl, by rw [HR.out.2]; rfl, by omega, hb', fun h => h⟩

set_option maxRecDepth 100000 in
set_option maxHeartbeats 1000000 in
theorem joinT_1 (enc : Int) (a b : Option Nd) (Ra Rb : List (Cn × ByteArray)) (w : World) (ha : TrAt w enc a Ra) (hb : TrAt w enc b Rb) (h0 : (rowB Ra).length ≠ 0) (h1 : (rowB Rb).length = 0) :
    Calls Tryd.prog 61 #[.agg #[trv a], .agg #[trv b]] w fun e w' => ∃ t R, JoinOk enc b Ra Rb w e w' t R := by
  obtain ⟨r1, r2⟩ := rowA_none hb.ok h1
  have HSM := hide1 (show b.isSome = true → a.isSome = true from fun _ => by
    cases a with
    | none => exact absurd (by rw [ha.non rfl]; rfl) h0
    | some _ => rfl)
  have HC := hide1 (fun w1 (h : TrAt w1 enc a Ra) => h.counts)
  have HD := hide1 (fun w1 (h : TrAt w1 enc b Rb) => h.counts)
  rw [r1, cnOf_nil] at HD
  have hsz : Vm.sizeA (rowA enc Ra) ≠ 0 := by rw [rowA_size ha.ok]; exact h0
  have HB := hide1 hb
  have HA := hide1 ha
  have HR := hide1 (And.intro r1 r2)
  have HW := hide1 (trv_cases a)
  generalize hva : trv a = va at *
  generalize trv b = vb at *
  have HV := hide1 hva
  generalize hc : cnOf (rowA enc Ra) = c at *
  have hcb : c.body ≠ 0 := by rw [← hc]; exact hsz
  obtain ⟨c0, c1, c2, c3, c4, c5, c6, c7⟩ := c
  simp only at hcb
  have hcb' : ¬ ((c0 : Int) = 0) := by omega
  clear hva r1 r2 ha hb h0 h1 hsz hc
  have fb := field_body
  go_enter Tryd.func61, Tryd.ntmps61
  go_wp2_with fail
  have hbw := (((Below.refl w.heap.size w).alloc (Nat.le_refl _) (.cells #[va] 67)).alloc (by simp) (.cells #[vb] 67)).alloc (by simp; omega) (.cells #[.nilIface] 67)
  have HA1 := hide1 (HA.out.low hbw)
  have HB1 := hide1 (HB.out.low hbw)
  refine (HC.out _ HA1.out).mono ?_
  rintro e w1 ⟨rfl, hb1⟩
  have hq := three_at hb1
  have HB2 := hide1 (HB1.out.low hb1)
  have HQ := hide1 hq
  obtain ⟨q0, q1, q2, q3, q4, q5⟩ := hq
  simp only [Cn.val]
  clear hb1 HC HA1 HB1 hbw q5
  go_wp2_with fail
  refine (HD.out _ HB2.out).mono ?_
  rintro e w2 ⟨rfl, hb2⟩
  clear q0 q1 q2 q3 q4
  obtain ⟨q0, q1, q2, q3, q4, q5⟩ := three_next HQ.out hb2
  simp only [Cn.val]
  clear hb2 HQ HD HB2
  have HQ5 := hide1 q5
  clear q5
  rcases HW.out with hx | ⟨k, u, hx⟩
  · subst hx
    clear HW
    go_wp2_with fail
    refine bodyPost_ret (v := .agg #[.nilIface]) (by simp [results, Tryd.results61, go_sem, q2]) rfl ⟨a, Ra, ?_⟩
    have hb' := HQ5.out.setCell (p := ⟨w.heap.size + 1 + 1, 0, none⟩) (by show w.heap.size ≤ w.heap.size + 1 + 1; omega) .nilIface
    exact ⟨by rw [HV.out], HA.out.low hb', by rw [HR.out.1, List.append_nil], by rw [HR.out.2, List.append_nil], by omega, hb', HSM.out⟩
  · subst hx
    clear HW
    go_wp2_with fail
    refine bodyPost_ret (v := .agg #[.iface k u]) (by simp [results, Tryd.results61, go_sem, q2]) rfl ⟨a, Ra, ?_⟩
    have hb' := HQ5.out.setCell (p := ⟨w.heap.size + 1 + 1, 0, none⟩) (by show w.heap.size ≤ w.heap.size + 1 + 1; omega) (.iface k u)
    exact ⟨by rw [HV.out], HA.out.low hb', by rw [HR.out.1, List.append_nil], by rw [HR.out.2, List.append_nil], by omega, hb', HSM.out⟩

set_option maxRecDepth 100000 in
set_option maxHeartbeats 1000000 in
theorem joinT_2 (enc : Int) (n m : Nd) (w : World) (ha : TrAt w enc (some n) n.row) (hb : TrAt w enc (some m) m.row) (h0 : (rowB n.row).length ≠ 0) (h1 : (rowB m.row).length ≠ 0)
    (hsz : (rowB n.row).length + (rowB m.row).length ≤ 281474976710656) (hlen : n.row.length + m.row.length ≤ 1152921504606846976) :
    Calls Tryd.prog 61 #[.agg #[trv (some n)], .agg #[trv (some m)]] w fun e w' => ∃ t R, JoinOk enc (some m) n.row m.row w e w' t R := by
  have HC := hide1 (fun w1 (h : TrAt w1 enc (some n) n.row) => h.counts)
  have HD := hide1 (fun w1 (h : TrAt w1 enc (some m) m.row) => h.counts)
  have z1 : Vm.sizeA (rowA enc n.row) ≠ 0 := by rw [rowA_size ha.ok]; exact h0
  have z2 : Vm.sizeA (rowA enc m.row) ≠ 0 := by rw [rowA_size hb.ok]; exact h1
  have e1 := Nd.cn_row enc (ha.inn n rfl).2.1 ha.ok
  have e2 := Nd.cn_row enc (hb.inn m rfl).2.1 hb.ok
  have hsm : (n.cn.plus m.cn).Small := by
    rw [e1, e2, ← cnOf_append, ← rowA_append]
    exact rowA_small (fun x hx => (List.mem_append.1 hx).elim (ha.ok x) (hb.ok x)) (by rw [rowB_append, List.length_append]; exact hsz)
  have HJ := hide1 (fun w1 (hn : n.In w1) (hm : m.In w1) => join_any _ n m w1 (Nat.le_refl _) hn hm (ha.inn n rfl).2.1 (hb.inn m rfl).2.1 hsm hlen)
  have HQ := hide1 (fun (W w1 : World) (e : Ending) (r : Nd) (h : Joined n m W e w1 r) => (show TrAt w1 enc (some r) (n.row ++ m.row) from ⟨fun x hx => by cases hx; exact ⟨h.inn, h.ok, h.row⟩, fun h => (by cases h), fun x hx => (List.mem_append.1 hx).elim (ha.ok x) (hb.ok x)⟩))
  have HB := hide1 hb
  have HA := hide1 ha
  simp only [trv] at *
  generalize hc : cnOf (rowA enc n.row) = c at *
  have hcb : c.body ≠ 0 := by rw [← hc]; exact z1
  obtain ⟨c0, c1, c2, c3, c4, c5, c6, c7⟩ := c
  simp only at hcb
  have hcb' : ¬ ((c0 : Int) = 0) := by omega
  generalize hd : cnOf (rowA enc m.row) = d at *
  have hdb : d.body ≠ 0 := by rw [← hd]; exact z2
  obtain ⟨d0, d1, d2, d3, d4, d5, d6, d7⟩ := d
  simp only at hdb
  have hdb' : ¬ ((d0 : Int) = 0) := by omega
  clear ha hb h0 h1 hsz hc hd z1 z2 e1 e2 hsm hlen
  have fb := field_body
  go_enter Tryd.func61, Tryd.ntmps61
  go_wp2_with fail
  have hbw := (((Below.refl w.heap.size w).alloc (Nat.le_refl _) (.cells #[.iface n.ty (.pointer (some ⟨n.blk, 0, none⟩))] 67)).alloc (by simp) (.cells #[.iface m.ty (.pointer (some ⟨m.blk, 0, none⟩))] 67)).alloc (by simp; omega) (.cells #[.nilIface] 67)
  have HA1 := hide1 (HA.out.low hbw)
  have HB1 := hide1 (HB.out.low hbw)
  refine (HC.out _ HA1.out).mono ?_
  rintro e w1 ⟨rfl, hb1⟩
  have hq := three_at hb1
  have HA2 := hide1 (HA1.out.low hb1)
  have HB2 := hide1 (HB1.out.low hb1)
  have HQ3 := hide1 hq
  obtain ⟨q0, q1, q2, q3, q4, q5⟩ := hq
  simp only [Cn.val]
  clear hb1 HC HA1 HB1 hbw q5
  go_wp2_with fail
  refine (HD.out _ HB2.out).mono ?_
  rintro e w2 ⟨rfl, hb2⟩
  clear q0 q1 q2 q3 q4
  have hq := three_next HQ3.out hb2
  have HA3 := hide1 (HA2.out.low hb2)
  have HB3 := hide1 (HB2.out.low hb2)
  have HQ4 := hide1 hq
  obtain ⟨q0, q1, q2, q3, q4, q5⟩ := hq
  simp only [Cn.val]
  clear hb2 HQ3 HD HB2 HA2 q5
  go_wp2_with fail
  refine (HJ.out _ (HA3.out.inn n rfl).1 (HB3.out.inn m rfl).1).mono ?_
  rintro e w3 ⟨r, hr⟩
  obtain rfl := hr.val
  clear q0 q1 q2 q3 q4
  obtain ⟨q0, q1, q2, q3, q4, q5⟩ := three_next HQ4.out hr.below
  have HR := hide1 (HQ.out _ _ _ _ hr)
  have HQ5 := hide1 q5
  clear q5 hr HQ4 HJ HA3 HB3
  go_wp2_with fail
  refine bodyPost_ret (v := .agg #[.iface r.ty (.pointer (some ⟨r.blk, 0, none⟩))]) (by simp [results, Tryd.results61, go_sem, q2]) rfl ⟨some r, n.row ++ m.row, ?_⟩
  have hb' := HQ5.out.setCell (p := ⟨w.heap.size + 1 + 1, 0, none⟩) (by show w.heap.size ≤ w.heap.size + 1 + 1; omega) (.iface r.ty (.pointer (some ⟨r.blk, 0, none⟩)))
  exact ⟨rfl, HR.out.kept_set q2, rowA_append _ _ _, rowB_append _ _, by rw [List.length_append]; omega, hb', fun _ => rfl⟩

theorem joinT_any (enc : Int) (a b : Option Nd) (Ra Rb : List (Cn × ByteArray)) (w : World) (ha : TrAt w enc a Ra) (hb : TrAt w enc b Rb)
    (hsz : (rowB Ra).length + (rowB Rb).length ≤ 281474976710656) (hlen : Ra.length + Rb.length ≤ 1152921504606846976) :
    Calls Tryd.prog 61 #[.agg #[trv a], .agg #[trv b]] w fun e w' => ∃ t R, JoinOk enc b Ra Rb w e w' t R := by
  by_cases h0 : (rowB Ra).length = 0
  · exact joinT_0 enc a b Ra Rb w ha hb h0
  · by_cases h1 : (rowB Rb).length = 0
    · exact joinT_1 enc a b Ra Rb w ha hb h0 h1
    · cases a with
      | none => exact absurd (by rw [ha.non rfl]; rfl) h0
      | some n =>
        cases b with
        | none => exact absurd (by rw [hb.non rfl]; rfl) h1
        | some m =>
          have e1 := (ha.inn n rfl).2.2
          have e2 := (hb.inn m rfl).2.2
          subst e1 e2
          exact joinT_2 enc n m w ha hb h0 h1 hsz hlen
end Go.Proofs.YtjbfgnhkgjigpaaDoor

namespace Go.Vit
open Go.RowKit

/-- M W: the blocks, from lo on, that are the caller's own in W (a buffer that grew). What they are is read off the blocks below lo. -/
def MLow (M : World → Nat → Prop) (lo : Nat) : Prop := ∀ A B : World, (∀ k, k < lo → B.heap[k]? = A.heap[k]?) → ∀ k, M B k → M A k

/-- The iterator's own steps: what lies below lo, and what is the caller's own, lies as it lay. -/
structure ItStep (M : World → Nat → Prop) (lo : Nat) (W W' : World) : Prop where
  os : W'.os = W.os
  tape : W'.tape = W.tape
  output : W'.output = W.output
  size : W.heap.size ≤ W'.heap.size
  low : ∀ k, k < lo → W'.heap[k]? = W.heap[k]?
  own : ∀ k, M W k → W'.heap[k]? = W.heap[k]?

/-- The body's steps: what lies from lo on and is not the caller's own lies as it lay; nothing that lay there becomes the caller's own. -/
structure BodyStep (M : World → Nat → Prop) (lo : Nat) (W W' : World) : Prop where
  os : W'.os = W.os
  tape : W'.tape = W.tape
  output : W'.output = W.output
  size : W.heap.size ≤ W'.heap.size
  keep : ∀ k, lo ≤ k → k < W.heap.size → ¬ M W k → W'.heap[k]? = W.heap[k]?
  new : ∀ k, M W' k → k < lo ∨ M W k ∨ W.heap.size ≤ k

theorem MLow.of {M : World → Nat → Prop} {lo lo' : Nat} (h : MLow M lo) (hl : lo ≤ lo') : MLow M lo' := fun A B hk => h A B (fun k hlt => hk k (by omega))
theorem mlow_none (lo : Nat) : MLow (fun _ _ => False) lo := fun _ _ _ _ h => h
theorem ItStep.refl (M : World → Nat → Prop) (lo : Nat) (W : World) : ItStep M lo W W := ⟨rfl, rfl, rfl, Nat.le_refl _, fun _ _ => rfl, fun _ _ => rfl⟩
theorem ItStep.trans {M : World → Nat → Prop} {lo : Nat} (hM : MLow M lo) {A B C : World} (h : ItStep M lo A B) (k : ItStep M lo B C) : ItStep M lo A C :=
  ⟨k.os.trans h.os, k.tape.trans h.tape, k.output.trans h.output, Nat.le_trans h.size k.size, fun i hi => (k.low i hi).trans (h.low i hi),
    fun i hi => (k.own i (hM B A (fun j hj => (h.low j hj).symm) i hi)).trans (h.own i hi)⟩
theorem ItStep.mono {M : World → Nat → Prop} {lo lo' : Nat} {A B : World} (h : ItStep M lo A B) (hl : lo' ≤ lo) : ItStep M lo' A B :=
  ⟨h.os, h.tape, h.output, h.size, fun k hk => h.low k (by omega), h.own⟩
/-- What turns nothing that lay is such a step. -/
theorem ItStep.of_below {M : World → Nat → Prop} {lo : Nat} {A B : World} (h : Below A.heap.size A B) (hlo : lo ≤ A.heap.size) (hm : ∀ k, M A k → k < A.heap.size) : ItStep M lo A B :=
  ⟨h.os, h.tape, h.output, h.size, fun k hk => h.block k (by omega), fun k hk => h.block k (hm k hk)⟩
theorem ItStep.putObj {M : World → Nat → Prop} {lo : Nat} {A : World} {l : Nat} (o' : Obj) (hlo : lo ≤ l) (hm : ¬ M A l) : ItStep M lo A (A.putObj l o') :=
  ⟨rfl, rfl, rfl, by simp, fun k hk => World.putObj_heap_other (by omega), fun k hk => World.putObj_heap_other (fun e => hm (e ▸ hk))⟩
theorem ItStep.setCell {M : World → Nat → Prop} {lo : Nat} (A : World) {p : Addr} (h1 : lo ≤ p.block) (hm : ¬ M A p.block) (v : Value) : ItStep M lo A (A.setCell p v) :=
  ⟨rfl, rfl, rfl, by simp [World.setCell], fun k hk => Below.heap_setCell _ _ _ _ (by omega), fun k hk => Below.heap_setCell _ _ _ _ (fun e => hm (e ▸ hk))⟩
/-- What is the caller's own stays just that through the iterator's steps. -/
theorem ItStep.same {M : World → Nat → Prop} {lo : Nat} (hM : MLow M lo) {A B : World} (h : ItStep M lo A B) (k : Nat) : M B k → M A k := hM A B h.low k
theorem ItStep.same' {M : World → Nat → Prop} {lo : Nat} (hM : MLow M lo) {A B : World} (h : ItStep M lo A B) (k : Nat) : M A k → M B k := hM B A (fun j hj => (h.low j hj).symm) k

theorem BodyStep.refl (M : World → Nat → Prop) (lo : Nat) (W : World) : BodyStep M lo W W := ⟨rfl, rfl, rfl, Nat.le_refl _, fun _ _ _ _ => rfl, fun _ h => .inr (.inl h)⟩
theorem BodyStep.trans {M : World → Nat → Prop} {lo : Nat} {A B C : World} (h : BodyStep M lo A B) (k : BodyStep M lo B C) : BodyStep M lo A C :=
  ⟨k.os.trans h.os, k.tape.trans h.tape, k.output.trans h.output, Nat.le_trans h.size k.size,
    fun i h1 h2 h3 => (k.keep i h1 (Nat.lt_of_lt_of_le h2 h.size) (fun hb => by
      rcases h.new i hb with x | x | x
      · omega
      · exact h3 x
      · omega)).trans (h.keep i h1 h2 h3),
    fun i hi => by
      have := h.size
      rcases k.new i hi with x | x | x
      · exact .inl x
      · exact h.new i x
      · exact .inr (.inr (by omega))⟩
theorem BodyStep.mono {M : World → Nat → Prop} {lo lo' : Nat} {A B : World} (h : BodyStep M lo A B) (hl : lo ≤ lo') : BodyStep M lo' A B :=
  ⟨h.os, h.tape, h.output, h.size, fun k h1 h2 h3 => h.keep k (by omega) h2 h3, fun k hk => by
    rcases h.new k hk with x | x | x
    · exact .inl (by omega)
    · exact .inr (.inl x)
    · exact .inr (.inr x)⟩
theorem BodyStep.of_below {M : World → Nat → Prop} {lo : Nat} (hM : MLow M lo) {A B : World} (h : Below A.heap.size A B) (hlo : lo ≤ A.heap.size) : BodyStep M lo A B :=
  ⟨h.os, h.tape, h.output, h.size, fun k _ h2 _ => h.block k h2, fun k hk => .inr (.inl (hM A B (fun j hj => h.block j (by omega)) k hk))⟩
/-- A store below lo that leaves the caller's own as it was. -/
theorem BodyStep.setCell {M : World → Nat → Prop} {lo : Nat} (A : World) {p : Addr} (h : p.block < lo) (v : Value) (hm : ∀ k, M (A.setCell p v) k → M A k) : BodyStep M lo A (A.setCell p v) :=
  ⟨rfl, rfl, rfl, by simp [World.setCell], fun k _ _ _ => Below.heap_setCell _ _ _ _ (by omega), fun k hk => .inr (.inl (hm k hk))⟩

/-- A call of yield, at the wide fence. -/
def Yields (P : Program) (l : Nat) (args : Array Value) (W : World) (R : Ending → World → Prop) : Prop :=
  ∃ fn tmps assign body, (Instr.yield l args).run P W = .ok (.round l fn tmps assign body) W ∧ RoundIn Fence.wide 0 P l fn tmps assign body W R

theorem roundIn_any {n m : Nat} {P : Program} {l fn : Nat} {tmps : Array Value} {assign body : Code} {W : World} {R : Ending → World → Prop} (r : Option Nat)
    (h : RoundIn Fence.wide n P l fn tmps assign body W R) : RoundIn { Fence.wide with round := r } m P l fn tmps assign body W R :=
  ⟨trivial, fun c cs _ => h.2 c cs (room_wide _)⟩

/-- A round's answer as one bool. -/
theorem round_bool {n : Nat} {P : Program} {l fn : Nat} {tmps : Array Value} {assign body : Code} {W : World} {A B : World → Prop} (r : Option Nat) (m : Nat)
    (h : RoundIn Fence.wide n P l fn tmps assign body W fun e W' => (e = .returned (.bool true) ∧ A W') ∨ (e = .returned (.bool false) ∧ B W')) :
    RoundIn { Fence.wide with round := r } m P l fn tmps assign body W fun e W' => ∃ q : Bool, e = .returned (.bool q) ∧ Hid ((q = true ∧ A W') ∨ (q = false ∧ B W')) :=
  (roundIn_any r h).mono (fun e W' hd => by
    rcases hd with ⟨h1, h2⟩ | ⟨h1, h2⟩
    · exact ⟨true, h1, .inl ⟨rfl, h2⟩⟩
    · exact ⟨false, h1, .inr ⟨rfl, h2⟩⟩)

/-- THE ITERATOR's CONTRACT: it hands over the items xs, one behind the other, till a round says no more; it reads what Need says. -/
def ItersA {α : Type} (P : Program) (g : Nat) (args : Value → Array Value) (encs : α → Array Value) (xs : List α) (Need : World → Prop) : Prop :=
  ∀ (M : World → Nat → Prop) (l : Nat) (J Jx : List α → World → Prop) (W : World), MLow M W.heap.size →
    (∀ s A B, J s A → ItStep M W.heap.size A B → J s B) →
    (∀ s A B, Jx s A → ItStep M W.heap.size A B → Jx s B) →
    (∀ s A, J s A → Need A ∧ ∀ k, M A k → k < A.heap.size) →
    (∀ pre x W1, J pre W1 → W.heap.size ≤ W1.heap.size → pre ++ [x] <+: xs → Yields P l (encs x) W1 fun e W' =>
      (e = .returned (.bool true) ∧ J (pre ++ [x]) W' ∧ BodyStep M W.heap.size W1 W') ∨ (e = .returned (.bool false) ∧ Jx (pre ++ [x]) W' ∧ BodyStep M W.heap.size W1 W')) →
    J [] W →
    Calls P g (args (.func (.yield l) #[] #[])) W fun e W' => (∃ v, e = .returned v) ∧ (J xs W' ∨ (∃ pre, pre <+: xs ∧ Jx pre W'))
/-- .. where the iterator is a closure. -/
def Iters {α : Type} (P : Program) (g : Nat) (lb : Array Value) (encs : α → Array Value) (xs : List α) (Need : World → Prop) : Prop :=
  ItersA P g (fun y => #[y] ++ lb) encs xs Need

/-- How the body of a round may be left. -/
def itPost {α : Type} (M : World → Nat → Prop) (lo : Nat) (I : List α → World → Prop) (Ix : Code → List α → World → Prop) (xs : List α) (W : World) : Exit → Act → World → Prop
  | .normal, _, W' => BodyStep M lo W W' ∧ I xs W'
  | .ret, _, W' => BodyStep M lo W W' ∧ Ix .ret xs W'
  | .exit id, _, W' => BodyStep M lo W W' ∧ Ix (.exit id) xs W'
  | .goto t, _, W' => BodyStep M lo W W' ∧ Ix (.goto t) xs W'
  | .panic _, _, _ => False
  | .outgrown, _, _ => False

variable {P : Program}

/-- The caller's law, outside of a round. -/
theorem wp_range {α : Type} {n : Nat} {g : Operand} {ps : Array Tmp} {assign body : Code} {Q : Exit → Act → World → Prop} {a : Act} {w : World}
    {gf : Nat} {lb : Array Value} (hg : a.eval g = .func (.func gf) #[] lb) (eg : ∀ args w, (callFunc gf args).run P w = .ok (.enter gf args) w)
    {encs : α → Array Value} {xs : List α} {Need : World → Prop} (hseq : Iters P gf lb encs xs Need) (hps : ∀ x, (encs x).size = ps.size)
    (M : World → Nat → Prop) (hM : MLow M w.heap.size) (I : List α → World → Prop) (Ix : Code → List α → World → Prop)
    (hI : ∀ s A B, I s A → ItStep M w.heap.size A B → I s B) (hIx : ∀ c s A B, Ix c s A → ItStep M w.heap.size A B → Ix c s B)
    (hN : ∀ s A, I s A → Need A ∧ ∀ k, M A k → k < A.heap.size) (h0 : I [] w) (Ax : α → Act → World → Prop) (hAx : ∀ x a' A L r o, Ax x a' A → A.heap[L]? = some (.loop r) → Ax x a' (A.putObj L o))
    (hassign : ∀ (l : Nat) (pre : List α) (x : α) (W : World) (K : Act → World → Prop), w.heap.size < W.heap.size → I pre W → (∀ a' W', BodyStep M w.heap.size W W' → I pre W' → Ax x a' W' → K a' W') →
      assign.wpIn (Fence.wide.inRound l) (n - 1 - 1) P (Exit.then K (fun _ _ _ => False)) { tmps := (ps.zip (encs x)).foldl (fun t (p, v) => t.setIfInBounds p v) a.tmps, defers := [] } W)
    (hbody : ∀ (l : Nat) (pre : List α) (x : α) (a' : Act) (W : World), w.heap.size < W.heap.size → (∃ r, W.heap[l]? = some (.loop r)) → w.heap.size ≤ l → I pre W → Ax x a' W → pre ++ [x] <+: xs →
      body.wpIn (Fence.wide.inRound l) (n - 1 - 1) P (itPost M w.heap.size I Ix (pre ++ [x]) W) a' W)
    (hdone : ∀ (W : World), w.heap.size < W.heap.size → I xs W → W.heap[w.heap.size]? = some (.deferred (some [])) → ¬ M W w.heap.size → Q .normal { a with defers := { target := .collected w.heap.size, args := #[] } :: a.defers } W)
    (hstop : ∀ (c : Code) (pre : List α) (W : World), w.heap.size < W.heap.size → pre <+: xs → Ix c pre W → W.heap[w.heap.size]? = some (.deferred (some [])) → ¬ M W w.heap.size → c.wpIn Fence.wide n P Q { a with defers := { target := .collected w.heap.size, args := #[] } :: a.defers } W) :
    (Code.rangeFunc g ps assign body).wpIn Fence.wide n P Q a w := by
  refine wpIn_rangeFunc ?_
  intro fn hfn
  have hM0 : ∀ k, M w k → k < w.heap.size := (hN _ _ h0).2
  obtain ⟨rec, hrec⟩ : ∃ rec : LoopState → Option Code → Loop, rec = fun st pe => { state := st, pending := pe, fn, tmps := a.tmps, params := ps, assign, body, defers := w.heap.size } := ⟨_, rfl⟩
  obtain ⟨L, hLw⟩ : ∃ L, L = w.heap.size + 1 := ⟨_, rfl⟩
  obtain ⟨W1, hW1⟩ : ∃ W1, (w.alloc (.deferred (some []))).alloc (.loop (rec .ready none)) = W1 := ⟨_, rfl⟩
  have hs1 : W1.heap.size = L + 1 := by rw [← hW1, hLw]; simp
  have hL1 : W1.heap[L]? = some (.loop (rec .ready none)) := by
    rw [← hW1, hLw]; have := World.alloc_heap_new (w.alloc (.deferred (some []))) (.loop (rec .ready none)); rwa [World.size_alloc] at this
  have hK1 : W1.heap[w.heap.size]? = some (.deferred (some [])) := by
    rw [← hW1]; exact (Below.heap_alloc _ _ _ (by simp)).trans (World.alloc_heap_new w _)
  have hb1 : Below w.heap.size w W1 := by
    rw [← hW1]; exact ((Below.refl _ w).alloc (Nat.le_refl _) _).alloc (by simp) _
  have st1 : ItStep M w.heap.size w W1 := ItStep.of_below hb1 (Nat.le_refl _) hM0
  have hI1 : I [] W1 := hI _ _ _ h0 st1
  have hm1 : ∀ k, w.heap.size ≤ k → ¬ M W1 k := fun k hk h => by have := hM0 k (st1.same hM k h); omega
  refine ⟨L, [{ target := .collected w.heap.size, args := #[] }], W1, { target := .fn (.func gf) lb, args := #[.func (.yield L) #[] #[]] }, W1, gf,
    #[.func (.yield L) #[] #[]] ++ lb, W1, ?_, ?_, ?_, ?_, (fun h => by cases h), ?_⟩
  · rw [← hW1, hrec, hLw]; exact run_enterLoop_outer _ _ _ _ _
  · simp only [resolve, hg]
    simp [go_sem]
  · intro f' _; trivial
  · simp [invoke, go_sem, eg]
  · have hML : MLow M W1.heap.size := hM.of (by rw [hs1]; omega)
    have base : ∀ {A B : World}, BodyStep M w.heap.size A B → ∀ k, w.heap.size ≤ k → k < A.heap.size → ¬ M A k → B.heap[k]? = A.heap[k]? ∧ ¬ M B k := fun hb k h1 h2 h3 =>
      ⟨hb.keep k h1 h2 h3, fun h => by
        rcases hb.new k h with x | x | x
        · omega
        · exact h3 x
        · omega⟩
    refine callsIn_wide.2 ((hseq M L
      (fun pre W => I pre W ∧ W.heap[L]? = some (.loop (rec .ready none)) ∧ ¬ M W L ∧ W.heap[w.heap.size]? = some (.deferred (some [])) ∧ ¬ M W w.heap.size)
      (fun pre W => ∃ c, Ix c pre W ∧ W.heap[L]? = some (.loop (rec .done (some c))) ∧ ¬ M W L ∧ W.heap[w.heap.size]? = some (.deferred (some [])) ∧ ¬ M W w.heap.size)
      W1 hML ?_ ?_ ?_ ?_ ⟨hI1, hL1, hm1 L (by omega), hK1, hm1 _ (Nat.le_refl _)⟩).mono ?_)
    · rintro s A B ⟨hi, hl, hm, hk, hmk⟩ st
      rw [hs1] at st
      exact ⟨hI s A B hi (st.mono (by omega)), (st.low _ (by omega)).trans hl, fun h => hm (st.same (hM.of (by omega)) _ h), (st.low _ (by omega)).trans hk, fun h => hmk (st.same (hM.of (by omega)) _ h)⟩
    · rintro s A B ⟨c, hi, hl, hm, hk, hmk⟩ st
      rw [hs1] at st
      exact ⟨c, hIx c s A B hi (st.mono (by omega)), (st.low _ (by omega)).trans hl, fun h => hm (st.same (hM.of (by omega)) _ h), (st.low _ (by omega)).trans hk, fun h => hmk (st.same (hM.of (by omega)) _ h)⟩
    · rintro s A ⟨hi, _⟩; exact hN s A hi
    · rintro pre x W ⟨hi, hl, hm, hk, hmk⟩ hsz hpre
      rw [hs1] at hsz ⊢
      have hlt : L < W.heap.size := (Array.getElem?_eq_some_iff.1 hl).1
      have hy := run_yield (P := P) (args := encs x) hl (by rw [hrec]; exact hps x)
      rw [hrec] at hy
      refine ⟨fn, _, assign, body, hy, roundIn_any none (n := n - 1 - 1) (roundIn_of_wpIn (F := Fence.wide) trivial (hassign _ pre x W _ (by omega) hi ?_))⟩
      clear hy
      intro a' Wa hba hia hax
      obtain ⟨hla, hma⟩ := base hba L (by omega) hlt hm
      rw [hl] at hla
      obtain ⟨hka, hmka⟩ := base hba w.heap.size (Nat.le_refl _) (by omega) hmk
      rw [hk] at hka
      have hza := hba.size
      have hlta : L < Wa.heap.size := by omega
      refine ⟨_, run_beginRound hla (by rw [hrec]), ?_⟩
      have hl2 : (Wa.putObj L (.loop { rec .ready none with state := .busy })).heap[L]? = some (.loop { rec .ready none with state := .busy }) := World.putObj_heap_same hlta
      have st2 : ItStep M w.heap.size Wa (Wa.putObj L (.loop { rec .ready none with state := .busy })) := ItStep.putObj _ (by omega) hma
      have hm2 : ¬ M (Wa.putObj L (.loop { rec .ready none with state := .busy })) L := fun h => hma (st2.same hM _ h)
      have hk2 : (Wa.putObj L (.loop { rec .ready none with state := .busy })).heap[w.heap.size]? = some (.deferred (some [])) := (World.putObj_heap_other (by omega)).trans hka
      have hmk2 : ¬ M (Wa.putObj L (.loop { rec .ready none with state := .busy })) w.heap.size := fun h => hmka (st2.same hM _ h)
      have bs2 : BodyStep M (L + 1) Wa (Wa.putObj L (.loop { rec .ready none with state := .busy })) :=
        ⟨rfl, rfl, rfl, by simp, fun k h1 _ _ => World.putObj_heap_other (by omega), fun k hk => .inr (.inl (st2.same hM k hk))⟩
      refine wpIn_mono (hbody _ pre x a' _ (by simp; omega) ⟨_, hl2⟩ (by omega) (hI _ _ _ hia st2) (hAx _ _ _ _ _ _ hax hla) hpre) ?_
      have fin : ∀ (jump : Option Code) (W3 : World), BodyStep M w.heap.size (Wa.putObj L (.loop { rec .ready none with state := .busy })) W3 →
          (Instr.endRound L jump).run P W3 = .ok (.bool jump.isNone) (W3.putObj L (.loop (rec (if jump.isNone then .ready else .done) jump))) ∧
          ItStep M w.heap.size W3 (W3.putObj L (.loop (rec (if jump.isNone then .ready else .done) jump))) ∧
          (W3.putObj L (.loop (rec (if jump.isNone then .ready else .done) jump))).heap[L]? = some (.loop (rec (if jump.isNone then .ready else .done) jump)) ∧ ¬ M (W3.putObj L (.loop (rec (if jump.isNone then .ready else .done) jump))) L ∧
          (W3.putObj L (.loop (rec (if jump.isNone then .ready else .done) jump))).heap[w.heap.size]? = some (.deferred (some [])) ∧ ¬ M (W3.putObj L (.loop (rec (if jump.isNone then .ready else .done) jump))) w.heap.size := fun jump W3 hk3 => by
        obtain ⟨hl3, hm3⟩ := base hk3 L (by omega) (by simp; omega) hm2
        rw [hl2] at hl3
        have st3 : ItStep M w.heap.size W3 (W3.putObj L (.loop (rec (if jump.isNone then .ready else .done) jump))) := ItStep.putObj _ (by omega) hm3
        have := run_endRound (P := P) jump hl3
        rw [hrec] at this ⊢
        rw [hrec] at st3
        exact ⟨this, st3, World.putObj_heap_same (Array.getElem?_eq_some_iff.1 hl3).1, fun h => hm3 (st3.same hM _ h), (World.putObj_heap_other (by omega)).trans (by obtain ⟨h, _⟩ := base hk3 w.heap.size (Nat.le_refl _) (by simp; omega) hmk2; rw [h]; exact hk2), fun h => (base hk3 w.heap.size (Nat.le_refl _) (by simp; omega) hmk2).2 (st3.same hM _ h)⟩
      have bfin : ∀ (W3 : World) (o : Obj), BodyStep M w.heap.size (Wa.putObj L (.loop { rec .ready none with state := .busy })) W3 → ItStep M w.heap.size W3 (W3.putObj L o) → BodyStep M (L + 1) W (W3.putObj L o) := fun W3 o hk3 st3 =>
        (hba.mono (by omega)).trans (bs2.trans ((hk3.mono (by omega)).trans
          ⟨rfl, rfl, rfl, by simp, fun k h1 _ _ => World.putObj_heap_other (by omega), fun k hk => .inr (.inl (st3.same hM k hk))⟩))
      rintro e a3 W3 hp
      cases e with
      | normal =>
        obtain ⟨hk3, hi3⟩ := hp
        obtain ⟨hr, st3, hl4, hm4, hk4, hmk4⟩ := fin none W3 hk3
        exact ⟨_, _, hr, .inl ⟨rfl, ⟨hI _ _ _ hi3 st3, hl4, hm4, hk4, hmk4⟩, bfin _ _ hk3 st3⟩⟩
      | ret =>
        obtain ⟨hk3, hi3⟩ := hp
        obtain ⟨hr, st3, hl4, hm4, hk4, hmk4⟩ := fin (some .ret) W3 hk3
        exact ⟨_, _, hr, .inr ⟨rfl, ⟨.ret, hIx _ _ _ _ hi3 st3, hl4, hm4, hk4, hmk4⟩, bfin _ _ hk3 st3⟩⟩
      | exit id =>
        obtain ⟨hk3, hi3⟩ := hp
        obtain ⟨hr, st3, hl4, hm4, hk4, hmk4⟩ := fin (some (.exit id)) W3 hk3
        exact ⟨_, _, hr, .inr ⟨rfl, ⟨.exit id, hIx _ _ _ _ hi3 st3, hl4, hm4, hk4, hmk4⟩, bfin _ _ hk3 st3⟩⟩
      | goto t =>
        obtain ⟨hk3, hi3⟩ := hp
        obtain ⟨hr, st3, hl4, hm4, hk4, hmk4⟩ := fin (some (.goto t)) W3 hk3
        exact ⟨_, _, hr, .inr ⟨rfl, ⟨.goto t, hIx _ _ _ _ hi3 st3, hl4, hm4, hk4, hmk4⟩, bfin _ _ hk3 st3⟩⟩
      | panic ch => exact hp.elim
      | outgrown => exact hp.elim
    · rintro e W2 ⟨⟨v, rfl⟩, (⟨hi, hl, hm, hk, hmk⟩ | ⟨pre, hpre, c, hi, hl, hm, hk, hmk⟩)⟩
      · have st4 : ItStep M w.heap.size W2 (W2.putObj L (.loop (rec .exhausted none))) := ItStep.putObj _ (by omega) hm
        have hlt : L < W2.heap.size := (Array.getElem?_eq_some_iff.1 hl).1
        refine ⟨none, W2.putObj L (.loop (rec .exhausted none)), by have := run_endLoop (P := P) hl (by rw [hrec]; simp); rw [hrec] at this ⊢; exact this, hdone _ (by simp; omega) (hI _ _ _ hi st4) ((World.putObj_heap_other (by omega)).trans hk) (fun h => hmk (st4.same hM _ h))⟩
      · have st4 : ItStep M w.heap.size W2 (W2.putObj L (.loop (rec .exhausted (some c)))) := ItStep.putObj _ (by omega) hm
        have hlt : L < W2.heap.size := (Array.getElem?_eq_some_iff.1 hl).1
        refine ⟨some c, W2.putObj L (.loop (rec .exhausted (some c))), by have := run_endLoop (P := P) hl (by rw [hrec]; simp); rw [hrec] at this ⊢; exact this, hstop c pre _ (by simp; omega) hpre (hIx _ _ _ _ hi st4) ((World.putObj_heap_other (by omega)).trans hk) (fun h => hmk (st4.same hM _ h))⟩

/-- The caller's law, within a round of loop l₀. -/
theorem wp_rangeN {α : Type} {n : Nat} {g : Operand} {ps : Array Tmp} {assign body : Code} {Q : Exit → Act → World → Prop} {a : Act} {w : World}
    {l₀ : Nat} {r₀ : Loop} (hl₀ : w.heap[l₀]? = some (.loop r₀)) {gf : Nat} {lb : Array Value} (hg : a.eval g = .func (.func gf) #[] lb) (eg : ∀ args w, (callFunc gf args).run P w = .ok (.enter gf args) w)
    {encs : α → Array Value} {xs : List α} {Need : World → Prop} (hseq : Iters P gf lb encs xs Need) (hps : ∀ x, (encs x).size = ps.size)
    (M : World → Nat → Prop) (hM : MLow M w.heap.size) (I : List α → World → Prop) (Ix : Code → List α → World → Prop)
    (hI : ∀ s A B, I s A → ItStep M w.heap.size A B → I s B) (hIx : ∀ c s A B, Ix c s A → ItStep M w.heap.size A B → Ix c s B)
    (hN : ∀ s A, I s A → Need A ∧ ∀ k, M A k → k < A.heap.size) (h0 : I [] w) (Ax : α → Act → World → Prop) (hAx : ∀ x a' A L r o, Ax x a' A → A.heap[L]? = some (.loop r) → Ax x a' (A.putObj L o))
    (hassign : ∀ (l : Nat) (pre : List α) (x : α) (W : World) (K : Act → World → Prop), w.heap.size < W.heap.size → I pre W → (∀ a' W', BodyStep M w.heap.size W W' → I pre W' → Ax x a' W' → K a' W') →
      assign.wpIn (Fence.wide.inRound l) (n - 1 - 1) P (Exit.then K (fun _ _ _ => False)) { tmps := (ps.zip (encs x)).foldl (fun t (p, v) => t.setIfInBounds p v) a.tmps, defers := [] } W)
    (hbody : ∀ (l : Nat) (pre : List α) (x : α) (a' : Act) (W : World), w.heap.size < W.heap.size → (∃ r, W.heap[l]? = some (.loop r)) → w.heap.size ≤ l → I pre W → Ax x a' W → pre ++ [x] <+: xs →
      body.wpIn (Fence.wide.inRound l) (n - 1 - 1) P (itPost M w.heap.size I Ix (pre ++ [x]) W) a' W)
    (hdone : ∀ (W : World), w.heap.size < W.heap.size → I xs W → Q .normal a W)
    (hstop : ∀ (c : Code) (pre : List α) (W : World), w.heap.size < W.heap.size → pre <+: xs → Ix c pre W → c.wpIn (Fence.wide.inRound l₀) n P Q a W) :
    (Code.rangeFunc g ps assign body).wpIn (Fence.wide.inRound l₀) n P Q a w := by
  refine wpIn_rangeFunc ?_
  intro fn hfn
  have hM0 : ∀ k, M w k → k < w.heap.size := (hN _ _ h0).2
  obtain ⟨rec, hrec⟩ : ∃ rec : LoopState → Option Code → Loop, rec = fun st pe => { state := st, pending := pe, fn, tmps := a.tmps, params := ps, assign, body, defers := r₀.defers } := ⟨_, rfl⟩
  obtain ⟨L, hLw⟩ : ∃ L, L = w.heap.size := ⟨_, rfl⟩
  obtain ⟨W1, hW1⟩ : ∃ W1, w.alloc (.loop (rec .ready none)) = W1 := ⟨_, rfl⟩
  have hs1 : W1.heap.size = L + 1 := by rw [← hW1, hLw]; simp
  have hL1 : W1.heap[L]? = some (.loop (rec .ready none)) := by
    rw [← hW1, hLw]; exact World.alloc_heap_new w _
  have hb1 : Below w.heap.size w W1 := by
    rw [← hW1]; exact (Below.refl _ w).alloc (Nat.le_refl _) _
  have st1 : ItStep M w.heap.size w W1 := ItStep.of_below hb1 (Nat.le_refl _) hM0
  have hI1 : I [] W1 := hI _ _ _ h0 st1
  have hm1 : ∀ k, w.heap.size ≤ k → ¬ M W1 k := fun k hk h => by have := hM0 k (st1.same hM k h); omega
  refine ⟨L, [], W1, { target := .fn (.func gf) lb, args := #[.func (.yield L) #[] #[]] }, W1, gf,
    #[.func (.yield L) #[] #[]] ++ lb, W1, ?_, ?_, ?_, ?_, (fun h => by cases h), ?_⟩
  · rw [← hW1, hrec, hLw]; exact run_enterLoop_inner hl₀ _ _ _ _ _
  · simp only [resolve, hg]
    simp [go_sem]
  · intro f' _; trivial
  · simp [invoke, go_sem, eg]
  · have hML : MLow M W1.heap.size := hM.of (by rw [hs1]; omega)
    have base : ∀ {A B : World}, BodyStep M w.heap.size A B → ∀ k, w.heap.size ≤ k → k < A.heap.size → ¬ M A k → B.heap[k]? = A.heap[k]? ∧ ¬ M B k := fun hb k h1 h2 h3 =>
      ⟨hb.keep k h1 h2 h3, fun h => by
        rcases hb.new k h with x | x | x
        · omega
        · exact h3 x
        · omega⟩
    refine CallsIn.inRound l₀ (callsIn_wide.2 ((hseq M L
      (fun pre W => I pre W ∧ W.heap[L]? = some (.loop (rec .ready none)) ∧ ¬ M W L)
      (fun pre W => ∃ c, Ix c pre W ∧ W.heap[L]? = some (.loop (rec .done (some c))) ∧ ¬ M W L)
      W1 hML ?_ ?_ ?_ ?_ ⟨hI1, hL1, hm1 L (by omega)⟩).mono ?_))
    · rintro s A B ⟨hi, hl, hm⟩ st
      rw [hs1] at st
      exact ⟨hI s A B hi (st.mono (by omega)), (st.low _ (by omega)).trans hl, fun h => hm (st.same (hM.of (by omega)) _ h)⟩
    · rintro s A B ⟨c, hi, hl, hm⟩ st
      rw [hs1] at st
      exact ⟨c, hIx c s A B hi (st.mono (by omega)), (st.low _ (by omega)).trans hl, fun h => hm (st.same (hM.of (by omega)) _ h)⟩
    · rintro s A ⟨hi, _⟩; exact hN s A hi
    · rintro pre x W ⟨hi, hl, hm⟩ hsz hpre
      rw [hs1] at hsz ⊢
      have hlt : L < W.heap.size := (Array.getElem?_eq_some_iff.1 hl).1
      have hy := run_yield (P := P) (args := encs x) hl (by rw [hrec]; exact hps x)
      rw [hrec] at hy
      refine ⟨fn, _, assign, body, hy, roundIn_any none (n := n - 1 - 1) (roundIn_of_wpIn (F := Fence.wide) trivial (hassign _ pre x W _ (by omega) hi ?_))⟩
      clear hy
      intro a' Wa hba hia hax
      obtain ⟨hla, hma⟩ := base hba L (by omega) hlt hm
      rw [hl] at hla
      have hza := hba.size
      have hlta : L < Wa.heap.size := by omega
      refine ⟨_, run_beginRound hla (by rw [hrec]), ?_⟩
      have hl2 : (Wa.putObj L (.loop { rec .ready none with state := .busy })).heap[L]? = some (.loop { rec .ready none with state := .busy }) := World.putObj_heap_same hlta
      have st2 : ItStep M w.heap.size Wa (Wa.putObj L (.loop { rec .ready none with state := .busy })) := ItStep.putObj _ (by omega) hma
      have hm2 : ¬ M (Wa.putObj L (.loop { rec .ready none with state := .busy })) L := fun h => hma (st2.same hM _ h)
      have bs2 : BodyStep M (L + 1) Wa (Wa.putObj L (.loop { rec .ready none with state := .busy })) :=
        ⟨rfl, rfl, rfl, by simp, fun k h1 _ _ => World.putObj_heap_other (by omega), fun k hk => .inr (.inl (st2.same hM k hk))⟩
      refine wpIn_mono (hbody _ pre x a' _ (by simp; omega) ⟨_, hl2⟩ (by omega) (hI _ _ _ hia st2) (hAx _ _ _ _ _ _ hax hla) hpre) ?_
      have fin : ∀ (jump : Option Code) (W3 : World), BodyStep M w.heap.size (Wa.putObj L (.loop { rec .ready none with state := .busy })) W3 →
          (Instr.endRound L jump).run P W3 = .ok (.bool jump.isNone) (W3.putObj L (.loop (rec (if jump.isNone then .ready else .done) jump))) ∧
          ItStep M w.heap.size W3 (W3.putObj L (.loop (rec (if jump.isNone then .ready else .done) jump))) ∧
          (W3.putObj L (.loop (rec (if jump.isNone then .ready else .done) jump))).heap[L]? = some (.loop (rec (if jump.isNone then .ready else .done) jump)) ∧ ¬ M (W3.putObj L (.loop (rec (if jump.isNone then .ready else .done) jump))) L := fun jump W3 hk3 => by
        obtain ⟨hl3, hm3⟩ := base hk3 L (by omega) (by simp; omega) hm2
        rw [hl2] at hl3
        have st3 : ItStep M w.heap.size W3 (W3.putObj L (.loop (rec (if jump.isNone then .ready else .done) jump))) := ItStep.putObj _ (by omega) hm3
        have := run_endRound (P := P) jump hl3
        rw [hrec] at this ⊢
        rw [hrec] at st3
        exact ⟨this, st3, World.putObj_heap_same (Array.getElem?_eq_some_iff.1 hl3).1, fun h => hm3 (st3.same hM _ h)⟩
      have bfin : ∀ (W3 : World) (o : Obj), BodyStep M w.heap.size (Wa.putObj L (.loop { rec .ready none with state := .busy })) W3 → ItStep M w.heap.size W3 (W3.putObj L o) → BodyStep M (L + 1) W (W3.putObj L o) := fun W3 o hk3 st3 =>
        (hba.mono (by omega)).trans (bs2.trans ((hk3.mono (by omega)).trans
          ⟨rfl, rfl, rfl, by simp, fun k h1 _ _ => World.putObj_heap_other (by omega), fun k hk => .inr (.inl (st3.same hM k hk))⟩))
      rintro e a3 W3 hp
      cases e with
      | normal =>
        obtain ⟨hk3, hi3⟩ := hp
        obtain ⟨hr, st3, hl4, hm4⟩ := fin none W3 hk3
        exact ⟨_, _, hr, .inl ⟨rfl, ⟨hI _ _ _ hi3 st3, hl4, hm4⟩, bfin _ _ hk3 st3⟩⟩
      | ret =>
        obtain ⟨hk3, hi3⟩ := hp
        obtain ⟨hr, st3, hl4, hm4⟩ := fin (some .ret) W3 hk3
        exact ⟨_, _, hr, .inr ⟨rfl, ⟨.ret, hIx _ _ _ _ hi3 st3, hl4, hm4⟩, bfin _ _ hk3 st3⟩⟩
      | exit id =>
        obtain ⟨hk3, hi3⟩ := hp
        obtain ⟨hr, st3, hl4, hm4⟩ := fin (some (.exit id)) W3 hk3
        exact ⟨_, _, hr, .inr ⟨rfl, ⟨.exit id, hIx _ _ _ _ hi3 st3, hl4, hm4⟩, bfin _ _ hk3 st3⟩⟩
      | goto t =>
        obtain ⟨hk3, hi3⟩ := hp
        obtain ⟨hr, st3, hl4, hm4⟩ := fin (some (.goto t)) W3 hk3
        exact ⟨_, _, hr, .inr ⟨rfl, ⟨.goto t, hIx _ _ _ _ hi3 st3, hl4, hm4⟩, bfin _ _ hk3 st3⟩⟩
      | panic ch => exact hp.elim
      | outgrown => exact hp.elim
    · rintro e W2 ⟨⟨v, rfl⟩, (⟨hi, hl, hm⟩ | ⟨pre, hpre, c, hi, hl, hm⟩)⟩
      · have st4 : ItStep M w.heap.size W2 (W2.putObj L (.loop (rec .exhausted none))) := ItStep.putObj _ (by omega) hm
        have hlt : L < W2.heap.size := (Array.getElem?_eq_some_iff.1 hl).1
        refine ⟨none, W2.putObj L (.loop (rec .exhausted none)), by have := run_endLoop (P := P) hl (by rw [hrec]; simp); rw [hrec] at this ⊢; exact this, hdone _ (by simp; omega) (hI _ _ _ hi st4)⟩
      · have st4 : ItStep M w.heap.size W2 (W2.putObj L (.loop (rec .exhausted (some c)))) := ItStep.putObj _ (by omega) hm
        have hlt : L < W2.heap.size := (Array.getElem?_eq_some_iff.1 hl).1
        refine ⟨some c, W2.putObj L (.loop (rec .exhausted (some c))), by have := run_endLoop (P := P) hl (by rw [hrec]; simp); rw [hrec] at this ⊢; exact this, hstop c pre _ (by simp; omega) hpre (hIx _ _ _ _ hi st4)⟩

/-- .. where the loop variables lie in slots. -/
theorem wp_range1 {α : Type} {n : Nat} {g : Operand} {ps : Array Tmp} {assign body : Code} {Q : Exit → Act → World → Prop} {a : Act} {w : World}
    {gf : Nat} {lb : Array Value} (hg : a.eval g = .func (.func gf) #[] lb) (eg : ∀ args w, (callFunc gf args).run P w = .ok (.enter gf args) w)
    {encs : α → Array Value} {xs : List α} {Need : World → Prop} (hseq : Iters P gf lb encs xs Need) (hps : ∀ x, (encs x).size = ps.size)
    (M : World → Nat → Prop) (hM : MLow M w.heap.size) (I : List α → World → Prop) (Ix : Code → List α → World → Prop)
    (hI : ∀ s A B, I s A → ItStep M w.heap.size A B → I s B) (hIx : ∀ c s A B, Ix c s A → ItStep M w.heap.size A B → Ix c s B)
    (hN : ∀ s A, I s A → Need A ∧ ∀ k, M A k → k < A.heap.size) (h0 : I [] w) (a₁ : α → Act)
    (hassign : ∀ (l : Nat) (x : α) (W : World) (K : Act → World → Prop), K (a₁ x) W →
      assign.wpIn (Fence.wide.inRound l) (n - 1 - 1) P (Exit.then K (fun _ _ _ => False)) { tmps := (ps.zip (encs x)).foldl (fun t (p, v) => t.setIfInBounds p v) a.tmps, defers := [] } W)
    (hbody : ∀ (l : Nat) (pre : List α) (x : α) (W : World), w.heap.size < W.heap.size → (∃ r, W.heap[l]? = some (.loop r)) → w.heap.size ≤ l → I pre W → pre ++ [x] <+: xs →
      body.wpIn (Fence.wide.inRound l) (n - 1 - 1) P (itPost M w.heap.size I Ix (pre ++ [x]) W) (a₁ x) W)
    (hdone : ∀ (W : World), w.heap.size < W.heap.size → I xs W → W.heap[w.heap.size]? = some (.deferred (some [])) → ¬ M W w.heap.size → Q .normal { a with defers := { target := .collected w.heap.size, args := #[] } :: a.defers } W)
    (hstop : ∀ (c : Code) (pre : List α) (W : World), w.heap.size < W.heap.size → pre <+: xs → Ix c pre W → W.heap[w.heap.size]? = some (.deferred (some [])) → ¬ M W w.heap.size → c.wpIn Fence.wide n P Q { a with defers := { target := .collected w.heap.size, args := #[] } :: a.defers } W) :
    (Code.rangeFunc g ps assign body).wpIn Fence.wide n P Q a w :=
  wp_range hg eg hseq hps M hM I Ix hI hIx hN h0 (fun x a' _ => a' = a₁ x) (fun _ _ _ _ _ _ h _ => h)
    (fun l pre x W K _ hi hK => hassign l x W K (hK _ _ (BodyStep.refl _ _ _) hi rfl)) (fun l pre x a' W hsz hl hle hi e hp => by subst e; exact hbody l pre x W hsz hl hle hi hp) hdone hstop
/-- .. within a round. -/
theorem wp_rangeN1 {α : Type} {n : Nat} {g : Operand} {ps : Array Tmp} {assign body : Code} {Q : Exit → Act → World → Prop} {a : Act} {w : World}
    {l₀ : Nat} {r₀ : Loop} (hl₀ : w.heap[l₀]? = some (.loop r₀)) {gf : Nat} {lb : Array Value} (hg : a.eval g = .func (.func gf) #[] lb) (eg : ∀ args w, (callFunc gf args).run P w = .ok (.enter gf args) w)
    {encs : α → Array Value} {xs : List α} {Need : World → Prop} (hseq : Iters P gf lb encs xs Need) (hps : ∀ x, (encs x).size = ps.size)
    (M : World → Nat → Prop) (hM : MLow M w.heap.size) (I : List α → World → Prop) (Ix : Code → List α → World → Prop)
    (hI : ∀ s A B, I s A → ItStep M w.heap.size A B → I s B) (hIx : ∀ c s A B, Ix c s A → ItStep M w.heap.size A B → Ix c s B)
    (hN : ∀ s A, I s A → Need A ∧ ∀ k, M A k → k < A.heap.size) (h0 : I [] w) (a₁ : α → Act)
    (hassign : ∀ (l : Nat) (x : α) (W : World) (K : Act → World → Prop), K (a₁ x) W →
      assign.wpIn (Fence.wide.inRound l) (n - 1 - 1) P (Exit.then K (fun _ _ _ => False)) { tmps := (ps.zip (encs x)).foldl (fun t (p, v) => t.setIfInBounds p v) a.tmps, defers := [] } W)
    (hbody : ∀ (l : Nat) (pre : List α) (x : α) (W : World), w.heap.size < W.heap.size → (∃ r, W.heap[l]? = some (.loop r)) → w.heap.size ≤ l → I pre W → pre ++ [x] <+: xs →
      body.wpIn (Fence.wide.inRound l) (n - 1 - 1) P (itPost M w.heap.size I Ix (pre ++ [x]) W) (a₁ x) W)
    (hdone : ∀ (W : World), w.heap.size < W.heap.size → I xs W → Q .normal a W)
    (hstop : ∀ (c : Code) (pre : List α) (W : World), w.heap.size < W.heap.size → pre <+: xs → Ix c pre W → c.wpIn (Fence.wide.inRound l₀) n P Q a W) :
    (Code.rangeFunc g ps assign body).wpIn (Fence.wide.inRound l₀) n P Q a w :=
  wp_rangeN hl₀ hg eg hseq hps M hM I Ix hI hIx hN h0 (fun x a' _ => a' = a₁ x) (fun _ _ _ _ _ _ h _ => h)
    (fun l pre x W K _ hi hK => hassign l x W K (hK _ _ (BodyStep.refl _ _ _) hi rfl)) (fun l pre x a' W hsz hl hle hi e hp => by subst e; exact hbody l pre x W hsz hl hle hi hp) hdone hstop

/-- A scope that no jump comes back to, at the wide fence. -/
theorem wpIn_scope_wide {n : Nat} {c : Code} {Q : Exit → Act → World → Prop} {a : Act} {w : World} (h : c.wpIn Fence.wide n P (Exit.noGoto Q) a w) : (Code.scope c).wpIn Fence.wide n P Q a w :=
  wpIn_wide.2 (wp_scope_straight (wpIn_wide.1 h))
end Go.Vit

namespace Go.Proofs.YtjbfgnhkgjigpaaDoor
open Go.RowKit Go.Shelf Go.Vit
attribute [local go_sem] Oper.semAt_some

theorem wrap32_byte (c : UInt8) : wrap32 (c.toNat : Int) = (c.toNat : Int) := by
  have := c.toNat_lt; unfold wrap32; omega
/-- Five cells of a block. -/
structure Cells5 (w : World) (B : Nat) (v0 v1 v2 v3 v4 : Value) : Prop where
  c0 : w.cell? ⟨B, 0, none⟩ = some v0
  c1 : w.cell? ⟨B, 1, none⟩ = some v1
  c2 : w.cell? ⟨B, 2, none⟩ = some v2
  c3 : w.cell? ⟨B, 3, none⟩ = some v3
  c4 : w.cell? ⟨B, 4, none⟩ = some v4
theorem below_drew1 {w w' : World} (h : Below w.heap.size w.drew w') : Below w.heap.size w w' := ⟨h.os, h.tape, h.output, h.size, h.block⟩
theorem five_kept {w w' : World} {B : Nat} {v0 v1 v2 v3 v4 : Value} (h : w.cell? ⟨B, 0, none⟩ = some v0 ∧ w.cell? ⟨B, 1, none⟩ = some v1 ∧ w.cell? ⟨B, 2, none⟩ = some v2 ∧ w.cell? ⟨B, 3, none⟩ = some v3 ∧ w.cell? ⟨B, 4, none⟩ = some v4)
    (hb : Below w.heap.size w w') : w'.cell? ⟨B, 0, none⟩ = some v0 ∧ w'.cell? ⟨B, 1, none⟩ = some v1 ∧ w'.cell? ⟨B, 2, none⟩ = some v2 ∧ w'.cell? ⟨B, 3, none⟩ = some v3 ∧ w'.cell? ⟨B, 4, none⟩ = some v4 := by
  have hB := block_lt h.1
  exact ⟨(hb.cell (p := ⟨B, 0, none⟩) hB).trans h.1, (hb.cell (p := ⟨B, 1, none⟩) hB).trans h.2.1, (hb.cell (p := ⟨B, 2, none⟩) hB).trans h.2.2.1, (hb.cell (p := ⟨B, 3, none⟩) hB).trans h.2.2.2.1, (hb.cell (p := ⟨B, 4, none⟩) hB).trans h.2.2.2.2⟩
theorem first_bits (r : Nat) (c : Int) (h0 : 0 ≤ c) (h1 : c ≤ 255) : wrap32 (bits BinOp.and IntKind.u8 c (Vm.sqBits r)) = c % (Vm.sqBits r + 1) := by
  have e : bits BinOp.and IntKind.u8 c (Vm.sqBits r) = c % (Vm.sqBits r + 1) := by
    rcases Vm.sqBits_cases r with h | h | h | h | h <;> rw [h]
    · exact bits_mask .u8 8 (by decide) wraps_u8 7 (by decide) c h0 (by omega)
    · exact u8_and31 c h0 (by omega)
    · exact u8_and15 c h0 (by omega)
    · exact u8_and7 c h0 (by omega)
    · rw [u8_and c 0 h0 (by omega) (by omega) (by omega)]; simp
  rw [e]
  have h2 := Vm.sqBits_bd r
  have e1 := Int.emod_nonneg c (b := Vm.sqBits r + 1) (by omega)
  have e2 := Int.emod_lt_of_pos c (b := Vm.sqBits r + 1) (by omega)
  unfold wrap32; omega
theorem hide {p : Prop} (h : p) : Hid p := h

def encSg (x : Vm.Sg) : Array Value := #[.int .i32 x.1, .int .i64 x.2]

set_option maxHeartbeats 400000 in
theorem readSingles_it (b : ByteArray) (hb : b.size ≤ maxLen) :
    ItersA Tryd.prog 99 (fun y => #[.string b, y]) encSg (Vm.signs 3 b.data.toList) (fun _ => True) := by
  intro M l J Jx W hM hJ hJx hN hY h0
  unfold maxLen at hb
  refine (callsIn_wide (n := 3)).1 ?_
  refine callsIn_of_wp Tryd.func99 rfl trivial ?_ rfl
  simp only [Tryd.ntmps99, List.size_toArray, List.length_cons, List.length_nil, Nat.reduceAdd, Nat.reduceSub, Array.replicate_succ, Array.replicate_zero, List.push_toArray, List.append_toArray, List.nil_append, List.cons_append]
  gi_wp2
  gi_loopw [7] (fun i wr => ∃ (k : Nat) (pre : List Vm.Sg), k ≤ b.size ∧ i = .int .i64 k ∧ Vm.signs 3 b.data.toList = pre ++ Vm.signs 3 (b.data.toList.drop k) ∧ J pre wr ∧ W.heap.size ≤ wr.heap.size) (fun i _ => b.size - (intOf i).toNat)
  case atStart => exact ⟨0, [], Nat.zero_le _, rfl, rfl, h0, Nat.le_refl _⟩
  case round =>
    obtain ⟨k, pre, hk, rfl, hs, hj, hwz⟩ := hrel
    by_cases hlt : k < b.size
    · obtain ⟨h1, h2⟩ := Vm.sg_next hs (Vm.latin_some b k hlt)
      obtain ⟨fn, tmps, assign, body, hy, hR⟩ := hY pre ((b[k].toNat : Int), 1) wr hj hwz h1
      have hw : wrap32 ((b[k].toNat : Int)) = (b[k].toNat : Int) := wrap32_byte _
      have hy2 : (Instr.yield l #[.int .i32 (wrap32 (b[k].toNat : Int)), .int .i64 1]).run Tryd.prog wr = .ok (.round l fn tmps assign body) wr := by rw [hw]; exact hy
      have Hs := hide h2
      clear h1 h2 hs hw hy
      gi_wp2
      refine (roundIn_any none hR).mono ?_
      rintro e W3 (⟨rfl, hJ3, hk3⟩ | ⟨rfl, hJx3, hkx⟩)
      · gi_wp2
        go_roundw
        case rel => exact ⟨k + 1, pre ++ [((b[k].toNat : Int), 1)], by omega, by go_num, Hs.out, hJ3, Nat.le_trans hwz hk3.size⟩
        case measure => simp [intOf]; omega
      · gi_wp2
        refine bodyPost_ret (results_none rfl _ _ _) rfl ?_
        exact ⟨⟨_, rfl⟩, .inr ⟨_, ⟨_, Hs.out.symm⟩, hJx3⟩⟩
    · have he := Vm.sg_end hs (Vm.any_none 3 b k (by omega))
      have Hs := hide he
      clear he hs
      gi_wp2
      go_end0
      exact ⟨⟨_, rfl⟩, .inl (by rw [Hs.out]; exact hj)⟩

set_option maxHeartbeats 800000 in
theorem readSequences_it (b : ByteArray) (hb : b.size ≤ maxLen) :
    ItersA Tryd.prog 98 (fun y => #[.string b, y]) encSg (Vm.signs 0 b.data.toList) TabSeq := by
  intro M l J Jx W hM hJ hJx hN hY h0
  unfold maxLen at hb
  refine (callsIn_wide (n := 3)).1 ?_
  refine callsIn_of_wp Tryd.func98 rfl trivial ?_ rfl
  simp only [Tryd.ntmps98, List.size_toArray, List.length_cons, List.length_nil, Nat.reduceAdd, Nat.reduceSub, Array.replicate_succ, Array.replicate_zero, List.push_toArray, List.append_toArray, List.nil_append, List.cons_append]
  gi_wp2
  refine wpIn_scope_wide ?_
  gi_wp2
  refine wpIn_label ?_
  gi_wp2
  gi_loopw [4] (fun i wr => ∃ (k : Nat) (pre : List Vm.Sg), k ≤ b.size ∧ i = .int .i64 k ∧ Vm.signs 0 b.data.toList = pre ++ Vm.signs 0 (b.data.toList.drop k) ∧ J pre wr ∧ W.heap.size ≤ wr.heap.size) (fun i _ => b.size - (intOf i).toNat)
  case atStart => exact ⟨0, [], Nat.zero_le _, rfl, rfl, h0, Nat.le_refl _⟩
  case round =>
    obtain ⟨k, pre, hk, rfl, hs, hj, hwz⟩ := hrel
    by_cases hlt : k < b.size
    · have hb0 : Vm.b0 (b.data.toList.drop k) 0 = (b[k].toNat : Int) := by rw [Vm.b0_drop, Nat.add_zero, Vm.b0_byte b k hlt]
      have hc := b[k].toNat_lt
      obtain ⟨h1, h2⟩ := Vm.sg_next hs (Vm.utf_some b k hlt)
      have ht := (hN pre wr hj).1
      have hMj := (hN pre wr hj).2
      have Hs := hide h2
      have Hp := hide h1
      have H0 := hide hb0
      clear h1 h2 hs hb0
      gi_wp2_with (refine ⟨trivial, ?_⟩; gi_at_call 105; refine (callsIn_wide.2 (begunBy_any _ _ (by omega) (by omega) ht)).mono ?_; rintro e w1 ⟨rfl, hb1⟩)
      have hr10 := Vm.sqRow_le (b[k].toNat : Int)
      generalize hr : Vm.sqRow (b[k].toNat : Int) = r at *
      have Hr := hide hr
      clear hr
      refine wpIn_wide.2 ?_
      go_quiet (fail)
      gi_wp2
      have hpart : wrap32 (bits BinOp.and IntKind.u8 (b[k].toNat : Int) (Vm.sqBits r)) = Vm.partV (b.data.toList.drop k) r 1 := by
        simp only [Vm.partV]; rw [H0.out]; exact first_bits _ _ (by omega) (by omega)
      obtain ⟨B, hB⟩ : ∃ B, B = w1.heap.size := ⟨_, rfl⟩
      rw [hpart, ← hB]
      have hbe : Below wr.heap.size wr ((w1.alloc (Obj.cells #[.int .u8 (Vm.sqUp r), .int .i64 (Vm.sqSize r), .int .u8 (Vm.sqBits r), .int .u8 (Vm.sqLeast r), .int .u8 (Vm.sqMost r)] 171)).drewN nq) := below_drewN (hb1.alloc hb1.size _) nq
      have hbox : Cells5 ((w1.alloc (Obj.cells #[.int .u8 (Vm.sqUp r), .int .i64 (Vm.sqSize r), .int .u8 (Vm.sqBits r), .int .u8 (Vm.sqLeast r), .int .u8 (Vm.sqMost r)] 171)).drewN nq) B (.int .u8 (Vm.sqUp r)) (.int .i64 (Vm.sqSize r)) (.int .u8 (Vm.sqBits r)) (.int .u8 (Vm.sqLeast r)) (.int .u8 (Vm.sqMost r)) := by
        subst hB
        exact ⟨by simp [World.cell?_drewN], by simp [World.cell?_drewN], by simp [World.cell?_drewN], by simp [World.cell?_drewN], by simp [World.cell?_drewN]⟩
      have hBw : wr.heap.size ≤ B := by have := hb1.size; omega
      clear hB
      generalize ((w1.alloc (Obj.cells #[.int .u8 (Vm.sqUp r), .int .i64 (Vm.sqSize r), .int .u8 (Vm.sqBits r), .int .u8 (Vm.sqLeast r), .int .u8 (Vm.sqMost r)] 171)).drewN nq) = w2 at *
      clear hpart
      obtain ⟨wo, rfl⟩ : ∃ wo : World, wo = wr := ⟨_, rfl⟩
      clear hb1 ht
      gi_loopw [6, 7] (fun c i wx => ∃ j : Nat, 1 ≤ j ∧ j ≤ Vm.sqN r ∧ k + j ≤ b.size ∧ i = .int .i64 j ∧ c = .int .i32 (Vm.partV (b.data.toList.drop k) r j) ∧ Vm.allOk (b.data.toList.drop k) r (j - 1) = true ∧ Below wo.heap.size wo wx ∧
          Cells5 wx B (.int .u8 (Vm.sqUp r)) (.int .i64 (Vm.sqSize r)) (.int .u8 (Vm.sqBits r)) (.int .u8 (Vm.sqLeast r)) (.int .u8 (Vm.sqMost r))) (fun _ i _ => 4 - (intOf i).toNat)
      case atStart => exact ⟨1, Nat.le_refl _, Vm.sqN_pos r, by omega, rfl, rfl, rfl, hbe, hbox⟩
      case round =>
        obtain ⟨j, hj1, hj2, hjs, rfl, rfl, hok, hbx, hcx⟩ := hrel
        have Hok := hide hok
        clear hok hbe hbox
        have hn4 := Vm.sqN_le r
        have hsz := Vm.sqN_cast r
        have c0 := hcx.c0
        have c1 := hcx.c1
        have c2 := hcx.c2
        have c3 := hcx.c3
        have c4 := hcx.c4
        rw [hsz] at c1
        have Hsz := hide hsz
        clear hsz
        have hpv := Vm.partV_bd (b.data.toList.drop k) r j (by omega)
        by_cases hjn : j < Vm.sqN r
        · by_cases hend : k + j = b.size
          · have hend' : ((k : Int) + j == (b.size : Int)) = true := by rw [beq_iff_eq]; omega
            gi_wp2
            refine wpIn_wide.2 ?_
            go_quiet (fail)
            have hhead : Vm.utfHead (b.data.toList.drop k) = (-1, 1) := Vm.utfHead_bad (by rw [H0.out]; exact Hr.out) hj1 hjn (Vm.okAt_end (by omega))
            have hs2 := Hs.out
            have hp2 := Hp.out
            rw [hhead] at hs2 hp2
            have hj3 := hJ pre _ (wr.drewN nq) hj (ItStep.of_below (below_drewN hbx nq) hwz hMj)
            obtain ⟨fn, tmps, assign, body, hy, hR⟩ := hY pre (-1, 1) _ hj3 (Nat.le_trans hwz (by first | exact hbz.size | exact (below_drewN hbx nq).size)) hp2
            have hy2 : (Instr.yield l #[.int .i32 (-1), .int .i64 1]).run Tryd.prog (wr.drewN nq) = .ok (.round l fn tmps assign body) (wr.drewN nq) := hy
            have Hs2 := hide hs2
            clear hs2 hp2 hy hhead
            gi_wp2
            refine (roundIn_any none hR).mono ?_
            rintro e W3 (⟨rfl, hJ3, hk3⟩ | ⟨rfl, hJx3, hkx⟩)
            · gi_wp2
              have hz3 := hk3.size
              refine ⟨⟨k + 1, _, by omega, by go_num, Hs2.out, hJ3, ?_⟩, by simp [intOf]; omega⟩
              have := hbx.size
              simp at hz3
              omega
            · gi_wp2
              dsimp only [Exit.noGoto]
              refine bodyPost_ret (results_none rfl _ _ _) rfl ?_
              exact ⟨⟨_, rfl⟩, .inr ⟨_, ⟨_, Hs2.out.symm⟩, hJx3⟩⟩
          · have hend' : ((k : Int) + j == (b.size : Int)) = false := by rw [beq_eq_false_iff_ne]; omega
            have hin : k + j < b.size := by omega
            have hinI : (k : Int) + (j : Int) < (b.size : Int) := by omega
            cases hg : Vm.goesOnB (Vm.sqLeast r) (Vm.sqMost r) (j : Int) (b[k + j].toNat : Int)
            · gi_wp2
              have hwr : IntKind.i64.wrap ((k : Int) + (j : Int)) = (k : Int) + (j : Int) := by rw [IntKind.wrap_i64]; omega
              have htn : ((k : Int) + (j : Int)).toNat = k + j := by omega
              refine wpIn_wide.2 ?_
              go_region_held3 (fun w' => w'.cell? ⟨B, 0, none⟩ = some (.int .u8 (Vm.sqUp r)) ∧ w'.cell? ⟨B, 1, none⟩ = some (.int .i64 (Vm.sqN r)) ∧ w'.cell? ⟨B, 2, none⟩ = some (.int .u8 (Vm.sqBits r)) ∧ w'.cell? ⟨B, 3, none⟩ = some (.int .u8 (Vm.sqLeast r)) ∧ w'.cell? ⟨B, 4, none⟩ = some (.int .u8 (Vm.sqMost r)))
                (first | go_keep | exact five_kept (by assumption) (by assumption)) (first | (go_at_call 106; refine (goesOn_any _ _ _ _ _ _ _ _).mono ?_; rintro e w3 ⟨rfl, hb3⟩))
              have Hg := hide hg
              clear hg
              have hhead : Vm.utfHead (b.data.toList.drop k) = (-1, 1) := Vm.utfHead_bad (by rw [H0.out]; exact Hr.out) hj1 hjn (by rw [Vm.okAt_in hin]; exact Hg.out)
              have hs2 := Hs.out
              have hp2 := Hp.out
              rw [hhead] at hs2 hp2
              have hbz : Below wo.heap.size wo w3 := hbx.trans ((below_drew1 hb3).mono hbx.size)
              have hj3 := hJ pre _ w3 hj (ItStep.of_below hbz hwz hMj)
              obtain ⟨fn, tmps, assign, body, hy, hR⟩ := hY pre (-1, 1) _ hj3 (Nat.le_trans hwz (by first | exact hbz.size | exact (below_drewN hbx nq).size)) hp2
              have hy2 : (Instr.yield l #[.int .i32 (-1), .int .i64 1]).run Tryd.prog w3 = .ok (.round l fn tmps assign body) w3 := hy
              have Hs2 := hide hs2
              clear hs2 hp2 hy hhead
              gi_wp2
              refine (roundIn_any none hR).mono ?_
              rintro e W3 (⟨rfl, hJ3, hk3⟩ | ⟨rfl, hJx3, hkx⟩)
              · gi_wp2
                have hz3 := hk3.size
                refine ⟨⟨k + 1, _, by omega, by go_num, Hs2.out, hJ3, ?_⟩, by simp [intOf]; omega⟩
                have := hbz.size
                omega
              · gi_wp2
                dsimp only [Exit.noGoto]
                refine bodyPost_ret (results_none rfl _ _ _) rfl ?_
                exact ⟨⟨_, rfl⟩, .inr ⟨_, ⟨_, Hs2.out.symm⟩, hJx3⟩⟩
            · have hx2 := b[k + j].toNat_lt
              gi_wp2
              have hwr : IntKind.i64.wrap ((k : Int) + (j : Int)) = (k : Int) + (j : Int) := by rw [IntKind.wrap_i64]; omega
              have htn : ((k : Int) + (j : Int)).toNat = k + j := by omega
              refine wpIn_wide.2 ?_
              go_region_held3 (fun w' => w'.cell? ⟨B, 0, none⟩ = some (.int .u8 (Vm.sqUp r)) ∧ w'.cell? ⟨B, 1, none⟩ = some (.int .i64 (Vm.sqN r)) ∧ w'.cell? ⟨B, 2, none⟩ = some (.int .u8 (Vm.sqBits r)) ∧ w'.cell? ⟨B, 3, none⟩ = some (.int .u8 (Vm.sqLeast r)) ∧ w'.cell? ⟨B, 4, none⟩ = some (.int .u8 (Vm.sqMost r)))
                (first | go_keep | exact five_kept (by assumption) (by assumption)) (first | (go_at_call 106; refine (goesOn_any _ _ _ _ _ _ _ _).mono ?_; rintro e w3 ⟨rfl, hb3⟩))
              have Hg := hide hg
              clear hg
              have hbz : Below wo.heap.size wo w3 := hbx.trans ((below_drew1 hb3).mono hbx.size)
              have hS := five_kept (w' := w3) ⟨c0, c1, c2, c3, c4⟩ (below_drew1 hb3)
              gi_wp2
              refine ⟨⟨j + 1, by omega, by omega, by omega, by go_num, ?_, ?_, hbz, ⟨hS.1, by rw [Hsz.out]; exact hS.2.1, hS.2.2.1, hS.2.2.2.1, hS.2.2.2.2⟩⟩, by simp [intOf]; omega⟩
              · rw [Vm.partV_succ _ _ _ hj1, Vm.b0_drop, Vm.b0_byte b (k + j) hin, Int.mul_comm]
              · simp only [Nat.add_sub_cancel]; exact Vm.allOk_succ hj1 Hok.out (by rw [Vm.okAt_in hin]; exact Hg.out)
        · obtain rfl : j = Vm.sqN r := by omega
          have hhead : Vm.utfHead (b.data.toList.drop k) = (Vm.partV (b.data.toList.drop k) r (Vm.sqN r), Vm.sqN r) := Vm.utfHead_good (by rw [H0.out]; exact Hr.out) Hok.out
          have hs2 := Hs.out
          have hp2 := Hp.out
          rw [hhead] at hs2 hp2
          have hj3 := hJ pre _ wr hj (ItStep.of_below hbx hwz hMj)
          obtain ⟨fn, tmps, assign, body, hy, hR⟩ := hY pre _ _ hj3 (Nat.le_trans hwz hbx.size) hp2
          have hy2 : (Instr.yield l #[.int .i32 (Vm.partV (b.data.toList.drop k) r (Vm.sqN r)), .int .i64 (Vm.sqN r)]).run Tryd.prog wr = .ok (.round l fn tmps assign body) wr := hy
          have Hs2 := hide hs2
          clear hs2 hp2 hy hhead
          gi_wp2
          refine (roundIn_any none hR).mono ?_
          rintro e W3 (⟨rfl, hJ3, hk3⟩ | ⟨rfl, hJx3, hkx⟩)
          · have hnb : ¬ M wr B := fun h => by
              have := hMj B (hM wo wr (fun j hj => hbx.block j (by omega)) B h)
              omega
            have d1 : W3.cell? ⟨B, 1, none⟩ = some (.int .i64 (Vm.sqN r)) := (World.cell?_of_block (w := wr) (hk3.keep B (by omega) (block_lt c0) hnb)).trans c1
            have hz3 := hk3.size
            have hsN := Vm.sqN_pos r
            gi_wp2
            have := hbx.size
            refine ⟨⟨k + Vm.sqN r, _, by omega, by go_num, Hs2.out, hJ3, by omega⟩, by simp [intOf]; omega⟩
          · gi_wp2
            dsimp only [Exit.noGoto]
            refine bodyPost_ret (results_none rfl _ _ _) rfl ?_
            exact ⟨⟨_, rfl⟩, .inr ⟨_, ⟨_, Hs2.out.symm⟩, hJx3⟩⟩
    · have he := Vm.sg_end hs (Vm.any_none 0 b k (by omega))
      have Hs := hide he
      clear he hs
      gi_wp2
      dsimp only [Exit.noGoto]
      go_end0
      exact ⟨⟨_, rfl⟩, .inl (by rw [Hs.out]; exact hj)⟩
end Go.Proofs.YtjbfgnhkgjigpaaDoor

namespace Go.Proofs.YtjbfgnhkgjigpaaDoor
open Go.RowKit Go.Shelf Go.Vit
attribute [local go_sem] Oper.semAt_some

theorem pair_bits (x y : Int) (h0 : 0 ≤ x) (h1 : x ≤ 1023) (h2 : 0 ≤ y) (h3 : y ≤ 1023) : bits BinOp.or IntKind.i32 (x * 1024) y = 1024 * x + y := by
  rw [bits_join .i32 31 (by decide) wraps_i32 10 (x * 1024) y (by omega) (by omega) (by omega) h2 (by omega) (by omega)]; omega

set_option maxHeartbeats 1600000 in
theorem readUnits_it (b : ByteArray) (enc : Int) (hb : b.size ≤ 1099511627776) (he : enc = 1 ∨ enc = 2) :
    ItersA Tryd.prog 100 (fun y => #[.string b, .int .i64 enc, y]) encSg (Vm.signs enc b.data.toList) (fun w => TabHalf w ∧ TabEnc w) := by
  intro M l J Jx W hM hJ hJx hN hY h0
  have i0 : ∀ w, (Instr.index 175 (.agg #[.int .i32 55296, .int .i32 56319, .int .i32 56320, .int .i32 57343]) (.int .i64 0)).run Tryd.prog w = .ok (.agg #[.int .i32 55296, .int .i32 56319]) w := fun _ => by kernel_rfl
  have i1 : ∀ w, (Instr.index 175 (.agg #[.int .i32 55296, .int .i32 56319, .int .i32 56320, .int .i32 57343]) (.int .i64 1)).run Tryd.prog w = .ok (.agg #[.int .i32 56320, .int .i32 57343]) w := fun _ => by kernel_rfl
  refine (callsIn_wide (n := 3)).1 ?_
  refine callsIn_of_wp Tryd.func100 rfl trivial ?_ rfl
  simp only [Tryd.ntmps100, List.size_toArray, List.length_cons, List.length_nil, Nat.reduceAdd, Nat.reduceSub, Array.replicate_succ, Array.replicate_zero, List.push_toArray, List.append_toArray, List.nil_append, List.cons_append]
  gi_wp2
  refine wpIn_scope_wide ?_
  gi_wp2
  refine wpIn_label ?_
  gi_wp2
  gi_loopw [6] (fun i wr => ∃ (k : Nat) (pre : List Vm.Sg), k ≤ b.size ∧ i = .int .i64 k ∧ Vm.signs enc b.data.toList = pre ++ Vm.signs enc (b.data.toList.drop k) ∧ J pre wr ∧ W.heap.size ≤ wr.heap.size) (fun i _ => b.size - (intOf i).toNat)
  case atStart => exact ⟨0, [], Nat.zero_le _, rfl, rfl, h0, Nat.le_refl _⟩
  case round =>
    obtain ⟨k, pre, hk, rfl, hs, hj, hwz⟩ := hrel
    by_cases hlt : k + 1 < b.size
    · obtain ⟨hth, hte⟩ := (hN pre wr hj).1
      have hMj := (hN pre wr hj).2
      have c0 := hth.c0
      have c1 := hth.c1
      have c2 := hth.c2
      have c3 := hth.c3
      have hz := block_lt c0
      have hU := Vm.unitO_bd enc b k
      have hV := Vm.unitO_bd enc b (k + 2)
      have hltI : (k : Int) + 1 < (b.size : Int) := by omega
      have Hs := hide hs
      clear hs
      gi_wp2
      refine wpIn_loop_rounds 3 ?_
      rw [roundsIn_succ]
      gi_wp2_with fail
      have be0 : Below wr.heap.size wr (wr.alloc (Obj.cells #[Value.int IntKind.i32 55296, Value.int IntKind.i32 56319] 174)) := (Below.refl _ _).alloc (Nat.le_refl _) _
      refine ⟨trivial, (callsIn_wide.2 (unit_int b _ _ _ hb (by omega) (by omega) he (hte.below be0))).mono ?_⟩
      rintro e w1 ⟨rfl, hb1⟩
      rw [Int.toNat_natCast]
      have be1 : Below wr.heap.size wr w1 := be0.trans (hb1.mono be0.size)
      have d0 : w1.cell? ⟨wr.heap.size, 0, none⟩ = some (.int .i32 55296) := (hb1.cell (p := ⟨wr.heap.size, 0, none⟩) (by simp)).trans (by simp)
      have d1 : w1.cell? ⟨wr.heap.size, 1, none⟩ = some (.int .i32 56319) := (hb1.cell (p := ⟨wr.heap.size, 1, none⟩) (by simp)).trans (by simp)
      by_cases hA1 : Vm.unitO enc b k < 55296
      · have hhead := Vm.unit_lone he hlt (by unfold Vm.isPair; omega)
        obtain ⟨hp2, hs2⟩ := Vm.sg_next Hs.out hhead
        have Hs2 := hide hs2
        have Hp2 := hide hp2
        clear hs2 hp2 hhead
        gi_wp2_with fail
        refine ⟨trivial, (callsIn_wide.2 (unit_int b _ _ _ hb (by omega) (by omega) he (hte.below be1))).mono ?_⟩
        rintro e w2 ⟨rfl, hb2⟩
        rw [Int.toNat_natCast]
        have be2 : Below wr.heap.size wr w2 := be1.trans (hb2.mono be1.size)
        gi_wp2_with fail
        refine ⟨trivial, (callsIn_wide.2 (alone_any _ _ (hth.below be2))).mono ?_⟩
        rintro e w5 ⟨rfl, hb5⟩
        have be5 : Below wr.heap.size wr w5 := be2.trans (hb5.mono be2.size)
        have hj5 := hJ pre _ w5 hj (ItStep.of_below be5 hwz hMj)
        obtain ⟨fn, tmps, assign, body, hy, hR⟩ := hY pre _ _ hj5 (Nat.le_trans hwz be5.size) Hp2.out
        have hy2 : (Instr.yield l #[.int .i32 (Vm.aloneI (Vm.unitO enc b k)), .int .i64 2]).run Tryd.prog w5 = .ok (.round l fn tmps assign body) w5 := hy
        clear hy
        gi_wp2
        refine (roundIn_any none hR).mono ?_
        rintro e W3 (⟨rfl, hJ3, hk3⟩ | ⟨rfl, hJx3, hkx⟩)
        · gi_wp2
          have hz3 := hk3.size
          have := be5.size
          refine ⟨⟨k + 2, _, by omega, by go_num, Hs2.out, hJ3, by omega⟩, by simp [intOf]; omega⟩
        · gi_wp2
          dsimp only [Exit.noGoto]
          refine bodyPost_ret (results_none rfl _ _ _) rfl ?_
          exact ⟨⟨_, rfl⟩, .inr ⟨_, ⟨_, Hs2.out.symm⟩, hJx3⟩⟩
      · by_cases hA2 : 56319 < Vm.unitO enc b k
        · have hhead := Vm.unit_lone he hlt (by unfold Vm.isPair; omega)
          obtain ⟨hp2, hs2⟩ := Vm.sg_next Hs.out hhead
          have Hs2 := hide hs2
          have Hp2 := hide hp2
          clear hs2 hp2 hhead
          gi_wp2_with fail
          refine ⟨trivial, (callsIn_wide.2 (unit_int b _ _ _ hb (by omega) (by omega) he (hte.below be1))).mono ?_⟩
          rintro e w2 ⟨rfl, hb2⟩
          rw [Int.toNat_natCast]
          have be2 : Below wr.heap.size wr w2 := be1.trans (hb2.mono be1.size)
          gi_wp2_with fail
          refine ⟨trivial, (callsIn_wide.2 (alone_any _ _ (hth.below be2))).mono ?_⟩
          rintro e w5 ⟨rfl, hb5⟩
          have be5 : Below wr.heap.size wr w5 := be2.trans (hb5.mono be2.size)
          have hj5 := hJ pre _ w5 hj (ItStep.of_below be5 hwz hMj)
          obtain ⟨fn, tmps, assign, body, hy, hR⟩ := hY pre _ _ hj5 (Nat.le_trans hwz be5.size) Hp2.out
          have hy2 : (Instr.yield l #[.int .i32 (Vm.aloneI (Vm.unitO enc b k)), .int .i64 2]).run Tryd.prog w5 = .ok (.round l fn tmps assign body) w5 := hy
          clear hy
          gi_wp2
          refine (roundIn_any none hR).mono ?_
          rintro e W3 (⟨rfl, hJ3, hk3⟩ | ⟨rfl, hJx3, hkx⟩)
          · gi_wp2
            have hz3 := hk3.size
            have := be5.size
            refine ⟨⟨k + 2, _, by omega, by go_num, Hs2.out, hJ3, by omega⟩, by simp [intOf]; omega⟩
          · gi_wp2
            dsimp only [Exit.noGoto]
            refine bodyPost_ret (results_none rfl _ _ _) rfl ?_
            exact ⟨⟨_, rfl⟩, .inr ⟨_, ⟨_, Hs2.out.symm⟩, hJx3⟩⟩
        · have hA3 : ¬ Vm.unitO enc b k < 55296 := hA1
          gi_wp2
          rw [roundsIn_succ]
          gi_wp2_with fail
          have be2 : Below wr.heap.size wr (w1.alloc (Obj.cells #[Value.int IntKind.i32 56320, Value.int IntKind.i32 57343] 174)) := be1.alloc be1.size _
          refine ⟨trivial, (callsIn_wide.2 (unit_int b _ _ _ hb (by omega) (by omega) he (hte.below be2))).mono ?_⟩
          rintro e w3 ⟨rfl, hb3⟩
          rw [show ((k : Int) + 2).toNat = k + 2 from by omega]
          have be3 : Below wr.heap.size wr w3 := be2.trans (hb3.mono be2.size)
          have d2 : w3.cell? ⟨w1.heap.size, 0, none⟩ = some (.int .i32 56320) := (hb3.cell (p := ⟨w1.heap.size, 0, none⟩) (by simp)).trans (by simp)
          have d3 : w3.cell? ⟨w1.heap.size, 1, none⟩ = some (.int .i32 57343) := (hb3.cell (p := ⟨w1.heap.size, 1, none⟩) (by simp)).trans (by simp)
          by_cases hB1 : Vm.unitO enc b (k + 2) < 56320
          · have hhead := Vm.unit_lone he hlt (by unfold Vm.isPair; omega)
            obtain ⟨hp2, hs2⟩ := Vm.sg_next Hs.out hhead
            have Hs2 := hide hs2
            have Hp2 := hide hp2
            clear hs2 hp2 hhead
            gi_wp2_with fail
            refine ⟨trivial, (callsIn_wide.2 (unit_int b _ _ _ hb (by omega) (by omega) he (hte.below be3))).mono ?_⟩
            rintro e w4 ⟨rfl, hb4⟩
            rw [Int.toNat_natCast]
            have be4 : Below wr.heap.size wr w4 := be3.trans (hb4.mono be3.size)
            gi_wp2_with fail
            refine ⟨trivial, (callsIn_wide.2 (alone_any _ _ (hth.below be4))).mono ?_⟩
            rintro e w5 ⟨rfl, hb5⟩
            have be5 : Below wr.heap.size wr w5 := be4.trans (hb5.mono be4.size)
            have hj5 := hJ pre _ w5 hj (ItStep.of_below be5 hwz hMj)
            obtain ⟨fn, tmps, assign, body, hy, hR⟩ := hY pre _ _ hj5 (Nat.le_trans hwz be5.size) Hp2.out
            have hy2 : (Instr.yield l #[.int .i32 (Vm.aloneI (Vm.unitO enc b k)), .int .i64 2]).run Tryd.prog w5 = .ok (.round l fn tmps assign body) w5 := hy
            clear hy
            gi_wp2
            refine (roundIn_any none hR).mono ?_
            rintro e W3 (⟨rfl, hJ3, hk3⟩ | ⟨rfl, hJx3, hkx⟩)
            · gi_wp2
              have hz3 := hk3.size
              have := be5.size
              refine ⟨⟨k + 2, _, by omega, by go_num, Hs2.out, hJ3, by omega⟩, by simp [intOf]; omega⟩
            · gi_wp2
              dsimp only [Exit.noGoto]
              refine bodyPost_ret (results_none rfl _ _ _) rfl ?_
              exact ⟨⟨_, rfl⟩, .inr ⟨_, ⟨_, Hs2.out.symm⟩, hJx3⟩⟩
          · by_cases hB2 : 57343 < Vm.unitO enc b (k + 2)
            · have hhead := Vm.unit_lone he hlt (by unfold Vm.isPair; omega)
              obtain ⟨hp2, hs2⟩ := Vm.sg_next Hs.out hhead
              have Hs2 := hide hs2
              have Hp2 := hide hp2
              clear hs2 hp2 hhead
              gi_wp2_with fail
              refine ⟨trivial, (callsIn_wide.2 (unit_int b _ _ _ hb (by omega) (by omega) he (hte.below be3))).mono ?_⟩
              rintro e w4 ⟨rfl, hb4⟩
              rw [Int.toNat_natCast]
              have be4 : Below wr.heap.size wr w4 := be3.trans (hb4.mono be3.size)
              gi_wp2_with fail
              refine ⟨trivial, (callsIn_wide.2 (alone_any _ _ (hth.below be4))).mono ?_⟩
              rintro e w5 ⟨rfl, hb5⟩
              have be5 : Below wr.heap.size wr w5 := be4.trans (hb5.mono be4.size)
              have hj5 := hJ pre _ w5 hj (ItStep.of_below be5 hwz hMj)
              obtain ⟨fn, tmps, assign, body, hy, hR⟩ := hY pre _ _ hj5 (Nat.le_trans hwz be5.size) Hp2.out
              have hy2 : (Instr.yield l #[.int .i32 (Vm.aloneI (Vm.unitO enc b k)), .int .i64 2]).run Tryd.prog w5 = .ok (.round l fn tmps assign body) w5 := hy
              clear hy
              gi_wp2
              refine (roundIn_any none hR).mono ?_
              rintro e W3 (⟨rfl, hJ3, hk3⟩ | ⟨rfl, hJx3, hkx⟩)
              · gi_wp2
                have hz3 := hk3.size
                have := be5.size
                refine ⟨⟨k + 2, _, by omega, by go_num, Hs2.out, hJ3, by omega⟩, by simp [intOf]; omega⟩
              · gi_wp2
                dsimp only [Exit.noGoto]
                refine bodyPost_ret (results_none rfl _ _ _) rfl ?_
                exact ⟨⟨_, rfl⟩, .inr ⟨_, ⟨_, Hs2.out.symm⟩, hJx3⟩⟩
            · obtain ⟨hhead, hlt3⟩ := Vm.unit_pair he hlt (by unfold Vm.isPair; omega)
              obtain ⟨hp2, hs2⟩ := Vm.sg_next Hs.out hhead
              have Hs2 := hide hs2
              have Hp2 := hide hp2
              clear hs2 hp2 hhead
              have hbits : bits BinOp.or IntKind.i32 ((Vm.unitO enc b k - 55296) * 1024) (Vm.unitO enc b (k + 2) - 56320) = 1024 * (Vm.unitO enc b k - 55296) + (Vm.unitO enc b (k + 2) - 56320) := pair_bits _ _ (by omega) (by omega) (by omega) (by omega)
              gi_wp2
              rw [roundsIn_succ]
              have hj5 := hJ pre _ w3 hj (ItStep.of_below be3 hwz hMj)
              obtain ⟨fn, tmps, assign, body, hy, hR⟩ := hY pre _ _ hj5 (Nat.le_trans hwz be3.size) Hp2.out
              have hy2 : (Instr.yield l #[.int .i32 (65536 + (1024 * (Vm.unitO enc b k - 55296) + (Vm.unitO enc b (k + 2) - 56320))), .int .i64 4]).run Tryd.prog w3 = .ok (.round l fn tmps assign body) w3 := by
                rw [← Int.add_assoc]; exact hy
              clear hy
              gi_wp2
              refine (roundIn_any none hR).mono ?_
              rintro e W3 (⟨rfl, hJ3, hk3⟩ | ⟨rfl, hJx3, hkx⟩)
              · gi_wp2
                have hz3 := hk3.size
                have := be3.size
                refine ⟨⟨k + 4, _, by omega, by go_num, Hs2.out, hJ3, by omega⟩, by simp [intOf]; omega⟩
              · gi_wp2
                dsimp only [Exit.noGoto]
                refine bodyPost_ret (results_none rfl _ _ _) rfl ?_
                exact ⟨⟨_, rfl⟩, .inr ⟨_, ⟨_, Hs2.out.symm⟩, hJx3⟩⟩
    · have hx := Vm.sg_end hs (Vm.unit_none he (by omega))
      have Hs := hide hx
      clear hx hs
      gi_wp2
      dsimp only [Exit.noGoto]
      go_end0
      exact ⟨⟨_, rfl⟩, .inl (by rw [Hs.out]; exact hj)⟩
end Go.Proofs.YtjbfgnhkgjigpaaDoor

namespace Go.Proofs.YtjbfgnhkgjigpaaDoor
open Go.RowKit Go.Shelf Go.Vit
attribute [local go_sem] Oper.semAt_some

/-- The three tables, in memory. -/
structure Tabs (w : World) : Prop where
  seq : TabSeq w
  half : TabHalf w
  enc : TabEnc w
theorem Tabs.below {w w' : World} (h : Tabs w) (hb : Below w.heap.size w w') : Tabs w' := ⟨h.seq.below hb, h.half.below hb, h.enc.below hb⟩

set_option maxHeartbeats 400000 in
theorem signs1_it (b : ByteArray) (enc : Int) (Be Bb : Nat) (hb : b.size ≤ 1099511627776) (h0 : 0 ≤ enc) (h3 : enc ≤ 3) :
    Iters Tryd.prog 97 #[.pointer (some ⟨Be, 0, none⟩), .pointer (some ⟨Bb, 0, none⟩)] encSg (Vm.signs enc b.data.toList)
      (fun w => Tabs w ∧ w.cell? ⟨Be, 0, none⟩ = some (.int .i64 enc) ∧ w.cell? ⟨Bb, 0, none⟩ = some (.string b)) := by
  intro M l J Jx W hM hJ hJx hN hY hj
  obtain ⟨ht, ce, cb⟩ := (hN _ _ hj).1
  have hbm : b.size ≤ maxLen := by unfold maxLen; omega
  refine (callsIn_wide (n := 3)).1 ?_
  refine callsIn_of_wp Tryd.func97 rfl trivial ?_ rfl
  simp only [Tryd.ntmps97, List.size_toArray, List.length_cons, List.length_nil, Nat.reduceAdd, Nat.reduceSub, Array.replicate_succ, Array.replicate_zero, List.push_toArray, List.append_toArray, List.nil_append, List.cons_append]
  by_cases e0 : enc = 0
  · subst e0
    gi_wp2_with fail
    refine ⟨trivial, (callsIn_wide.2 (readSequences_it b hbm M l J Jx W hM hJ hJx (fun s A h => ⟨(hN s A h).1.1.seq, (hN s A h).2⟩) hY hj)).mono ?_⟩
    rintro e W2 ⟨⟨v, rfl⟩, hd⟩
    gi_wp2
    go_end0
    exact ⟨⟨_, rfl⟩, hd⟩
  · by_cases e3 : enc = 3
    · subst e3
      gi_wp2_with fail
      refine ⟨trivial, (callsIn_wide.2 (readSingles_it b hbm M l J Jx W hM hJ hJx (fun s A h => ⟨trivial, (hN s A h).2⟩) hY hj)).mono ?_⟩
      rintro e W2 ⟨⟨v, rfl⟩, hd⟩
      gi_wp2
      go_end0
      exact ⟨⟨_, rfl⟩, hd⟩
    · have e0' : (enc == 0) = false := by simpa using e0
      have e3' : (enc == 3) = false := by simpa using e3
      clear e0 e3
      gi_wp2_with fail
      refine ⟨trivial, (callsIn_wide.2 (readUnits_it b enc hb (by simp at e0' e3'; omega) M l J Jx W hM hJ hJx (fun s A h => ⟨⟨(hN s A h).1.1.half, (hN s A h).1.1.enc⟩, (hN s A h).2⟩) hY hj)).mono ?_⟩
      rintro e W2 ⟨⟨v, rfl⟩, hd⟩
      gi_wp2
      go_end0
      exact ⟨⟨_, rfl⟩, hd⟩

def encAt (x : Vm.At) : Array Value := #[.agg #[.int .i64 x.1, .int .i32 x.2.1, .int .i64 x.2.2]]

set_option maxHeartbeats 400000 in
theorem single_any (c : Int) (s : Int) (w : World) :
    Calls Tryd.prog 88 #[.int .i32 c, .int .i64 s] w fun e w' => e = .returned (if c = -1 then .agg #[.int .i64 4, .int .i32 65533, .int .i64 s] else if c = 10 then .agg #[.int .i64 0, .int .i32 10, .int .i64 s] else .agg #[.int .i64 3, .int .i32 c, .int .i64 s]) ∧ Below w.heap.size w w' := by
  by_cases h1 : c = -1
  · subst h1
    go_enter Tryd.func88, Tryd.ntmps88
    go_wp2
    exact bodyPost_ret (v := .agg #[.int .i64 4, .int .i32 65533, .int .i64 s]) (by simp [results, Tryd.results88, go_sem]) rfl ⟨rfl, (Below.refl _ _).alloc (Nat.le_refl _) _⟩
  · rw [if_neg h1]
    have h1' : (c == -1) = false := by simpa using h1
    clear h1
    by_cases h2 : c = 10
    · subst h2
      go_enter Tryd.func88, Tryd.ntmps88
      go_wp2
      exact bodyPost_ret (v := .agg #[.int .i64 0, .int .i32 10, .int .i64 s]) (by simp [results, Tryd.results88, go_sem]) rfl ⟨rfl, (Below.refl _ _).alloc (Nat.le_refl _) _⟩
    · rw [if_neg h2]
      have h2' : (c == 10) = false := by simpa using h2
      clear h2
      go_enter Tryd.func88, Tryd.ntmps88
      go_wp2
      exact bodyPost_ret (v := .agg #[.int .i64 3, .int .i32 c, .int .i64 s]) (by simp [results, Tryd.results88, go_sem]) rfl ⟨rfl, (Below.refl _ _).alloc (Nat.le_refl _) _⟩
theorem single_at (x : Vm.Sg) (w : World) :
    Calls Tryd.prog 88 #[.int .i32 x.1, .int .i64 x.2] w fun e w' => e = .returned (.agg #[.int .i64 (Vm.singleA x).1, .int .i32 (Vm.singleA x).2.1, .int .i64 (Vm.singleA x).2.2]) ∧ Below w.heap.size w w' := by
  refine (single_any x.1 x.2 w).mono ?_
  rintro e w' ⟨rfl, hb⟩
  refine ⟨?_, hb⟩
  unfold Vm.singleA
  split
  · rfl
  · split <;> rfl

/-- A maker of an iterator: two boxes and the closure. -/
theorem signs_any (enc : Int) (b : ByteArray) (w : World) :
    Calls Tryd.prog 87 #[.int .i64 enc, .string b] w fun e w' => e = .returned (.func (.func 97) #[] #[.pointer (some ⟨w.heap.size, 0, none⟩), .pointer (some ⟨w.heap.size + 1, 0, none⟩)]) ∧
      w' = (w.alloc (.cells #[.int .i64 enc] 3)).alloc (.cells #[.string b] 9) := by
  go_enter Tryd.func87, Tryd.ntmps87
  go_wp2
  go_ret
  exact ⟨rfl, rfl⟩
theorem atoms_any (enc : Int) (b : ByteArray) (w : World) :
    Calls Tryd.prog 73 #[.int .i64 enc, .string b] w fun e w' => e = .returned (.func (.func 86) #[] #[.pointer (some ⟨w.heap.size, 0, none⟩), .pointer (some ⟨w.heap.size + 1, 0, none⟩)]) ∧
      w' = (w.alloc (.cells #[.int .i64 enc] 3)).alloc (.cells #[.string b] 9) := by
  go_enter Tryd.func73, Tryd.ntmps73
  go_wp2
  go_ret
  exact ⟨rfl, rfl⟩
end Go.Proofs.YtjbfgnhkgjigpaaDoor

namespace Go.Proofs.YtjbfgnhkgjigpaaDoor
open Go.RowKit Go.Shelf Go.Vit
attribute [local go_sem] Oper.semAt_some

/-- The iterator's own four boxes, from Z on. -/
structure Bx (M : World → Nat → Prop) (Z l : Nat) (enc : Int) (b : ByteArray) (h : Nat) (w : World) : Prop where
  sz : Z + 4 ≤ w.heap.size
  held : w.cell? ⟨Z + 1, 0, none⟩ = some (.int .i64 h)
  fz : w.frozen? ⟨Z + 1, 0, none⟩ = false
  y : w.cell? ⟨Z, 0, none⟩ = some (.func (.yield l) #[] #[])
  e : w.cell? ⟨Z + 2, 0, none⟩ = some (.int .i64 enc)
  b : w.cell? ⟨Z + 3, 0, none⟩ = some (.string b)
  nm : ∀ k, Z ≤ k → k < Z + 4 → ¬ M w k

variable {M : World → Nat → Prop} {Z l : Nat} {enc : Int} {b : ByteArray} {h : Nat} {w w' : World}

theorem Bx.kept (B : Bx M Z l enc b h w) (hs : w.heap.size ≤ w'.heap.size) (hk : ∀ k, Z ≤ k → k < Z + 4 → w'.heap[k]? = w.heap[k]?) (hm : ∀ k, Z ≤ k → k < Z + 4 → ¬ M w' k) : Bx M Z l enc b h w' :=
  ⟨Nat.le_trans B.sz hs, (World.cell?_of_block (w := w) (hk (Z + 1) (by omega) (by omega))).trans B.held, (World.frozen?_of_block (w := w) (hk (Z + 1) (by omega) (by omega))).trans B.fz, (World.cell?_of_block (w := w) (hk Z (by omega) (by omega))).trans B.y,
    (World.cell?_of_block (w := w) (hk (Z + 2) (by omega) (by omega))).trans B.e, (World.cell?_of_block (w := w) (hk (Z + 3) (by omega) (by omega))).trans B.b, hm⟩
theorem Bx.it (B : Bx M Z l enc b h w) (hM : MLow M Z) {lo : Nat} (hlo : Z + 4 ≤ lo) (st : ItStep M lo w w') : Bx M Z l enc b h w' :=
  B.kept st.size (fun k _ h2 => st.low k (by omega)) (fun k h1 h2 hm => B.nm k h1 h2 (st.same (hM.of (by omega)) k hm))
theorem Bx.body (B : Bx M Z l enc b h w) (st : BodyStep M Z w w') : Bx M Z l enc b h w' :=
  B.kept st.size (fun k h1 h2 => st.keep k h1 (by have := B.sz; omega) (B.nm k h1 h2)) (fun k h1 h2 hm => by
    have := B.sz
    rcases st.new k hm with x | x | x
    · omega
    · exact B.nm k h1 h2 x
    · omega)
theorem Bx.set (B : Bx M Z l enc b h w) (hM : MLow M Z) (h' : Nat) : Bx M Z l enc b h' (w.setCell ⟨Z + 1, 0, none⟩ (.int .i64 h')) := by
  have hc : ∀ o, o ≠ Z + 1 → (w.setCell ⟨Z + 1, 0, none⟩ (.int .i64 h')).cell? ⟨o, 0, none⟩ = w.cell? ⟨o, 0, none⟩ := fun o ho => World.cell?_of_block (w := w) (Below.heap_setCell _ _ _ _ ho)
  refine ⟨by simpa [World.setCell] using B.sz, World.cell?_setCell_same' _ _ _ (by rw [B.held]; rfl), by rw [World.frozen?_setCell]; exact B.fz, (hc _ (by omega)).trans B.y, (hc _ (by omega)).trans B.e, (hc _ (by omega)).trans B.b, ?_⟩
  intro k h1 h2 hm
  exact B.nm k h1 h2 (hM _ _ (fun j hj => Below.heap_setCell _ _ _ _ (show j ≠ Z + 1 by omega)) k hm)
theorem Bx.step (B : Bx M Z l enc b h w) (v : Value) : ItStep M Z w (w.setCell ⟨Z + 1, 0, none⟩ v) := ItStep.setCell w (show Z ≤ Z + 1 by omega) (B.nm (Z + 1) (by omega) (by omega)) v

theorem kept_at {lo k : Nat} (st : BodyStep M lo w w') (h1 : lo ≤ k) (h2 : k < w.heap.size) (h3 : ¬ M w k) : w'.heap[k]? = w.heap[k]? ∧ ¬ M w' k :=
  ⟨st.keep k h1 h2 h3, fun hm => by
    rcases st.new k hm with x | x | x
    · omega
    · exact h3 x
    · omega⟩

/-- What holds between two signs. -/
def AtI (M : World → Nat → Prop) (Z l : Nat) (enc : Int) (b : ByteArray) (J : List Vm.At → World → Prop) (pre : List Vm.Sg) (w : World) : Prop :=
  ∃ out h, Vm.Told pre out h ∧ h ≤ 4 ∧ J out w ∧ Bx M Z l enc b h w

set_option maxHeartbeats 4000000 in
theorem atoms1_it (b : ByteArray) (enc : Int) (Be Bb : Nat) (hb : b.size ≤ 1099511627776) (h0 : 0 ≤ enc) (h3 : enc ≤ 3) :
    Iters Tryd.prog 86 #[.pointer (some ⟨Be, 0, none⟩), .pointer (some ⟨Bb, 0, none⟩)] encAt (Vm.atoms enc b.data.toList)
      (fun w => Tabs w ∧ w.cell? ⟨Be, 0, none⟩ = some (.int .i64 enc) ∧ w.cell? ⟨Bb, 0, none⟩ = some (.string b)) := by
  intro M l J Jx W hM hJ hJx hN hY hj
  have hfo : Tryd.prog.follows Departure.mixedOrders = true := by kernel_rfl
  obtain ⟨ht, ce, cb⟩ := (hN _ _ hj).1
  have hM0 := (hN _ _ hj).2
  have hze := block_lt ce
  have hzb := block_lt cb
  refine (callsIn_wide (n := 9)).1 ?_
  refine callsIn_of_wp_marks Tryd.func86 rfl trivial ?_ rfl
  simp only [Tryd.ntmps86, List.size_toArray, List.length_cons, List.length_nil, Nat.reduceAdd, Nat.reduceSub, Array.replicate_succ, Array.replicate_zero, List.push_toArray, List.append_toArray, List.nil_append, List.cons_append]
  gi_wp2_with fail
  refine ⟨trivial, (callsIn_wide.2 (signs_any _ _ _)).mono ?_⟩
  rintro e w1 ⟨rfl, hw1⟩
  simp only [World.size_alloc] at hw1 ⊢
  have hs1 : w1.heap.size = W.heap.size + 4 := by rw [hw1]; simp
  have hb1 : Below W.heap.size W w1 := by
    rw [hw1]; exact ((((Below.refl _ W).alloc (Nat.le_refl _) _).alloc (by simp) _).alloc (by simp; omega) _).alloc (by simp; omega) _
  have cy : w1.cell? ⟨W.heap.size, 0, none⟩ = some (.func (.yield l) #[] #[]) := by rw [hw1]; simp [go_sem]
  have ch : w1.cell? ⟨W.heap.size + 1, 0, none⟩ = some (.int .i64 ((0 : Nat) : Int)) := by rw [hw1]; simp [go_sem]
  have cf : w1.frozen? ⟨W.heap.size + 1, 0, none⟩ = false := by rw [hw1]; simp [go_sem]
  have c2 : w1.cell? ⟨W.heap.size + 2, 0, none⟩ = some (.int .i64 enc) := by rw [hw1]; simp [go_sem]
  have c3 : w1.cell? ⟨W.heap.size + 3, 0, none⟩ = some (.string b) := by rw [hw1]; simp [go_sem]
  clear hw1
  have st1 : ItStep M W.heap.size W w1 := ItStep.of_below hb1 (Nat.le_refl _) hM0
  have nm1 : ∀ k, W.heap.size ≤ k → k < W.heap.size + 4 → ¬ M w1 k := fun k h _ hm => by have := hM0 k (st1.same hM k hm); omega
  have hI0 : AtI M W.heap.size l enc b J [] w1 := ⟨[], 0, Vm.Told.nil, by omega, hJ _ _ _ hj st1, by omega, ch, cf, cy, c2, c3, nm1⟩
  have hsl : W.heap.size + 4 ≤ w1.heap.size := by omega
  have hsu : w1.heap.size ≤ W.heap.size + 4 := by omega
  clear hs1
  gi_wp2
  refine wp_range1 (gf := 97) rfl (enters_of Tryd.func97 (by kernel_rfl) rfl) (signs1_it b enc _ _ hb h0 h3) (fun _ => rfl) M (hM.of (by omega))
    (AtI M W.heap.size l enc b J) (fun c _ w => c = .ret ∧ ∃ out, out <+: Vm.atoms enc b.data.toList ∧ Jx out w) ?hI ?hIx ?hN hI0 ?a1 ?assign ?body ?done ?stop
  case hI =>
    rintro s A B ⟨out, h, t, h4, hjo, bx⟩ st
    exact ⟨out, h, t, h4, hJ _ _ _ hjo (st.mono (by omega)), bx.it hM (by omega) st⟩
  case hIx =>
    rintro c s A B ⟨hc, out, hp, hx⟩ st
    exact ⟨hc, out, hp, hJx _ _ _ hx (st.mono (by omega))⟩
  case hN =>
    rintro s A ⟨out, h, t, h4, hjo, bx⟩
    exact ⟨⟨(hN _ _ hjo).1.1, bx.e, bx.b⟩, (hN _ _ hjo).2⟩
  case assign =>
    intro l x W K hK
    dsimp only [encSg]
    gi_wp2
    exact hK
  case body =>
    rintro l2 pre x W2 hsz ⟨r, hr⟩ hl2 ⟨out, h, t, h4, hjo, bx⟩ hpre
    obtain ⟨hx1, hx4⟩ := Vm.signs_le hpre
    have ch := bx.held
    have cf := bx.fz
    have cy := bx.y
    obtain ⟨xc, xs⟩ := x
    simp only at hx1 hx4
    by_cases hh : 0 < h
    · by_cases h10 : xc = 10
      · subst h10
        have t2 := t.crlf hh (x := (10, xs)) rfl
        have hp2 : out ++ [(1, 10, xs + h)] <+: Vm.atoms enc b.data.toList := t2.pre hpre
        have bx2 : Bx M W.heap.size l enc b 0 (W2.setCell ⟨W.heap.size + 1, 0, none⟩ (.int .i64 0)) := bx.set hM 0
        have hj2 := hJ _ _ _ hjo (bx.step (.int .i64 0))
        have bs2 : BodyStep M w1.heap.size W2 (W2.setCell ⟨W.heap.size + 1, 0, none⟩ (.int .i64 0)) := BodyStep.setCell W2 (show W.heap.size + 1 < w1.heap.size by omega) _ (fun k hm => (bx.step _).same hM k hm)
        have cy2 := bx2.y
        obtain ⟨fn, tmps, assign, body, hy, hR⟩ := hY out _ _ hj2 (by have := bx2.sz; omega) hp2
        have hy2 : (Instr.yield l #[.agg #[.int .i64 1, .int .i32 10, .int .i64 ((xs : Int) + (h : Int))]]).run Tryd.prog (W2.setCell ⟨W.heap.size + 1, 0, none⟩ (.int .i64 0)) = .ok (.round l fn tmps assign body) (W2.setCell ⟨W.heap.size + 1, 0, none⟩ (.int .i64 0)) := by rw [← Int.natCast_add]; exact hy
        have T2 := hide t2
        have P2 := hide hp2
        clear hy t2 hp2
        gi_wp2
        refine (roundIn_any (some l2) hR).mono ?_
        rintro e W3 (⟨rfl, hJ3, hk3⟩ | ⟨rfl, hJx3, hkx⟩)
        · gi_wp2
          exact ⟨bs2.trans (hk3.mono (by omega)), _, _, T2.out, by omega, hJ3, bx2.body hk3⟩
        · gi_wp2
          exact ⟨bs2.trans (hkx.mono (by omega)), rfl, _, P2.out, hJx3⟩
      · have h10' : (xc == 10) = false := by simpa using h10
        have hp1 : out ++ [(2, 10, h)] <+: Vm.atoms enc b.data.toList := t.pre_cr hh (x := (xc, xs)) h10 hpre
        obtain ⟨fn, tmps, assign, body, hy, hR⟩ := hY out _ _ hjo (by have := bx.sz; omega) hp1
        simp only [encAt] at hy
        have P1 := hide hp1
        have H10 := hide h10
        clear hp1 h10
        by_cases h13 : xc = 13
        · subst h13
          have t2 := t.cr2 hh (x := (13, xs)) rfl
          have T2 := hide t2
          clear t2
          gi_wp2
          refine (roundIn_any (some l2) hR).mono ?_
          rintro e W3 (⟨rfl, hJ3, hk3⟩ | ⟨rfl, hJx3, hkx⟩)
          · have bx1 := bx.body hk3
            have ch1 := bx1.held
            have cf1 := bx1.fz
            have bx2 : Bx M W.heap.size l enc b 0 (W3.setCell ⟨W.heap.size + 1, 0, none⟩ (.int .i64 0)) := bx1.set hM 0
            have bx3 := bx2.set hM xs
            have hj2 := hJ _ _ _ hJ3 (bx1.step (.int .i64 0))
            have hj3 := hJ _ _ _ hj2 (bx2.step (.int .i64 xs))
            have bs2 : BodyStep M w1.heap.size W2 (W3.setCell ⟨W.heap.size + 1, 0, none⟩ (.int .i64 0)) := (hk3.mono (by omega)).trans (BodyStep.setCell W3 (show W.heap.size + 1 < w1.heap.size by omega) _ (fun k hm => (bx1.step _).same hM k hm))
            have bs3 := bs2.trans (BodyStep.setCell _ (show (⟨W.heap.size + 1, 0, none⟩ : Addr).block < w1.heap.size by show W.heap.size + 1 < _; omega) (.int .i64 xs) (fun k hm => (bx2.step _).same hM k hm))
            gi_wp2
            exact ⟨bs3, _, _, T2.out, by omega, hj3, bx3⟩
          · gi_wp2
            exact ⟨hkx.mono (by omega), rfl, _, P1.out, hJx3⟩
        · have h13' : (xc == 13) = false := by simpa using h13
          have t2 := t.one2 hh (x := (xc, xs)) h13 H10.out
          have hp2 : out ++ [(2, 10, h)] ++ [Vm.singleA (xc, xs)] <+: Vm.atoms enc b.data.toList := t2.pre hpre
          have T2 := hide t2
          have P2 := hide hp2
          have H13 := hide h13
          clear t2 hp2 h13
          gi_wp2
          refine (roundIn_any (some l2) hR).mono ?_
          rintro e W3 (⟨rfl, hJ3, hk3⟩ | ⟨rfl, hJx3, hkx⟩)
          · have bx1 := bx.body hk3
            have ch1 := bx1.held
            have cf1 := bx1.fz
            have bx2 : Bx M W.heap.size l enc b 0 (W3.setCell ⟨W.heap.size + 1, 0, none⟩ (.int .i64 0)) := bx1.set hM 0
            have hj2 := hJ _ _ _ hJ3 (bx1.step (.int .i64 0))
            have bs2 : BodyStep M w1.heap.size W2 (W3.setCell ⟨W.heap.size + 1, 0, none⟩ (.int .i64 0)) := (hk3.mono (by omega)).trans (BodyStep.setCell W3 (show W.heap.size + 1 < w1.heap.size by omega) _ (fun k hm => (bx1.step _).same hM k hm))
            have cy2 := bx2.y
            clear hR hy
            gi_wp2
            generalize hw3 : W3.setCell ⟨W.heap.size + 1, 0, none⟩ (.int .i64 0) = w3 at *
            have HW := hide hw3
            clear hw3
            have hM3 := (hN _ _ hj2).2
            have hs8 : ∀ w, CallsIn (Fence.wide.inRound l2) 6 Tryd.prog 88 #[.int .i32 xc, .int .i64 (xs : Int)] w fun e w' => e = .returned (.agg #[.int .i64 (Vm.singleA (xc, xs)).1, .int .i32 (Vm.singleA (xc, xs)).2.1, .int .i64 ((Vm.singleA (xc, xs)).2.2 : Nat)]) ∧ Below w.heap.size w w' :=
              fun w => CallsIn.inRound l2 (callsIn_wide.2 (single_at (xc, xs) w))
            have hnx : ∀ w4, Below w3.heap.size w3.drew w4 → Bx M W.heap.size l enc b 0 w4 ∧ BodyStep M w1.heap.size w3 w4 ∧ ∃ fn tmps assign body, (Instr.yield l #[.agg #[.int .i64 (Vm.singleA (xc, xs)).1, .int .i32 (Vm.singleA (xc, xs)).2.1, .int .i64 ((Vm.singleA (xc, xs)).2.2 : Nat)]]).run Tryd.prog w4 = .ok (.round l fn tmps assign body) w4 ∧
                RoundIn (Fence.wide.inRound l2) 6 Tryd.prog l fn tmps assign body w4 fun e W' => ∃ q : Bool, e = .returned (.bool q) ∧ Hid ((q = true ∧ (J (out ++ [(2, 10, h)] ++ [Vm.singleA (xc, xs)]) W' ∧ BodyStep M W.heap.size w4 W')) ∨ (q = false ∧ (Jx (out ++ [(2, 10, h)] ++ [Vm.singleA (xc, xs)]) W' ∧ BodyStep M W.heap.size w4 W'))) := fun w4 hb4 => by
              have be4 := below_drew1 hb4
              have bx4 := bx2.it hM (Nat.le_refl _) (ItStep.of_below be4 bx2.sz hM3)
              have hj4 := hJ _ _ _ hj2 (ItStep.of_below be4 (by have := bx2.sz; omega) hM3)
              obtain ⟨fn, tmps, assign, body, hy4, hR⟩ := hY (out ++ [(2, 10, h)]) _ _ hj4 (by have := bx4.sz; omega) P2.out
              exact ⟨bx4, BodyStep.of_below (hM.of (by omega)) be4 (by have := bx2.sz; omega), fn, tmps, assign, body, hy4, round_bool (some l2) _ hR⟩
            have HN := hide hnx
            clear hnx
            gi_region_with_o (first
              | (refine ⟨trivial, ?_⟩; gi_at_call 88; refine (hs8 _).mono ?_; rintro e w4 ⟨rfl, hb4⟩; obtain ⟨bx4, bs4, fn, tmps, assign, body, hy4, hR⟩ := HN.out w4 hb4; have cy4 := bx4.y)
              | (refine hR.mono ?_; rintro e W5 ⟨q, rfl, Hq⟩))
            all_goals
              rcases Hq.out with ⟨rfl, hJ5, hk5⟩ | ⟨rfl, hJx5, hkx5⟩
              · gi_wp2
                exact ⟨bs2.trans (bs4.trans (hk5.mono (by omega))), _, _, T2.out, by omega, hJ5, bx4.body hk5⟩
              · gi_wp2
                exact ⟨bs2.trans (bs4.trans (hkx5.mono (by omega))), rfl, _, P2.out, hJx5⟩
          · gi_wp2
            exact ⟨hkx.mono (by omega), rfl, _, P1.out, hJx3⟩
    · have hh0 : h = 0 := by omega
      subst hh0
      by_cases h13 : xc = 13
      · subst h13
        have t2 := t.cr rfl (x := (13, xs)) rfl
        have bx2 : Bx M W.heap.size l enc b 0 (W2.setCell ⟨W.heap.size + 1, 0, none⟩ (.int .i64 0)) := bx.set hM 0
        have bx3 := bx2.set hM xs
        have hj2 := hJ _ _ _ hjo (bx.step (.int .i64 0))
        have hj3 := hJ _ _ _ hj2 (bx2.step (.int .i64 xs))
        have bs2 : BodyStep M w1.heap.size W2 (W2.setCell ⟨W.heap.size + 1, 0, none⟩ (.int .i64 0)) := BodyStep.setCell W2 (show W.heap.size + 1 < w1.heap.size by omega) _ (fun k hm => (bx.step _).same hM k hm)
        have bs3 := bs2.trans (BodyStep.setCell _ (show (⟨W.heap.size + 1, 0, none⟩ : Addr).block < w1.heap.size by show W.heap.size + 1 < _; omega) (.int .i64 xs) (fun k hm => (bx2.step _).same hM k hm))
        have T2 := hide t2
        clear t2
        gi_wp2
        refine ⟨fun _ h => (by cases h), ?_⟩
        gi_wp2
        exact ⟨bs3, _, _, T2.out, by omega, hj3, bx3⟩
      · have h13' : (xc == 13) = false := by simpa using h13
        have t2 := t.one rfl (x := (xc, xs)) h13
        have hp2 : out ++ [Vm.singleA (xc, xs)] <+: Vm.atoms enc b.data.toList := t2.pre hpre
        have bx2 : Bx M W.heap.size l enc b 0 (W2.setCell ⟨W.heap.size + 1, 0, none⟩ (.int .i64 0)) := bx.set hM 0
        have hj2 := hJ _ _ _ hjo (bx.step (.int .i64 0))
        have bs2 : BodyStep M w1.heap.size W2 (W2.setCell ⟨W.heap.size + 1, 0, none⟩ (.int .i64 0)) := BodyStep.setCell W2 (show W.heap.size + 1 < w1.heap.size by omega) _ (fun k hm => (bx.step _).same hM k hm)
        have cy2 := bx2.y
        have T2 := hide t2
        have P2 := hide hp2
        have H13 := hide h13
        clear t2 hp2 h13
        gi_wp2
        refine ⟨fun _ h => (by cases h), ?_⟩
        gi_wp2
        generalize hw3 : W2.setCell ⟨W.heap.size + 1, 0, none⟩ (.int .i64 0) = w3 at *
        have HW := hide hw3
        clear hw3
        have hM3 := (hN _ _ hj2).2
        have hs8 : ∀ w, CallsIn (Fence.wide.inRound l2) 6 Tryd.prog 88 #[.int .i32 xc, .int .i64 (xs : Int)] w fun e w' => e = .returned (.agg #[.int .i64 (Vm.singleA (xc, xs)).1, .int .i32 (Vm.singleA (xc, xs)).2.1, .int .i64 ((Vm.singleA (xc, xs)).2.2 : Nat)]) ∧ Below w.heap.size w w' :=
          fun w => CallsIn.inRound l2 (callsIn_wide.2 (single_at (xc, xs) w))
        have hnx : ∀ w4, Below w3.heap.size w3.drew w4 → Bx M W.heap.size l enc b 0 w4 ∧ BodyStep M w1.heap.size w3 w4 ∧ ∃ fn tmps assign body, (Instr.yield l #[.agg #[.int .i64 (Vm.singleA (xc, xs)).1, .int .i32 (Vm.singleA (xc, xs)).2.1, .int .i64 ((Vm.singleA (xc, xs)).2.2 : Nat)]]).run Tryd.prog w4 = .ok (.round l fn tmps assign body) w4 ∧
            RoundIn (Fence.wide.inRound l2) 6 Tryd.prog l fn tmps assign body w4 fun e W' => ∃ q : Bool, e = .returned (.bool q) ∧ Hid ((q = true ∧ (J (out ++ [Vm.singleA (xc, xs)]) W' ∧ BodyStep M W.heap.size w4 W')) ∨ (q = false ∧ (Jx (out ++ [Vm.singleA (xc, xs)]) W' ∧ BodyStep M W.heap.size w4 W'))) := fun w4 hb4 => by
          have be4 := below_drew1 hb4
          have bx4 := bx2.it hM (Nat.le_refl _) (ItStep.of_below be4 bx2.sz hM3)
          have hj4 := hJ _ _ _ hj2 (ItStep.of_below be4 (by have := bx2.sz; omega) hM3)
          obtain ⟨fn, tmps, assign, body, hy4, hR⟩ := hY (out) _ _ hj4 (by have := bx4.sz; omega) P2.out
          exact ⟨bx4, BodyStep.of_below (hM.of (by omega)) be4 (by have := bx2.sz; omega), fn, tmps, assign, body, hy4, round_bool (some l2) _ hR⟩
        have HN := hide hnx
        clear hnx
        gi_region_with_o (first
          | (refine ⟨trivial, ?_⟩; gi_at_call 88; refine (hs8 _).mono ?_; rintro e w4 ⟨rfl, hb4⟩; obtain ⟨bx4, bs4, fn, tmps, assign, body, hy4, hR⟩ := HN.out w4 hb4; have cy4 := bx4.y)
          | (refine hR.mono ?_; rintro e W5 ⟨q, rfl, Hq⟩))
        all_goals
          rcases Hq.out with ⟨rfl, hJ5, hk5⟩ | ⟨rfl, hJx5, hkx5⟩
          · gi_wp2
            exact ⟨bs2.trans (bs4.trans (hk5.mono (by omega))), _, _, T2.out, by omega, hJ5, bx4.body hk5⟩
          · gi_wp2
            exact ⟨bs2.trans (bs4.trans (hkx5.mono (by omega))), rfl, _, P2.out, hJx5⟩
  case done =>
    rintro W2 hsz ⟨out, h, t, h4, hjo, bx⟩ hK hmK
    have ch := bx.held
    have cy := bx.y
    by_cases hh : 0 < h
    · have hall : Vm.atoms enc b.data.toList = out ++ [(2, 10, h)] := by have := t.all; rw [if_pos hh] at this; exact this
      obtain ⟨fn, tmps, assign, body, hy, hR⟩ := hY out (2, 10, h) _ hjo (by have := bx.sz; omega) (by rw [hall]; exact ⟨[], by simp⟩)
      simp only [encAt] at hy
      have HA := hide hall
      clear hall
      gi_wp2
      refine (roundIn_any none hR).mono ?_
      rintro e W3 (⟨rfl, hJ3, hk3⟩ | ⟨rfl, hJx3, hkx⟩)
      · obtain ⟨hK3, hm3⟩ := kept_at hk3 (show W.heap.size ≤ w1.heap.size by omega) hsz hmK
        rw [hK] at hK3
        gi_wp2
        refine ⟨by simp, .inl ⟨_, _, rfl, run_takeDeferred hK3, ?_⟩⟩
        exact ⟨_, results_none rfl _ _ _, ⟨_, rfl⟩, .inl (by rw [HA.out]; exact hJ _ _ _ hJ3 (ItStep.putObj _ (by omega) hm3))⟩
      · obtain ⟨hK3, hm3⟩ := kept_at hkx (show W.heap.size ≤ w1.heap.size by omega) hsz hmK
        rw [hK] at hK3
        gi_wp2
        refine ⟨by simp, .inl ⟨_, _, rfl, run_takeDeferred hK3, ?_⟩⟩
        exact ⟨_, results_none rfl _ _ _, ⟨_, rfl⟩, .inr ⟨_, ⟨[], by rw [HA.out]; simp⟩, hJx _ _ _ hJx3 (ItStep.putObj _ (by omega) hm3)⟩⟩
    · obtain rfl : h = 0 := by omega
      have hall : Vm.atoms enc b.data.toList = out := by have := t.all; rw [if_neg (by omega), List.append_nil] at this; exact this
      have HA := hide hall
      clear hall
      gi_wp2
      refine ⟨by simp, .inl ⟨_, _, rfl, run_takeDeferred hK, ?_⟩⟩
      exact ⟨_, results_none rfl _ _ _, ⟨_, rfl⟩, .inl (by rw [HA.out]; exact hJ _ _ _ hjo (ItStep.putObj _ (by omega) hmK))⟩
  case stop =>
    rintro c pre W2 hsz hpre ⟨rfl, out, hp, hjx⟩ hK hmK
    gi_wp2
    refine ⟨by simp, .inl ⟨_, _, rfl, run_takeDeferred hK, ?_⟩⟩
    exact ⟨_, results_none rfl _ _ _, ⟨_, rfl⟩, .inr ⟨_, hp, hJx _ _ _ hjx (ItStep.putObj _ (by omega) hmK)⟩⟩
end Go.Proofs.YtjbfgnhkgjigpaaDoor

namespace Go.Proofs.YtjbfgnhkgjigpaaDoor
open Go.Shelf Go.RowKit Go.Proofs

def ren : Go.Shelf.Ren := ⟨fun | 99 => 79 | 118 => 92 | 165 => 63 | 166 => 64 | 168 => 74 | 169 => 67 | 206 => 91 | 240 => 82 | 241 => 83 | 242 => 89 | 276 => 95 | 277 => 96 | 278 => 101 | n => n, fun | 0 => 0 | 3 => 3 | 4 => 4 | 5 => 5 | 9 => 9 | 20 => 20 | 21 => 21 | 37 => 70 | 46 => 58 | 51 => 166 | 70 => 108 | 72 => 110 | 75 => 113 | 127 => 141 | 164 => 160 | 80 => 46 | n => n, fun | n => n⟩
theorem lays240 : Go.Proofs.Lays.n240 Tryd.prog ren := {
  mixed := by kernel_rfl
  f240 := Tryd.func82.trans (congrArg some (by kernel_rfl))
  f276 := Tryd.func95.trans (congrArg some (by kernel_rfl))
  t0 := Tryd.underlying0
  a0 := Tryd.isAgg0
  z0 := Tryd.sizeOf0
  v0 := Tryd.zeroValue0
  t4 := Tryd.underlying4
  a4 := Tryd.isAgg4
  z4 := Tryd.sizeOf4
  v4 := Tryd.zeroValue4
  t9 := Tryd.underlying9
  a9 := Tryd.isAgg9
  z9 := Tryd.sizeOf9
  v9 := Tryd.zeroValue9
  t20 := Tryd.underlying20
  a20 := Tryd.isAgg20
  z20 := Tryd.sizeOf20
  v20 := Tryd.zeroValue20
  t70 := Tryd.underlying108
  a70 := Tryd.isAgg108
  z70 := Tryd.sizeOf108
  v70 := Tryd.zeroValue108
  t72 := Tryd.underlying110
  a72 := Tryd.isAgg110
  z72 := Tryd.sizeOf110
  v72 := Tryd.zeroValue110
  t164 := Tryd.underlying160
  a164 := Tryd.isAgg160
  z164 := Tryd.sizeOf160
  v164 := Tryd.zeroValue160 }
theorem lays165 : Go.Proofs.Lays.n165 Tryd.prog ren := {
  mixed := by kernel_rfl
  f165 := Tryd.func63.trans (congrArg some (by kernel_rfl))
  f240 := Tryd.func82.trans (congrArg some (by kernel_rfl))
  f241 := Tryd.func83.trans (congrArg some (by kernel_rfl))
  f276 := Tryd.func95.trans (congrArg some (by kernel_rfl))
  f277 := Tryd.func96.trans (congrArg some (by kernel_rfl))
  t0 := Tryd.underlying0
  a0 := Tryd.isAgg0
  z0 := Tryd.sizeOf0
  v0 := Tryd.zeroValue0
  t3 := Tryd.underlying3
  a3 := Tryd.isAgg3
  z3 := Tryd.sizeOf3
  v3 := Tryd.zeroValue3
  t4 := Tryd.underlying4
  a4 := Tryd.isAgg4
  z4 := Tryd.sizeOf4
  v4 := Tryd.zeroValue4
  t9 := Tryd.underlying9
  a9 := Tryd.isAgg9
  z9 := Tryd.sizeOf9
  v9 := Tryd.zeroValue9
  t20 := Tryd.underlying20
  a20 := Tryd.isAgg20
  z20 := Tryd.sizeOf20
  v20 := Tryd.zeroValue20
  t37 := Tryd.underlying70
  a37 := Tryd.isAgg70
  z37 := Tryd.sizeOf70
  v37 := Tryd.zeroValue70
  t70 := Tryd.underlying108
  a70 := Tryd.isAgg108
  z70 := Tryd.sizeOf108
  v70 := Tryd.zeroValue108
  t72 := Tryd.underlying110
  a72 := Tryd.isAgg110
  z72 := Tryd.sizeOf110
  v72 := Tryd.zeroValue110
  t164 := Tryd.underlying160
  a164 := Tryd.isAgg160
  z164 := Tryd.sizeOf160
  v164 := Tryd.zeroValue160 }
theorem lays166 : Go.Proofs.Lays.n166 Tryd.prog ren := {
  mixed := by kernel_rfl
  f166 := Tryd.func64.trans (congrArg some (by kernel_rfl))
  f240 := Tryd.func82.trans (congrArg some (by kernel_rfl))
  f276 := Tryd.func95.trans (congrArg some (by kernel_rfl))
  t0 := Tryd.underlying0
  a0 := Tryd.isAgg0
  z0 := Tryd.sizeOf0
  v0 := Tryd.zeroValue0
  t3 := Tryd.underlying3
  a3 := Tryd.isAgg3
  z3 := Tryd.sizeOf3
  v3 := Tryd.zeroValue3
  t4 := Tryd.underlying4
  a4 := Tryd.isAgg4
  z4 := Tryd.sizeOf4
  v4 := Tryd.zeroValue4
  t9 := Tryd.underlying9
  a9 := Tryd.isAgg9
  z9 := Tryd.sizeOf9
  v9 := Tryd.zeroValue9
  t20 := Tryd.underlying20
  a20 := Tryd.isAgg20
  z20 := Tryd.sizeOf20
  v20 := Tryd.zeroValue20
  t37 := Tryd.underlying70
  a37 := Tryd.isAgg70
  z37 := Tryd.sizeOf70
  v37 := Tryd.zeroValue70
  t70 := Tryd.underlying108
  a70 := Tryd.isAgg108
  z70 := Tryd.sizeOf108
  v70 := Tryd.zeroValue108
  t72 := Tryd.underlying110
  a72 := Tryd.isAgg110
  z72 := Tryd.sizeOf110
  v72 := Tryd.zeroValue110
  t75 := Tryd.underlying113
  a75 := Tryd.isAgg113
  z75 := Tryd.sizeOf113
  v75 := Tryd.zeroValue113
  t164 := Tryd.underlying160
  a164 := Tryd.isAgg160
  z164 := Tryd.sizeOf160
  v164 := Tryd.zeroValue160 }
theorem lays168 : Go.Proofs.Lays.n168 Tryd.prog ren := {
  mixed := by kernel_rfl
  f168 := Tryd.func74.trans (congrArg some (by kernel_rfl))
  f240 := Tryd.func82.trans (congrArg some (by kernel_rfl))
  f242 := Tryd.func89.trans (congrArg some (by kernel_rfl))
  f276 := Tryd.func95.trans (congrArg some (by kernel_rfl))
  f278 := Tryd.func101.trans (congrArg some (by kernel_rfl))
  t0 := Tryd.underlying0
  a0 := Tryd.isAgg0
  z0 := Tryd.sizeOf0
  v0 := Tryd.zeroValue0
  t3 := Tryd.underlying3
  a3 := Tryd.isAgg3
  z3 := Tryd.sizeOf3
  v3 := Tryd.zeroValue3
  t4 := Tryd.underlying4
  a4 := Tryd.isAgg4
  z4 := Tryd.sizeOf4
  v4 := Tryd.zeroValue4
  t5 := Tryd.underlying5
  a5 := Tryd.isAgg5
  z5 := Tryd.sizeOf5
  v5 := Tryd.zeroValue5
  t9 := Tryd.underlying9
  a9 := Tryd.isAgg9
  z9 := Tryd.sizeOf9
  v9 := Tryd.zeroValue9
  t20 := Tryd.underlying20
  a20 := Tryd.isAgg20
  z20 := Tryd.sizeOf20
  v20 := Tryd.zeroValue20
  t21 := Tryd.underlying21
  a21 := Tryd.isAgg21
  z21 := Tryd.sizeOf21
  v21 := Tryd.zeroValue21
  t37 := Tryd.underlying70
  a37 := Tryd.isAgg70
  z37 := Tryd.sizeOf70
  v37 := Tryd.zeroValue70
  t46 := Tryd.underlying58
  a46 := Tryd.isAgg58
  z46 := Tryd.sizeOf58
  v46 := Tryd.zeroValue58
  t51 := Tryd.underlying166
  a51 := Tryd.isAgg166
  z51 := Tryd.sizeOf166
  v51 := Tryd.zeroValue166
  t70 := Tryd.underlying108
  a70 := Tryd.isAgg108
  z70 := Tryd.sizeOf108
  v70 := Tryd.zeroValue108
  t72 := Tryd.underlying110
  a72 := Tryd.isAgg110
  z72 := Tryd.sizeOf110
  v72 := Tryd.zeroValue110
  t75 := Tryd.underlying113
  a75 := Tryd.isAgg113
  z75 := Tryd.sizeOf113
  v75 := Tryd.zeroValue113
  t164 := Tryd.underlying160
  a164 := Tryd.isAgg160
  z164 := Tryd.sizeOf160
  v164 := Tryd.zeroValue160 }
theorem lays169 : Go.Proofs.Lays.n169 Tryd.prog ren := {
  mixed := by kernel_rfl
  f169 := Tryd.func67.trans (congrArg some (by kernel_rfl))
  t0 := Tryd.underlying0
  a0 := Tryd.isAgg0
  z0 := Tryd.sizeOf0
  v0 := Tryd.zeroValue0
  t3 := Tryd.underlying3
  a3 := Tryd.isAgg3
  z3 := Tryd.sizeOf3
  v3 := Tryd.zeroValue3
  t9 := Tryd.underlying9
  a9 := Tryd.isAgg9
  z9 := Tryd.sizeOf9
  v9 := Tryd.zeroValue9
  t37 := Tryd.underlying70
  a37 := Tryd.isAgg70
  z37 := Tryd.sizeOf70
  v37 := Tryd.zeroValue70
  t70 := Tryd.underlying108
  a70 := Tryd.isAgg108
  z70 := Tryd.sizeOf108
  v70 := Tryd.zeroValue108
  t72 := Tryd.underlying110
  a72 := Tryd.isAgg110
  z72 := Tryd.sizeOf110
  v72 := Tryd.zeroValue110
  t127 := Tryd.underlying141
  a127 := Tryd.isAgg141
  z127 := Tryd.sizeOf141
  v127 := Tryd.zeroValue141 }
theorem lays118 : Go.Proofs.Lays.n118 Tryd.prog ren := {
  mixed := by kernel_rfl
  f118 := Tryd.func92.trans (congrArg some (by kernel_rfl))
  t3 := Tryd.underlying3
  a3 := Tryd.isAgg3
  z3 := Tryd.sizeOf3
  v3 := Tryd.zeroValue3
  t4 := Tryd.underlying4
  a4 := Tryd.isAgg4
  z4 := Tryd.sizeOf4
  v4 := Tryd.zeroValue4
  t21 := Tryd.underlying21
  a21 := Tryd.isAgg21
  z21 := Tryd.sizeOf21
  v21 := Tryd.zeroValue21 }
theorem lays99 : Go.Proofs.Lays.n99 Tryd.prog ren := {
  mixed := by kernel_rfl
  f99 := Tryd.func79.trans (congrArg some (by kernel_rfl))
  f206 := Tryd.func91.trans (congrArg some (by kernel_rfl))
  t3 := Tryd.underlying3
  a3 := Tryd.isAgg3
  z3 := Tryd.sizeOf3
  v3 := Tryd.zeroValue3
  t4 := Tryd.underlying4
  a4 := Tryd.isAgg4
  z4 := Tryd.sizeOf4
  v4 := Tryd.zeroValue4
  t9 := Tryd.underlying9
  a9 := Tryd.isAgg9
  z9 := Tryd.sizeOf9
  v9 := Tryd.zeroValue9 }
theorem lays242 : Go.Proofs.Lays.n242 Tryd.prog ren := {
  mixed := by kernel_rfl
  f242 := Tryd.func89.trans (congrArg some (by kernel_rfl))
  f278 := Tryd.func101.trans (congrArg some (by kernel_rfl))
  t4 := Tryd.underlying4
  a4 := Tryd.isAgg4
  z4 := Tryd.sizeOf4
  v4 := Tryd.zeroValue4
  t5 := Tryd.underlying5
  a5 := Tryd.isAgg5
  z5 := Tryd.sizeOf5
  v5 := Tryd.zeroValue5
  t21 := Tryd.underlying21
  a21 := Tryd.isAgg21
  z21 := Tryd.sizeOf21
  v21 := Tryd.zeroValue21
  t37 := Tryd.underlying70
  a37 := Tryd.isAgg70
  z37 := Tryd.sizeOf70
  v37 := Tryd.zeroValue70
  t46 := Tryd.underlying58
  a46 := Tryd.isAgg58
  z46 := Tryd.sizeOf58
  v46 := Tryd.zeroValue58
  t51 := Tryd.underlying166
  a51 := Tryd.isAgg166
  z51 := Tryd.sizeOf166
  v51 := Tryd.zeroValue166 }
theorem extraB : Builder.Extra Tryd.prog ren := {
  sizeBuilder := by kernel_rfl
  liesBuilder := by kernel_rfl
  t5 := Tryd.underlying5
  a5 := Tryd.isAgg5
  z5 := Tryd.sizeOf5
  v5 := Tryd.zeroValue5
  infoByte := by kernel_rfl
  cellsByte := by kernel_rfl
  sizeByte := by kernel_rfl
  neB5 := by decide }
end Go.Proofs.YtjbfgnhkgjigpaaDoor
