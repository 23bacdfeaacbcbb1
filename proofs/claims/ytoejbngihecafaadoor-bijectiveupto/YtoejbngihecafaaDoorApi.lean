import Derived.Test.YtoejbngihecafaaDoorKeep1
import Derived.Test.YtoejbngihecafaaDoorRef12
namespace Go.Proofs.YtoejbngihecafaaDoor
open Go.RowKit

/-- What Show answers. -/
def shown (enc : Int) (mark : Bool) (body : ByteArray) : Value :=
  .agg #[.int .i64 enc, .bool mark, .int .i64 (Vm.bytesA (Vm.atoms enc body.data.toList)), .int .i64 (Vm.atoms enc body.data.toList).length, .int .i64 (Vm.unitsA (Vm.atoms enc body.data.toList)),
    .int .i64 ((Vm.linesA (Vm.atoms enc body.data.toList) : Int) + 1), .int .i64 (Vm.cntK (Vm.atoms enc body.data.toList) 4), .bool (decide (Vm.sizeA (Vm.atoms enc body.data.toList) < body.size)),
    .int .i64 (Vm.endingOf (Vm.cntK (Vm.atoms enc body.data.toList) 0) (Vm.cntK (Vm.atoms enc body.data.toList) 1) (Vm.cntK (Vm.atoms enc body.data.toList) 2))]

/-- T: the tables lie; D: at a block lies the document of so much. -/
structure Api (T : World → Prop) (D : World → Nat → Int → Bool → ByteArray → Prop) : Prop where
  tab : ∀ {w w' : World}, T w → Below w.heap.size w w' → T w'
  low : ∀ {w w' : World} {p : Nat} {enc : Int} {mark : Bool} {body : ByteArray}, D w p enc mark body → Below w.heap.size w w' → D w' p enc mark body
  load : ∀ (b : ByteArray) (mode : Int) (w : World), T w → b.size ≤ 1099511627776 → 0 ≤ mode → mode ≤ 7 →
    Calls Tryd.prog 26 #[.string b, .int .i64 mode] w fun e w' => ∃ p, e = .returned (.tuple #[.pointer (some ⟨p, 0, none⟩), .int .i64 0]) ∧ D w' p (encOf b mode) (ofMark b (encOf b mode)) (ofBody b (encOf b mode)) ∧ Below w.heap.size w w'
  load_no : ∀ (b : ByteArray) (mode : Int) (w : World), T w → mode < 0 ∨ 7 < mode →
    Calls Tryd.prog 26 #[.string b, .int .i64 mode] w fun e w' => e = .returned (.tuple #[.pointer none, .int .i64 1]) ∧ Below w.heap.size w w'
  text : ∀ (p : Nat) (enc : Int) (mark : Bool) (body : ByteArray) (w : World), T w → D w p enc mark body →
    Calls Tryd.prog 24 #[.pointer (some ⟨p, 0, none⟩)] w fun e w' => e = .returned (.string (strOfNums (Vm.textL (Vm.atoms enc body.data.toList)))) ∧ Below w.heap.size w w'
  state : ∀ (p : Nat) (enc : Int) (mark : Bool) (body : ByteArray) (w : World), T w → D w p enc mark body →
    Calls Tryd.prog 20 #[.pointer (some ⟨p, 0, none⟩)] w fun e w' => e = .returned (shown enc mark body) ∧ Below w.heap.size w w'
  save : ∀ (p : Nat) (enc : Int) (mark : Bool) (body : ByteArray) (w : World), T w → D w p enc mark body →
    Calls Tryd.prog 18 #[.pointer (some ⟨p, 0, none⟩)] w fun e w' => e = .returned (.string (bytesOf enc mark body)) ∧ Below w.heap.size w w'
  stable : ∀ (p : Nat) (enc : Int) (mark : Bool) (body : ByteArray) (w : World), T w → D w p enc mark body →
    Calls Tryd.prog 28 #[.pointer (some ⟨p, 0, none⟩)] w fun e w' => e = .returned (.bool (stableB enc mark body)) ∧ Below w.heap.size w w'

/-- The document's first example. -/
def ex1 : ByteArray := ⟨#[97, 13, 10, 98, 255, 99, 13]⟩
theorem ex1_enc : encOf ex1 0 = 0 := by decide
theorem ex1_mark : ofMark ex1 0 = false := by decide
theorem ex1_body : ofBody ex1 0 = ex1 := by unfold ofBody; rw [ex1_mark]; rfl
theorem ex1_atoms : Vm.atoms 0 ex1.data.toList = [(3, 97, 1), (1, 10, 2), (3, 98, 1), (4, 65533, 1), (3, 99, 1), (2, 10, 1)] := by decide
theorem ex1_text : strOfNums (Vm.textL (Vm.atoms 0 ex1.data.toList)) = ⟨#[97, 10, 98, 239, 191, 189, 99, 10]⟩ := by rw [ex1_atoms]; decide
theorem ex1_save : bytesOf 0 false ex1 = ex1 := rfl
theorem ex1_shown : shown 0 false ex1 = .agg #[.int .i64 0, .bool false, .int .i64 8, .int .i64 6, .int .i64 6, .int .i64 3, .int .i64 1, .bool false, .int .i64 1] := by
  unfold shown; rw [ex1_atoms]; rfl

variable {T : World → Prop} {D : World → Nat → Int → Bool → ByteArray → Prop}
set_option maxRecDepth 100000 in
set_option maxHeartbeats 1000000 in
theorem known_any (api : Api T D) (w : World) (ht : T w) :
    Calls Tryd.prog 35 #[] w fun e w' => e = .returned (.bool true) ∧ Below w.heap.size w w' := by
  have h1 := api.load ex1 0
  rw [ex1_enc, ex1_mark, ex1_body] at h1
  have H1 := hide2 h1
  clear h1
  go_enter Tryd.func35, Tryd.ntmps35
  go_wp2_with fail
  refine (H1.out w ht (by decide) (by decide) (by decide)).mono ?_
  rintro e w1 ⟨p, rfl, hd1, hb1⟩
  have ht1 := api.tab ht hb1
  have h2 := api.text p 0 false ex1 w1 ht1 hd1
  rw [ex1_text] at h2
  have H2 := hide2 h2
  clear h2
  go_wp2_with fail
  refine H2.out.mono ?_
  rintro e w2 ⟨rfl, hb2⟩
  have ht2 := api.tab ht1 hb2
  have hd2 := api.low hd1 hb2
  have h3 := api.state p 0 false ex1 w2 ht2 hd2
  rw [ex1_shown] at h3
  have H3 := hide2 h3
  clear h3
  go_wp2_with fail
  refine H3.out.mono ?_
  rintro e w3 ⟨rfl, hb3⟩
  have ht3 := api.tab ht2 hb3
  have hd3 := api.low hd2 hb3
  have h4 : ∀ w, T w → D w p 0 false ex1 → _ := fun w h k => api.save p 0 false ex1 w h k
  rw [ex1_save] at h4
  have H4 := hide2 h4
  clear h4
  go_wp2_with fail
  have hba := (Below.refl w3.heap.size w3).alloc (Nat.le_refl _) (.cells #[.int .i64 0, .bool false, .int .i64 8, .int .i64 6, .int .i64 6, .int .i64 3, .int .i64 1, .bool false, .int .i64 1] 50)
  refine (H4.out _ (api.tab ht3 hba) (api.low hd3 hba)).mono ?_
  rintro e w4 ⟨rfl, hb4⟩
  have hb : Below w.heap.size w w4 := (((hb1.trans (hb2.mono hb1.size)).trans (hb3.mono (Nat.le_trans hb1.size hb2.size))).trans (hba.mono (Nat.le_trans hb1.size (Nat.le_trans hb2.size hb3.size)))).trans (hb4.mono (Nat.le_trans hb1.size (Nat.le_trans hb2.size (Nat.le_trans hb3.size hba.size))))
  have bx := (Bx9.new w3 50 (.int .i64 0) (.bool false) (.int .i64 8) (.int .i64 6) (.int .i64 6) (.int .i64 3) (.int .i64 1) (.bool false) (.int .i64 1)).below hb4
  obtain ⟨c0, c1, c2, c3, c4, c5, c6, c7, c8, _⟩ := bx
  have hx : ex1.toList = [97, 13, 10, 98, 255, 99, 13] := by kernel_rfl
  clear H1 H2 H3 H4
  go_wp2
  go_ret
  exact ⟨rfl, hb⟩

set_option maxRecDepth 100000 in
set_option maxHeartbeats 1000000 in
theorem opened_any (api : Api T D) (b : ByteArray) (c : Int) (w : World) (ht : T w) (hb : b.size ≤ 1099511627776) (h1 : -9223372036854775808 ≤ c) (h2 : c ≤ 9223372036854775807) :
    Calls Tryd.prog 11 #[.string b, .int .i64 c] w fun e w' => ∃ p, e = .returned (.tuple #[.pointer (some ⟨p, 0, none⟩), .bool true]) ∧ D w' p (encOf b (Vm.pick c 8)) (ofMark b (encOf b (Vm.pick c 8))) (ofBody b (encOf b (Vm.pick c 8))) ∧ Below w.heap.size w w' := by
  have hp := Vm.pick_bd c 8 (by decide)
  have K := hide2 (kpick_any c 8)
  have L := hide2 (fun w => api.load b (Vm.pick c 8) w)
  have N := hide2 (known_any api w ht)
  generalize Vm.pick c 8 = m at *
  go_enter Tryd.func11, Tryd.ntmps11
  go_wp2_with fail
  refine N.out.mono ?_
  rintro e w1 ⟨rfl, hb1⟩
  have ht1 := api.tab ht hb1
  go_wp2_with fail
  refine (K.out w1 h1 h2 (by decide) (by decide)).mono ?_
  rintro e w2 ⟨rfl, rfl⟩
  go_wp2_with fail
  refine (L.out w2 ht1 hb hp.1 (by omega)).mono ?_
  rintro e w3 ⟨p, rfl, hd, hb3⟩
  go_wp2
  go_ret2
  exact ⟨p, rfl, hd, hb1.trans (hb3.mono hb1.size)⟩
end Go.Proofs.YtoejbngihecafaaDoor
