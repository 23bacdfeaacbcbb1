import Derived.Test.YtoejbngihecafaaDoorAt4
namespace Go.Proofs.YtoejbngihecafaaDoor
open Go.RowKit

theorem Cn.plus_assoc (a b c : Cn) : (a.plus b).plus c = a.plus (b.plus c) := by simp [Cn.plus, Nat.add_assoc]
theorem Cn.Small.left {a b : Cn} (h : (a.plus b).Small) : a.Small := by
  obtain ⟨h0, h1, h2, h3, h4, h5, h6, h7⟩ := h
  simp only [Cn.plus] at *
  constructor <;> omega
theorem Cn.Small.right {a b : Cn} (h : (a.plus b).Small) : b.Small := by
  obtain ⟨h0, h1, h2, h3, h4, h5, h6, h7⟩ := h
  simp only [Cn.plus] at *
  constructor <;> omega
theorem Nd.lev_row : ∀ {n : Nd}, n.Ok → n.lev < n.row.length
  | .leaf _ _ _, _ => by simp [Nd.lev, Nd.row]
  | .inner _ _ h l r, ⟨_, hh, hl, hr⟩ => by
    have := Nd.lev_row hl
    have := Nd.lev_row hr
    simp only [Nd.lev, Nd.row, List.length_append] at *
    omega
/-- What making one tree of two gives. -/
structure Made (n m : Nd) (w : World) (e : Ending) (w' : World) (r : Nd) : Prop where
  val : e = .returned r.val
  inn : r.In w'
  ok : r.Ok
  cn : r.cn = n.cn.plus m.cn
  row : r.row = n.row ++ m.row
  lo : max n.lev m.lev ≤ r.lev
  up : r.lev ≤ 1 + max n.lev m.lev
  below : Below w.heap.size w w'

/-- Two nodes, through the steps of a walk. -/
structure Two (n m : Nd) (w0 w : World) : Prop where
  n : n.In w
  m : m.In w
  b : Below w0.heap.size w0 w
theorem Two.step {n m : Nd} {w0 w w1 : World} (h : Two n m w0 w) (hb : Below w.heap.size w w1) : Two n m w0 w1 :=
  ⟨Nd.low hb h.n, Nd.low hb h.m, h.b.trans (hb.mono h.b.size)⟩
theorem above_made {n m : Nd} {w w' : World} {B : Nat} (on : n.Ok) (om : m.Ok) (hi : (Nd.inner B (n.cn.plus m.cn) (1 + max n.lev m.lev) n m).In w') (hb : Below w.heap.size w w') (e : Ending) (he : e = .returned (Nd.inner B (n.cn.plus m.cn) (1 + max n.lev m.lev) n m).val) :
    Made n m w e w' (.inner B (n.cn.plus m.cn) (1 + max n.lev m.lev) n m) :=
  ⟨he, hi, ⟨rfl, rfl, on, om⟩, rfl, rfl, by simp only [Nd.lev]; omega, by simp only [Nd.lev]; omega, hb⟩

set_option maxRecDepth 100000 in
set_option maxHeartbeats 1000000 in
theorem leveled_C (n m : Nd) (w : World) (hn : n.In w) (hm : m.In w) (on : n.Ok) (om : m.Ok) (hs : (n.cn.plus m.cn).Small) (hr : n.row.length + m.row.length ≤ 1152921504606846976) (h1 : n.lev ≤ m.lev + 1) (h2 : m.lev ≤ n.lev + 1) :
    Calls Tryd.prog 93 #[n.val, m.val] w fun e w' => ∃ r, Made n m w e w' r := by
  have l1 := Nd.lev_row on
  have l2 := Nd.lev_row om
  have HA := hide1 (fun w1 (hn : n.In w1) (hm : m.In w1) => above_any n m w1 hn hm hs.left hs.right (by omega) (by omega))
  have HO := hide1 on
  have HO2 := hide1 om
  have H := hide1 (Two.mk hn hm (Below.refl w.heap.size w))
  rw [n.val_eq, m.val_eq] at *
  generalize hk : n.lev = k at l1 l2 h1 h2
  generalize hj : m.lev = j at l1 l2 h1 h2
  have HK := hide1 hk
  have HJ := hide1 hj
  clear hk hj hn hm on om
  go_enter Tryd.func93, Tryd.ntmps93
  go_wp2_with fail
  rw [meth_level n 295 _ H.out.n, HK.out]
  go_wp2_with fail
  refine (level_any n.cn k _).mono ?_
  rintro e w1 ⟨rfl, hb⟩
  replace H := hide1 (H.out.step hb)
  clear hb
  go_wp2_with fail
  rw [meth_level m 295 _ H.out.m, HJ.out]
  go_wp2_with fail
  refine (level_any m.cn j _).mono ?_
  rintro e w2 ⟨rfl, hb⟩
  replace H := hide1 (H.out.step hb)
  clear hb w1
  go_wp2_with fail
  rw [meth_level m 295 _ H.out.m, HJ.out]
  go_wp2_with fail
  refine (level_any m.cn j _).mono ?_
  rintro e w1 ⟨rfl, hb⟩
  replace H := hide1 (H.out.step hb)
  clear hb w2
  go_wp2_with fail
  rw [meth_level n 295 _ H.out.n, HK.out]
  go_wp2_with fail
  refine (level_any n.cn k _).mono ?_
  rintro e w2 ⟨rfl, hb⟩
  replace H := hide1 (H.out.step hb)
  clear hb w1
  go_wp2_with fail
  refine (HA.out _ H.out.n H.out.m).mono ?_
  rintro e w3 ⟨B, rfl, hB, hi, hb⟩
  have hb3 := H.out.b.trans (hb.mono H.out.b.size)
  go_wp2_with fail
  go_ret
  exact ⟨_, above_made HO.out HO2.out hi hb3 _ rfl⟩
end Go.Proofs.YtoejbngihecafaaDoor
