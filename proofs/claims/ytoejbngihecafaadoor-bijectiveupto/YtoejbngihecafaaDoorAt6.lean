import Derived.Test.YtoejbngihecafaaDoorAt5
namespace Go.Proofs.YtoejbngihecafaaDoor
open Go.RowKit

theorem assert_inner (v : Value) (w : World) : (Instr.typeAssert (.iface 160 v) 65 160 false).run Tryd.prog w = .ok v w := by kernel_rfl
theorem inner_at {B : Nat} {c : Cn} {k : Nat} {l r : Nd} {w : World} (h : (Nd.inner B c k l r).In w) : w.cell? ⟨B, 9, none⟩ = some (.iface l.ty (.pointer (some ⟨l.blk, 0, none⟩))) ∧ w.cell? ⟨B, 10, none⟩ = some (.iface r.ty (.pointer (some ⟨r.blk, 0, none⟩))) := by
  have h1 := h.1
  rw [l.val_eq, r.val_eq] at h1
  constructor
  · rw [Lib.cell_of_heap h1]; rfl
  · rw [Lib.cell_of_heap h1]; rfl

theorem above_val (n m : Nd) (w : World) (hn : n.In w) (hm : m.In w) (sn : n.cn.Small) (sm : m.cn.Small) (ln : n.lev ≤ 1152921504606846976) (lm : m.lev ≤ 1152921504606846976) :
    Calls Tryd.prog 94 #[.iface n.ty (.pointer (some ⟨n.blk, 0, none⟩)), .iface m.ty (.pointer (some ⟨m.blk, 0, none⟩))] w fun e w' => ∃ B, e = .returned (.iface 160 (.pointer (some ⟨B, 0, none⟩))) ∧ (Nd.inner B (n.cn.plus m.cn) (1 + max n.lev m.lev) n m).In w' ∧ Below w.heap.size w w' := by
  rw [← n.val_eq, ← m.val_eq]
  refine (above_any n m w hn hm sn sm ln lm).mono ?_
  rintro e w' ⟨B, rfl, _, hi, hb⟩
  exact ⟨B, rfl, hi, hb⟩
theorem made_A1 {Bn B1 B2 h : Nat} {c : Cn} {l r m : Nd} {w w' : World} (on : (Nd.inner Bn c h l r).Ok) (om : m.Ok) (h1 : m.lev + 1 < h) (h2 : r.lev ≤ l.lev)
    (hi : (Nd.inner B2 (l.cn.plus (r.cn.plus m.cn)) (1 + max l.lev (1 + max r.lev m.lev)) l (Nd.inner B1 (r.cn.plus m.cn) (1 + max r.lev m.lev) r m)).In w') (hb : Below w.heap.size w w') :
    Made (Nd.inner Bn c h l r) m w (.returned (.iface 160 (.pointer (some ⟨B2, 0, none⟩)))) w' (Nd.inner B2 (l.cn.plus (r.cn.plus m.cn)) (1 + max l.lev (1 + max r.lev m.lev)) l (Nd.inner B1 (r.cn.plus m.cn) (1 + max r.lev m.lev) r m)) := by
  obtain ⟨hc, hh, ol, or⟩ := on
  refine ⟨rfl, hi, ⟨rfl, rfl, ol, rfl, rfl, or, om⟩, ?_, ?_, ?_, ?_, hb⟩
  · show _ = c.plus m.cn
    rw [hc, Cn.plus_assoc]; rfl
  · simp [Nd.row]
  · show max h m.lev ≤ 1 + max l.lev (1 + max r.lev m.lev)
    omega
  · show 1 + max l.lev (1 + max r.lev m.lev) ≤ 1 + max h m.lev
    omega
section
variable {Bn : Nat} {c : Cn} {h : Nat} {l r m : Nd} {w w1 w2 : World}
theorem A_start (H : Two (Nd.inner Bn c h l r) m w w1) : w1.cell? ⟨Bn, 9, none⟩ = some (.iface l.ty (.pointer (some ⟨l.blk, 0, none⟩))) ∧ w1.cell? ⟨Bn, 10, none⟩ = some (.iface r.ty (.pointer (some ⟨r.blk, 0, none⟩))) ∧ Two (Nd.inner Bn c h l r) m w w1 :=
  ⟨(inner_at H.n).1, (inner_at H.n).2, H⟩
theorem A_step (H : w1.cell? ⟨Bn, 9, none⟩ = some (.iface l.ty (.pointer (some ⟨l.blk, 0, none⟩))) ∧ w1.cell? ⟨Bn, 10, none⟩ = some (.iface r.ty (.pointer (some ⟨r.blk, 0, none⟩))) ∧ Two (Nd.inner Bn c h l r) m w w1) (hb : Below w1.heap.size w1 w2) :
    w2.cell? ⟨Bn, 9, none⟩ = some (.iface l.ty (.pointer (some ⟨l.blk, 0, none⟩))) ∧ w2.cell? ⟨Bn, 10, none⟩ = some (.iface r.ty (.pointer (some ⟨r.blk, 0, none⟩))) ∧ Two (Nd.inner Bn c h l r) m w w2 := A_start (H.2.2.step hb)
theorem A_drew (H : w1.cell? ⟨Bn, 9, none⟩ = some (.iface l.ty (.pointer (some ⟨l.blk, 0, none⟩))) ∧ w1.cell? ⟨Bn, 10, none⟩ = some (.iface r.ty (.pointer (some ⟨r.blk, 0, none⟩))) ∧ Two (Nd.inner Bn c h l r) m w w1) :
    w1.drew.cell? ⟨Bn, 9, none⟩ = some (.iface l.ty (.pointer (some ⟨l.blk, 0, none⟩))) ∧ w1.drew.cell? ⟨Bn, 10, none⟩ = some (.iface r.ty (.pointer (some ⟨r.blk, 0, none⟩))) ∧ Two (Nd.inner Bn c h l r) m w w1.drew := A_step H ((Below.refl _ _).drew)
theorem A_l (H : w1.cell? ⟨Bn, 9, none⟩ = some (.iface l.ty (.pointer (some ⟨l.blk, 0, none⟩))) ∧ w1.cell? ⟨Bn, 10, none⟩ = some (.iface r.ty (.pointer (some ⟨r.blk, 0, none⟩))) ∧ Two (Nd.inner Bn c h l r) m w w1) : l.In w1 := H.2.2.n.2.1
theorem A_r (H : w1.cell? ⟨Bn, 9, none⟩ = some (.iface l.ty (.pointer (some ⟨l.blk, 0, none⟩))) ∧ w1.cell? ⟨Bn, 10, none⟩ = some (.iface r.ty (.pointer (some ⟨r.blk, 0, none⟩))) ∧ Two (Nd.inner Bn c h l r) m w w1) : r.In w1 := H.2.2.n.2.2
theorem A_m (H : w1.cell? ⟨Bn, 9, none⟩ = some (.iface l.ty (.pointer (some ⟨l.blk, 0, none⟩))) ∧ w1.cell? ⟨Bn, 10, none⟩ = some (.iface r.ty (.pointer (some ⟨r.blk, 0, none⟩))) ∧ Two (Nd.inner Bn c h l r) m w w1) : m.In w1 := H.2.2.m
end
set_option maxRecDepth 100000 in
set_option maxHeartbeats 1000000 in
theorem leveled_A1 (Bn : Nat) (c : Cn) (h : Nat) (l r m : Nd) (w : World) (hn : (Nd.inner Bn c h l r).In w) (hm : m.In w) (on : (Nd.inner Bn c h l r).Ok) (om : m.Ok) (hs : (c.plus m.cn).Small) (hr : (Nd.inner Bn c h l r).row.length + m.row.length ≤ 1152921504606846976) (h1 : m.lev + 1 < h) (h2 : r.lev ≤ l.lev) :
    Calls Tryd.prog 93 #[(Nd.inner Bn c h l r).val, m.val] w fun e w' => ∃ q, Made (Nd.inner Bn c h l r) m w e w' q := by
  have l1 := Nd.lev_row on
  have l2 := Nd.lev_row om
  have l3 := Nd.lev_row on.2.2.1
  have l4 := Nd.lev_row on.2.2.2
  have hrow : (Nd.inner Bn c h l r).row.length = l.row.length + r.row.length := by simp [Nd.row]
  have HO := hide1 on
  have HO2 := hide1 om
  have H := hide1 (Two.mk hn hm (Below.refl w.heap.size w))
  have hcc : c.plus m.cn = l.cn.plus (r.cn.plus m.cn) := by rw [on.1, Cn.plus_assoc]
  rw [hcc] at hs
  have HA1 := hide1 (fun w1 (hn : r.In w1) (hm : m.In w1) => above_val r m w1 hn hm hs.right.left hs.right.right (by omega) (by omega))
  have HA2 := hide1 (fun B1 w1 (hn : l.In w1) (hm : (Nd.inner B1 (r.cn.plus m.cn) (1 + max r.lev m.lev) r m).In w1) => above_val l (Nd.inner B1 (r.cn.plus m.cn) (1 + max r.lev m.lev) r m) w1 hn hm hs.left hs.right (by omega) (by show 1 + max r.lev m.lev ≤ _; omega))
  have HQ := hide1 (fun B1 B2 w' => @made_A1 Bn B1 B2 h c l r m w w' on om h1 h2)
  clear hcc hs
  have HT := hide1 (@Nd.val_eq (Nd.inner Bn c h l r))
  rw [m.val_eq]
  simp only [Nd.val]
  generalize hj : m.lev = j at l2 h1
  have HJ := hide1 hj
  clear hj hn hm on om
  have ta := assert_inner
  go_enter Tryd.func93, Tryd.ntmps93
  go_wp2_with fail
  rw [show (method 296 160 (.pointer (some ⟨Bn, 0, none⟩)) "vellum/atoms.level").run Tryd.prog _ = _ from meth_level (Nd.inner Bn c h l r) 295 _ H.out.n]
  go_wp2_with fail
  refine (level_any c h _).mono ?_
  rintro e w1 ⟨rfl, hb⟩
  replace H := hide1 (H.out.step hb)
  clear hb
  go_wp2_with fail
  rw [meth_level m 295 _ H.out.m, HJ.out]
  go_wp2_with fail
  refine (level_any m.cn j _).mono ?_
  rintro e w2 ⟨rfl, hb⟩
  replace H := hide1 (H.out.step hb)
  clear hb w1
  have hS := A_start H.out
  obtain ⟨p9, p10⟩ := inner_at H.out.n
  generalize hlk : l.lev = lk at *
  generalize hrk : r.lev = rk at *
  have HLK := hide1 hlk
  have HRK := hide1 hrk
  clear hlk hrk
  go_wp2_with fail
  go_region_held3 (fun w' => w'.cell? ⟨Bn, 9, none⟩ = some (.iface l.ty (.pointer (some ⟨l.blk, 0, none⟩))) ∧ w'.cell? ⟨Bn, 10, none⟩ = some (.iface r.ty (.pointer (some ⟨r.blk, 0, none⟩))) ∧ Two (Nd.inner Bn c h l r) m w w')
    (first | assumption | exact A_drew (by assumption))
    (first
      | rw [meth_level l 295 _ (A_l (by assumption)), HLK.out]
      | rw [meth_level r 295 _ (A_r (by assumption)), HRK.out]
      | (go_at_call 132; first | (refine (level_any l.cn lk _).mono ?_; rintro e w3 ⟨rfl, hb3⟩; have hS3 := A_step (by assumption) hb3) | (refine (level_any r.cn rk _).mono ?_; rintro e w4 ⟨rfl, hb4⟩; have hS4 := A_step (by assumption) hb4)))
  clear p9 p10
  obtain ⟨p9, p10, _⟩ := hS4
  go_wp2_with fail
  go_region_held3 (fun w' => w'.cell? ⟨Bn, 9, none⟩ = some (.iface l.ty (.pointer (some ⟨l.blk, 0, none⟩))) ∧ w'.cell? ⟨Bn, 10, none⟩ = some (.iface r.ty (.pointer (some ⟨r.blk, 0, none⟩))) ∧ Two (Nd.inner Bn c h l r) m w w')
    (first | assumption | exact A_drew (by assumption))
    (first
      | (go_at_call 94; first | (refine (HA2.out B1 _ (A_l (by assumption)) (by assumption)).mono ?_; rintro e w6 ⟨B2, rfl, hi6, hb6⟩; have hS6 := A_step (by assumption) hb6) | (refine (HA1.out _ (A_r (by assumption)) (A_m (by assumption))).mono ?_; rintro e w5 ⟨B1, rfl, hi5, hb5⟩; have hS5 := A_step (by assumption) hb5)))
  go_wp2_with fail
  go_ret
  exact ⟨_, HQ.out B1 B2 w6 hi6 hS6.2.2.b⟩
end Go.Proofs.YtoejbngihecafaaDoor
