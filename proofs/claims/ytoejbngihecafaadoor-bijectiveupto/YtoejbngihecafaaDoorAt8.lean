import Derived.Test.YtoejbngihecafaaDoorAt6
namespace Go.Proofs.YtoejbngihecafaaDoor
open Go.RowKit

theorem made_B1 {Bm B1 B2 h : Nat} {c : Cn} {n l r : Nd} {w w' : World} (on : n.Ok) (om : (Nd.inner Bm c h l r).Ok) (h1 : n.lev + 1 < h) (h2 : l.lev ≤ r.lev)
    (hi : (Nd.inner B2 ((n.cn.plus l.cn).plus r.cn) (1 + max (1 + max n.lev l.lev) r.lev) (Nd.inner B1 (n.cn.plus l.cn) (1 + max n.lev l.lev) n l) r).In w') (hb : Below w.heap.size w w') :
    Made n (Nd.inner Bm c h l r) w (.returned (.iface 160 (.pointer (some ⟨B2, 0, none⟩)))) w' (Nd.inner B2 ((n.cn.plus l.cn).plus r.cn) (1 + max (1 + max n.lev l.lev) r.lev) (Nd.inner B1 (n.cn.plus l.cn) (1 + max n.lev l.lev) n l) r) := by
  obtain ⟨hc, hh, ol, or⟩ := om
  refine ⟨rfl, hi, ⟨rfl, rfl, ⟨rfl, rfl, on, ol⟩, or⟩, ?_, ?_, ?_, ?_, hb⟩
  · show _ = n.cn.plus c
    rw [hc, ← Cn.plus_assoc]; rfl
  · simp [Nd.row]
  · show max n.lev h ≤ 1 + max (1 + max n.lev l.lev) r.lev
    omega
  · show 1 + max (1 + max n.lev l.lev) r.lev ≤ 1 + max n.lev h
    omega
section
variable {Bm : Nat} {c : Cn} {h : Nat} {n l r : Nd} {w w1 w2 : World}
theorem B_start (H : Two n (Nd.inner Bm c h l r) w w1) : w1.cell? ⟨Bm, 9, none⟩ = some (.iface l.ty (.pointer (some ⟨l.blk, 0, none⟩))) ∧ w1.cell? ⟨Bm, 10, none⟩ = some (.iface r.ty (.pointer (some ⟨r.blk, 0, none⟩))) ∧ Two n (Nd.inner Bm c h l r) w w1 :=
  ⟨(inner_at H.m).1, (inner_at H.m).2, H⟩
theorem B_step (H : w1.cell? ⟨Bm, 9, none⟩ = some (.iface l.ty (.pointer (some ⟨l.blk, 0, none⟩))) ∧ w1.cell? ⟨Bm, 10, none⟩ = some (.iface r.ty (.pointer (some ⟨r.blk, 0, none⟩))) ∧ Two n (Nd.inner Bm c h l r) w w1) (hb : Below w1.heap.size w1 w2) : w2.cell? ⟨Bm, 9, none⟩ = some (.iface l.ty (.pointer (some ⟨l.blk, 0, none⟩))) ∧ w2.cell? ⟨Bm, 10, none⟩ = some (.iface r.ty (.pointer (some ⟨r.blk, 0, none⟩))) ∧ Two n (Nd.inner Bm c h l r) w w2 := B_start (H.2.2.step hb)
theorem B_drew (H : w1.cell? ⟨Bm, 9, none⟩ = some (.iface l.ty (.pointer (some ⟨l.blk, 0, none⟩))) ∧ w1.cell? ⟨Bm, 10, none⟩ = some (.iface r.ty (.pointer (some ⟨r.blk, 0, none⟩))) ∧ Two n (Nd.inner Bm c h l r) w w1) : w1.drew.cell? ⟨Bm, 9, none⟩ = some (.iface l.ty (.pointer (some ⟨l.blk, 0, none⟩))) ∧ w1.drew.cell? ⟨Bm, 10, none⟩ = some (.iface r.ty (.pointer (some ⟨r.blk, 0, none⟩))) ∧ Two n (Nd.inner Bm c h l r) w w1.drew := B_step H ((Below.refl _ _).drew)
theorem B_l (H : w1.cell? ⟨Bm, 9, none⟩ = some (.iface l.ty (.pointer (some ⟨l.blk, 0, none⟩))) ∧ w1.cell? ⟨Bm, 10, none⟩ = some (.iface r.ty (.pointer (some ⟨r.blk, 0, none⟩))) ∧ Two n (Nd.inner Bm c h l r) w w1) : l.In w1 := H.2.2.m.2.1
theorem B_r (H : w1.cell? ⟨Bm, 9, none⟩ = some (.iface l.ty (.pointer (some ⟨l.blk, 0, none⟩))) ∧ w1.cell? ⟨Bm, 10, none⟩ = some (.iface r.ty (.pointer (some ⟨r.blk, 0, none⟩))) ∧ Two n (Nd.inner Bm c h l r) w w1) : r.In w1 := H.2.2.m.2.2
theorem B_n (H : w1.cell? ⟨Bm, 9, none⟩ = some (.iface l.ty (.pointer (some ⟨l.blk, 0, none⟩))) ∧ w1.cell? ⟨Bm, 10, none⟩ = some (.iface r.ty (.pointer (some ⟨r.blk, 0, none⟩))) ∧ Two n (Nd.inner Bm c h l r) w w1) : n.In w1 := H.2.2.n
end
set_option maxRecDepth 100000 in
set_option maxHeartbeats 1000000 in
theorem leveled_B1 (Bm : Nat) (c : Cn) (h : Nat) (n l r : Nd) (w : World) (hn : n.In w) (hm : (Nd.inner Bm c h l r).In w) (on : n.Ok) (om : (Nd.inner Bm c h l r).Ok) (hs : (n.cn.plus c).Small) (hr : n.row.length + (Nd.inner Bm c h l r).row.length ≤ 1152921504606846976) (h1 : n.lev + 1 < h) (h2 : l.lev ≤ r.lev) :
    Calls Tryd.prog 93 #[n.val, (Nd.inner Bm c h l r).val] w fun e w' => ∃ q, Made n (Nd.inner Bm c h l r) w e w' q := by
  have l1 : h < _ := Nd.lev_row om
  have l2 := Nd.lev_row on
  have l3 := Nd.lev_row om.2.2.1
  have l4 := Nd.lev_row om.2.2.2
  have hrow : (Nd.inner Bm c h l r).row.length = l.row.length + r.row.length := by simp [Nd.row]
  have H := hide1 (Two.mk hn hm (Below.refl w.heap.size w))
  have hcc : n.cn.plus c = (n.cn.plus l.cn).plus r.cn := by rw [om.1, Cn.plus_assoc]
  rw [hcc] at hs
  have HA1 := hide1 (fun w1 (hn : n.In w1) (hm : l.In w1) => above_val n l w1 hn hm hs.left.left hs.left.right (by omega) (by omega))
  have HA2 := hide1 (fun B1 w1 (hn : (Nd.inner B1 (n.cn.plus l.cn) (1 + max n.lev l.lev) n l).In w1) (hm : r.In w1) => above_val (Nd.inner B1 (n.cn.plus l.cn) (1 + max n.lev l.lev) n l) r w1 hn hm hs.left hs.right (by show 1 + max n.lev l.lev ≤ _; omega) (by omega))
  have HQ := hide1 (fun B1 B2 w' => @made_B1 Bm B1 B2 h c n l r w w' on om h1 h2)
  clear hcc hs
  rw [n.val_eq]
  simp only [Nd.val]
  generalize hj : n.lev = j at l2 h1
  have HJ := hide1 hj
  clear hj hn hm on om
  have ta := assert_inner
  go_enter Tryd.func93, Tryd.ntmps93
  go_wp2_with fail
  rw [meth_level n 295 _ H.out.n, HJ.out]
  go_wp2_with fail
  refine (level_any n.cn j _).mono ?_
  rintro e w1 ⟨rfl, hb⟩
  replace H := hide1 (H.out.step hb)
  clear hb
  go_wp2_with fail
  rw [show (method 296 160 (.pointer (some ⟨Bm, 0, none⟩)) "vellum/atoms.level").run Tryd.prog _ = _ from meth_level (Nd.inner Bm c h l r) 295 _ H.out.m]
  go_wp2_with fail
  refine (level_any c h _).mono ?_
  rintro e w2 ⟨rfl, hb⟩
  replace H := hide1 (H.out.step hb)
  clear hb w1
  go_wp2_with fail
  rw [show (method 296 160 (.pointer (some ⟨Bm, 0, none⟩)) "vellum/atoms.level").run Tryd.prog _ = _ from meth_level (Nd.inner Bm c h l r) 295 _ H.out.m]
  go_wp2_with fail
  refine (level_any c h _).mono ?_
  rintro e w1 ⟨rfl, hb⟩
  replace H := hide1 (H.out.step hb)
  clear hb w2
  go_wp2_with fail
  rw [meth_level n 295 _ H.out.n, HJ.out]
  go_wp2_with fail
  refine (level_any n.cn j _).mono ?_
  rintro e w2 ⟨rfl, hb⟩
  replace H := hide1 (H.out.step hb)
  clear hb w1
  have hS := B_start H.out
  obtain ⟨p9, p10, _⟩ := B_start H.out
  generalize hlk : l.lev = lk at *
  generalize hrk : r.lev = rk at *
  have HLK := hide1 hlk
  have HRK := hide1 hrk
  clear hlk hrk
  go_wp2_with fail
  go_region_held3 (fun w' => w'.cell? ⟨Bm, 9, none⟩ = some (.iface l.ty (.pointer (some ⟨l.blk, 0, none⟩))) ∧ w'.cell? ⟨Bm, 10, none⟩ = some (.iface r.ty (.pointer (some ⟨r.blk, 0, none⟩))) ∧ Two n (Nd.inner Bm c h l r) w w')
    (first | assumption | exact B_drew (by assumption))
    (first
      | rw [meth_level r 295 _ (B_r (by assumption)), HRK.out]
      | rw [meth_level l 295 _ (B_l (by assumption)), HLK.out]
      | (go_at_call 132; first | (refine (level_any r.cn rk _).mono ?_; rintro e w3 ⟨rfl, hb3⟩; have hS3 := B_step (by assumption) hb3) | (refine (level_any l.cn lk _).mono ?_; rintro e w4 ⟨rfl, hb4⟩; have hS4 := B_step (by assumption) hb4)))
  clear p9 p10
  obtain ⟨p9, p10, _⟩ := hS4
  go_wp2_with fail
  go_region_held3 (fun w' => w'.cell? ⟨Bm, 9, none⟩ = some (.iface l.ty (.pointer (some ⟨l.blk, 0, none⟩))) ∧ w'.cell? ⟨Bm, 10, none⟩ = some (.iface r.ty (.pointer (some ⟨r.blk, 0, none⟩))) ∧ Two n (Nd.inner Bm c h l r) w w')
    (first | assumption | exact B_drew (by assumption))
    (first
      | (go_at_call 94; first
          | (refine (HA2.out B1 _ (by assumption) (B_r (by assumption))).mono ?_; rintro e w6 ⟨B2, rfl, hi6, hb6⟩; have hS6 := B_step (by assumption) hb6)
          | (refine (HA1.out _ (B_n (by assumption)) (B_l (by assumption))).mono ?_; rintro e w5 ⟨B1, rfl, hi5, hb5⟩; have hS5 := B_step (by assumption) hb5)))
  go_wp2_with fail
  go_ret
  exact ⟨_, HQ.out B1 B2 w6 hi6 hS6.2.2.b⟩
end Go.Proofs.YtoejbngihecafaaDoor
