import Derived.Test.YtoejbngihecafaaDoorAt6
namespace Go.Proofs.YtoejbngihecafaaDoor
open Go.RowKit

theorem made_B2 {Bm Bl B1 B2 B3 h hl : Nat} {c cl : Cn} {n ll lr r : Nd} {w w' : World} (on : n.Ok) (om : (Nd.inner Bm c h (Nd.inner Bl cl hl ll lr) r).Ok) (h1 : n.lev + 1 < h) (h2 : r.lev < hl)
    (hi : (Nd.inner B3 ((n.cn.plus ll.cn).plus (lr.cn.plus r.cn)) (1 + max (1 + max n.lev ll.lev) (1 + max lr.lev r.lev)) (Nd.inner B1 (n.cn.plus ll.cn) (1 + max n.lev ll.lev) n ll) (Nd.inner B2 (lr.cn.plus r.cn) (1 + max lr.lev r.lev) lr r)).In w') (hb : Below w.heap.size w w') :
    Made n (Nd.inner Bm c h (Nd.inner Bl cl hl ll lr) r) w (.returned (.iface 160 (.pointer (some ⟨B3, 0, none⟩)))) w' (Nd.inner B3 ((n.cn.plus ll.cn).plus (lr.cn.plus r.cn)) (1 + max (1 + max n.lev ll.lev) (1 + max lr.lev r.lev)) (Nd.inner B1 (n.cn.plus ll.cn) (1 + max n.lev ll.lev) n ll) (Nd.inner B2 (lr.cn.plus r.cn) (1 + max lr.lev r.lev) lr r)) := by
  obtain ⟨hc, hh, ⟨hcl, hhl, oll, olr⟩, or⟩ := om
  refine ⟨rfl, hi, ⟨rfl, rfl, ⟨rfl, rfl, on, oll⟩, rfl, rfl, olr, or⟩, ?_, ?_, ?_, ?_, hb⟩
  · show _ = n.cn.plus c
    rw [hc]
    show (n.cn.plus ll.cn).plus (lr.cn.plus r.cn) = n.cn.plus (cl.plus r.cn)
    rw [hcl, Cn.plus_assoc, Cn.plus_assoc]
  · simp [Nd.row]
  · show max n.lev h ≤ 1 + max (1 + max n.lev ll.lev) (1 + max lr.lev r.lev)
    have hh' : h = 1 + max hl r.lev := hh
    omega
  · show 1 + max (1 + max n.lev ll.lev) (1 + max lr.lev r.lev) ≤ 1 + max n.lev h
    have hh' : h = 1 + max hl r.lev := hh
    omega
section
variable {Bm Bl : Nat} {c cl : Cn} {h hl : Nat} {n ll lr r : Nd} {w w1 w2 : World}
theorem B2_start (H : Two n (Nd.inner Bm c h (Nd.inner Bl cl hl ll lr) r) w w1) : w1.cell? ⟨Bm, 9, none⟩ = some (.iface 160 (.pointer (some ⟨Bl, 0, none⟩))) ∧ w1.cell? ⟨Bm, 10, none⟩ = some (.iface r.ty (.pointer (some ⟨r.blk, 0, none⟩))) ∧ w1.cell? ⟨Bl, 9, none⟩ = some (.iface ll.ty (.pointer (some ⟨ll.blk, 0, none⟩))) ∧ w1.cell? ⟨Bl, 10, none⟩ = some (.iface lr.ty (.pointer (some ⟨lr.blk, 0, none⟩))) ∧ Two n (Nd.inner Bm c h (Nd.inner Bl cl hl ll lr) r) w w1 :=
  ⟨(inner_at H.m).1, (inner_at H.m).2, (inner_at H.m.2.1).1, (inner_at H.m.2.1).2, H⟩
theorem B2_step (H : w1.cell? ⟨Bm, 9, none⟩ = some (.iface 160 (.pointer (some ⟨Bl, 0, none⟩))) ∧ w1.cell? ⟨Bm, 10, none⟩ = some (.iface r.ty (.pointer (some ⟨r.blk, 0, none⟩))) ∧ w1.cell? ⟨Bl, 9, none⟩ = some (.iface ll.ty (.pointer (some ⟨ll.blk, 0, none⟩))) ∧ w1.cell? ⟨Bl, 10, none⟩ = some (.iface lr.ty (.pointer (some ⟨lr.blk, 0, none⟩))) ∧ Two n (Nd.inner Bm c h (Nd.inner Bl cl hl ll lr) r) w w1) (hb : Below w1.heap.size w1 w2) : w2.cell? ⟨Bm, 9, none⟩ = some (.iface 160 (.pointer (some ⟨Bl, 0, none⟩))) ∧ w2.cell? ⟨Bm, 10, none⟩ = some (.iface r.ty (.pointer (some ⟨r.blk, 0, none⟩))) ∧ w2.cell? ⟨Bl, 9, none⟩ = some (.iface ll.ty (.pointer (some ⟨ll.blk, 0, none⟩))) ∧ w2.cell? ⟨Bl, 10, none⟩ = some (.iface lr.ty (.pointer (some ⟨lr.blk, 0, none⟩))) ∧ Two n (Nd.inner Bm c h (Nd.inner Bl cl hl ll lr) r) w w2 := B2_start (H.2.2.2.2.step hb)
theorem B2_drew (H : w1.cell? ⟨Bm, 9, none⟩ = some (.iface 160 (.pointer (some ⟨Bl, 0, none⟩))) ∧ w1.cell? ⟨Bm, 10, none⟩ = some (.iface r.ty (.pointer (some ⟨r.blk, 0, none⟩))) ∧ w1.cell? ⟨Bl, 9, none⟩ = some (.iface ll.ty (.pointer (some ⟨ll.blk, 0, none⟩))) ∧ w1.cell? ⟨Bl, 10, none⟩ = some (.iface lr.ty (.pointer (some ⟨lr.blk, 0, none⟩))) ∧ Two n (Nd.inner Bm c h (Nd.inner Bl cl hl ll lr) r) w w1) : w1.drew.cell? ⟨Bm, 9, none⟩ = some (.iface 160 (.pointer (some ⟨Bl, 0, none⟩))) ∧ w1.drew.cell? ⟨Bm, 10, none⟩ = some (.iface r.ty (.pointer (some ⟨r.blk, 0, none⟩))) ∧ w1.drew.cell? ⟨Bl, 9, none⟩ = some (.iface ll.ty (.pointer (some ⟨ll.blk, 0, none⟩))) ∧ w1.drew.cell? ⟨Bl, 10, none⟩ = some (.iface lr.ty (.pointer (some ⟨lr.blk, 0, none⟩))) ∧ Two n (Nd.inner Bm c h (Nd.inner Bl cl hl ll lr) r) w w1.drew := B2_step H ((Below.refl _ _).drew)
theorem B2_l (H : w1.cell? ⟨Bm, 9, none⟩ = some (.iface 160 (.pointer (some ⟨Bl, 0, none⟩))) ∧ w1.cell? ⟨Bm, 10, none⟩ = some (.iface r.ty (.pointer (some ⟨r.blk, 0, none⟩))) ∧ w1.cell? ⟨Bl, 9, none⟩ = some (.iface ll.ty (.pointer (some ⟨ll.blk, 0, none⟩))) ∧ w1.cell? ⟨Bl, 10, none⟩ = some (.iface lr.ty (.pointer (some ⟨lr.blk, 0, none⟩))) ∧ Two n (Nd.inner Bm c h (Nd.inner Bl cl hl ll lr) r) w w1) : (Nd.inner Bl cl hl ll lr).In w1 := H.2.2.2.2.m.2.1
theorem B2_ll (H : w1.cell? ⟨Bm, 9, none⟩ = some (.iface 160 (.pointer (some ⟨Bl, 0, none⟩))) ∧ w1.cell? ⟨Bm, 10, none⟩ = some (.iface r.ty (.pointer (some ⟨r.blk, 0, none⟩))) ∧ w1.cell? ⟨Bl, 9, none⟩ = some (.iface ll.ty (.pointer (some ⟨ll.blk, 0, none⟩))) ∧ w1.cell? ⟨Bl, 10, none⟩ = some (.iface lr.ty (.pointer (some ⟨lr.blk, 0, none⟩))) ∧ Two n (Nd.inner Bm c h (Nd.inner Bl cl hl ll lr) r) w w1) : ll.In w1 := H.2.2.2.2.m.2.1.2.1
theorem B2_lr (H : w1.cell? ⟨Bm, 9, none⟩ = some (.iface 160 (.pointer (some ⟨Bl, 0, none⟩))) ∧ w1.cell? ⟨Bm, 10, none⟩ = some (.iface r.ty (.pointer (some ⟨r.blk, 0, none⟩))) ∧ w1.cell? ⟨Bl, 9, none⟩ = some (.iface ll.ty (.pointer (some ⟨ll.blk, 0, none⟩))) ∧ w1.cell? ⟨Bl, 10, none⟩ = some (.iface lr.ty (.pointer (some ⟨lr.blk, 0, none⟩))) ∧ Two n (Nd.inner Bm c h (Nd.inner Bl cl hl ll lr) r) w w1) : lr.In w1 := H.2.2.2.2.m.2.1.2.2
theorem B2_r (H : w1.cell? ⟨Bm, 9, none⟩ = some (.iface 160 (.pointer (some ⟨Bl, 0, none⟩))) ∧ w1.cell? ⟨Bm, 10, none⟩ = some (.iface r.ty (.pointer (some ⟨r.blk, 0, none⟩))) ∧ w1.cell? ⟨Bl, 9, none⟩ = some (.iface ll.ty (.pointer (some ⟨ll.blk, 0, none⟩))) ∧ w1.cell? ⟨Bl, 10, none⟩ = some (.iface lr.ty (.pointer (some ⟨lr.blk, 0, none⟩))) ∧ Two n (Nd.inner Bm c h (Nd.inner Bl cl hl ll lr) r) w w1) : r.In w1 := H.2.2.2.2.m.2.2
theorem B2_n (H : w1.cell? ⟨Bm, 9, none⟩ = some (.iface 160 (.pointer (some ⟨Bl, 0, none⟩))) ∧ w1.cell? ⟨Bm, 10, none⟩ = some (.iface r.ty (.pointer (some ⟨r.blk, 0, none⟩))) ∧ w1.cell? ⟨Bl, 9, none⟩ = some (.iface ll.ty (.pointer (some ⟨ll.blk, 0, none⟩))) ∧ w1.cell? ⟨Bl, 10, none⟩ = some (.iface lr.ty (.pointer (some ⟨lr.blk, 0, none⟩))) ∧ Two n (Nd.inner Bm c h (Nd.inner Bl cl hl ll lr) r) w w1) : n.In w1 := H.2.2.2.2.n
end
set_option maxRecDepth 100000 in
set_option maxHeartbeats 1000000 in
theorem leveled_B2 (Bm Bl : Nat) (c cl : Cn) (h hl : Nat) (n ll lr r : Nd) (w : World) (hn : n.In w) (hm : (Nd.inner Bm c h (Nd.inner Bl cl hl ll lr) r).In w) (on : n.Ok) (om : (Nd.inner Bm c h (Nd.inner Bl cl hl ll lr) r).Ok) (hs : (n.cn.plus c).Small) (hr : n.row.length + (Nd.inner Bm c h (Nd.inner Bl cl hl ll lr) r).row.length ≤ 1152921504606846976) (h1 : n.lev + 1 < h) (h2 : r.lev < hl) :
    Calls Tryd.prog 93 #[n.val, (Nd.inner Bm c h (Nd.inner Bl cl hl ll lr) r).val] w fun e w' => ∃ q, Made n (Nd.inner Bm c h (Nd.inner Bl cl hl ll lr) r) w e w' q := by
  have l1 : h < _ := Nd.lev_row om
  have l2 := Nd.lev_row on
  have l3 := Nd.lev_row om.2.2.1.2.2.1
  have l4 := Nd.lev_row om.2.2.1.2.2.2
  have l5 := Nd.lev_row om.2.2.2
  have l6 : hl < _ := Nd.lev_row om.2.2.1
  have hrow : (Nd.inner Bm c h (Nd.inner Bl cl hl ll lr) r).row.length = ll.row.length + lr.row.length + r.row.length := by simp [Nd.row]; omega
  have H := hide1 (Two.mk hn hm (Below.refl w.heap.size w))
  have hcc : n.cn.plus c = (n.cn.plus ll.cn).plus (lr.cn.plus r.cn) := by
    have e1 : c = cl.plus r.cn := om.1
    have e2 : cl = ll.cn.plus lr.cn := om.2.2.1.1
    rw [e1, e2, Cn.plus_assoc, Cn.plus_assoc]
  rw [hcc] at hs
  have HA1 := hide1 (fun w1 (hn : n.In w1) (hm : ll.In w1) => above_val n ll w1 hn hm hs.left.left hs.left.right (by omega) (by omega))
  have HA2 := hide1 (fun w1 (hn : lr.In w1) (hm : r.In w1) => above_val lr r w1 hn hm hs.right.left hs.right.right (by omega) (by omega))
  have HA3 := hide1 (fun B1 B2 w1 (hn : (Nd.inner B1 (n.cn.plus ll.cn) (1 + max n.lev ll.lev) n ll).In w1) (hm : (Nd.inner B2 (lr.cn.plus r.cn) (1 + max lr.lev r.lev) lr r).In w1) => above_val (Nd.inner B1 (n.cn.plus ll.cn) (1 + max n.lev ll.lev) n ll) (Nd.inner B2 (lr.cn.plus r.cn) (1 + max lr.lev r.lev) lr r) w1 hn hm hs.left hs.right (by show 1 + max n.lev ll.lev ≤ _; omega) (by show 1 + max lr.lev r.lev ≤ _; omega))
  have HQ := hide1 (fun B1 B2 B3 w' => @made_B2 Bm Bl B1 B2 B3 h hl c cl n ll lr r w w' on om h1 h2)
  clear hcc hs
  rw [n.val_eq]
  simp only [Nd.val]
  generalize hj : n.lev = j at l2 h1
  have HJ := hide1 hj
  clear hj hn hm on om
  have ta := assert_inner
  go_enter Tryd.func93, Tryd.ntmps93
  go_wp2_with fail
  rw [meth_level n 295 _ H.out.n, HJ.out]
  go_wp2_with fail
  refine (level_any n.cn j _).mono ?_
  rintro e w1 ⟨rfl, hb⟩
  replace H := hide1 (H.out.step hb)
  clear hb
  go_wp2_with fail
  rw [show (method 296 160 (.pointer (some ⟨Bm, 0, none⟩)) "vellum/atoms.level").run Tryd.prog _ = _ from meth_level (Nd.inner Bm c h (Nd.inner Bl cl hl ll lr) r) 295 _ H.out.m]
  go_wp2_with fail
  refine (level_any c h _).mono ?_
  rintro e w2 ⟨rfl, hb⟩
  replace H := hide1 (H.out.step hb)
  clear hb w1
  go_wp2_with fail
  rw [show (method 296 160 (.pointer (some ⟨Bm, 0, none⟩)) "vellum/atoms.level").run Tryd.prog _ = _ from meth_level (Nd.inner Bm c h (Nd.inner Bl cl hl ll lr) r) 295 _ H.out.m]
  go_wp2_with fail
  refine (level_any c h _).mono ?_
  rintro e w1 ⟨rfl, hb⟩
  replace H := hide1 (H.out.step hb)
  clear hb w2
  go_wp2_with fail
  rw [meth_level n 295 _ H.out.n, HJ.out]
  go_wp2_with fail
  refine (level_any n.cn j _).mono ?_
  rintro e w2 ⟨rfl, hb⟩
  replace H := hide1 (H.out.step hb)
  clear hb w1
  have hS := B2_start H.out
  obtain ⟨p9, p10, q9, q10, _⟩ := B2_start H.out
  generalize hrk : r.lev = rk at *
  have HRK := hide1 hrk
  clear hrk
  go_wp2_with fail
  go_region_held3 (fun w' => w'.cell? ⟨Bm, 9, none⟩ = some (.iface 160 (.pointer (some ⟨Bl, 0, none⟩))) ∧ w'.cell? ⟨Bm, 10, none⟩ = some (.iface r.ty (.pointer (some ⟨r.blk, 0, none⟩))) ∧ w'.cell? ⟨Bl, 9, none⟩ = some (.iface ll.ty (.pointer (some ⟨ll.blk, 0, none⟩))) ∧ w'.cell? ⟨Bl, 10, none⟩ = some (.iface lr.ty (.pointer (some ⟨lr.blk, 0, none⟩))) ∧ Two n (Nd.inner Bm c h (Nd.inner Bl cl hl ll lr) r) w w')
    (first | assumption | exact B2_drew (by assumption))
    (first
      | rw [meth_level r 295 _ (B2_r (by assumption)), HRK.out]
      | rw [show (method 296 160 (.pointer (some ⟨Bl, 0, none⟩)) "vellum/atoms.level").run Tryd.prog _ = _ from meth_level (Nd.inner Bl cl hl ll lr) 295 _ (B2_l (by assumption))]
      | (go_at_call 132; first | (refine (level_any r.cn rk _).mono ?_; rintro e w3 ⟨rfl, hb3⟩; have hS3 := B2_step (by assumption) hb3) | (refine (level_any cl hl _).mono ?_; rintro e w4 ⟨rfl, hb4⟩; have hS4 := B2_step (by assumption) hb4)))
  clear p9 p10 q9 q10
  obtain ⟨p9, p10, q9, q10, _⟩ := hS4
  go_wp2_with fail
  go_region_held3 (fun w' => w'.cell? ⟨Bm, 9, none⟩ = some (.iface 160 (.pointer (some ⟨Bl, 0, none⟩))) ∧ w'.cell? ⟨Bm, 10, none⟩ = some (.iface r.ty (.pointer (some ⟨r.blk, 0, none⟩))) ∧ w'.cell? ⟨Bl, 9, none⟩ = some (.iface ll.ty (.pointer (some ⟨ll.blk, 0, none⟩))) ∧ w'.cell? ⟨Bl, 10, none⟩ = some (.iface lr.ty (.pointer (some ⟨lr.blk, 0, none⟩))) ∧ Two n (Nd.inner Bm c h (Nd.inner Bl cl hl ll lr) r) w w')
    (first | assumption | exact B2_drew (by assumption))
    (first
      | (go_at_call 94; first
          | (refine (HA3.out B1 B2 _ (by assumption) (by assumption)).mono ?_; rintro e w7 ⟨B3, rfl, hi7, hb7⟩; have hS7 := B2_step (by assumption) hb7)
          | (have hB1 := Nat.le_refl B1; refine (HA2.out _ (B2_lr (by assumption)) (B2_r (by assumption))).mono ?_; rintro e w6 ⟨B2, rfl, hi6, hb6⟩; have hi56 := Nd.low hb6 hi5; have hS6 := B2_step (by assumption) hb6)
          | (refine (HA1.out _ (B2_n (by assumption)) (B2_ll (by assumption))).mono ?_; rintro e w5 ⟨B1, rfl, hi5, hb5⟩; have hS5 := B2_step (by assumption) hb5)))
  go_wp2_with fail
  go_ret
  exact ⟨_, HQ.out B1 B2 B3 w7 hi7 hS7.2.2.2.2.b⟩
end Go.Proofs.YtoejbngihecafaaDoor
