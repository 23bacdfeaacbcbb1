import Derived.Test.YtjbfgnhkgjigpaaDoorProg
import Derived.WalkKit
import Derived.WalkSpells
import Derived.WalkLawsBesides
import Derived.Deep.QuietTactic
import Derived.BigQuiet
import Derived.Deep.RegionHeld3
import Derived.Laws.BytesArg
import Derived.Test.YtjbfgnhkgjigpaaDoorGa0
namespace Go.Proofs.YtjbfgnhkgjigpaaDoor
open Go.RowKit

theorem made_B2 {Bm Bl B1 B2 B3 h hl : Nat} {c cl : Cn} {n ll lr r : Nd} {w w' : World} (on : n.Ok) (om : (Nd.inner Bm c h (Nd.inner Bl cl hl ll lr) r).Ok) (h1 : n.lev + 1 < h) (h2 : r.lev < hl)
    (hi : (Nd.inner B3 ((n.cn.plus ll.cn).plus (lr.cn.plus r.cn)) (1 + max (1 + max n.lev ll.lev) (1 + max lr.lev r.lev)) (Nd.inner B1 (n.cn.plus ll.cn) (1 + max n.lev ll.lev) n ll) (Nd.inner B2 (lr.cn.plus r.cn) (1 + max lr.lev r.lev) lr r)).In w') (hb : Below w.heap.size w w') :
    Made n (Nd.inner Bm c h (Nd.inner Bl cl hl ll lr) r) w (.returned (.iface 157 (.pointer (some ⟨B3, 0, none⟩)))) w' (Nd.inner B3 ((n.cn.plus ll.cn).plus (lr.cn.plus r.cn)) (1 + max (1 + max n.lev ll.lev) (1 + max lr.lev r.lev)) (Nd.inner B1 (n.cn.plus ll.cn) (1 + max n.lev ll.lev) n ll) (Nd.inner B2 (lr.cn.plus r.cn) (1 + max lr.lev r.lev) lr r)) := by
  obtain ⟨hc, hh, ⟨hcl, hhl, oll, olr⟩, or⟩ := om
  refine ⟨rfl, hi, ⟨rfl, rfl, ⟨rfl, rfl, on, oll⟩, rfl, rfl, olr, or⟩, ?_, ?_, ?_, ?_, hb⟩
  · show _ = n.cn.plus c
    rw [hc]
    show (n.cn.plus ll.cn).plus (lr.cn.plus r.cn) = n.cn.plus (cl.plus r.cn)
    rw [hcl, Cn.plus_assoc, Cn.plus_assoc]
  · simp [Nd.row]
  · show max n.lev h ≤ 1 + max (1 + max n.lev ll.lev) (1 + max lr.lev r.lev)
    have hh' : h = 1 + max hl r.lev := hh
    omega
  · show 1 + max (1 + max n.lev ll.lev) (1 + max lr.lev r.lev) ≤ 1 + max n.lev h
    have hh' : h = 1 + max hl r.lev := hh
    omega
section
variable {Bm Bl : Nat} {c cl : Cn} {h hl : Nat} {n ll lr r : Nd} {w w1 w2 : World}
theorem B2_start (H : Two n (Nd.inner Bm c h (Nd.inner Bl cl hl ll lr) r) w w1) : w1.cell? ⟨Bm, 9, none⟩ = some (.iface 157 (.pointer (some ⟨Bl, 0, none⟩))) ∧ w1.cell? ⟨Bm, 10, none⟩ = some (.iface r.ty (.pointer (some ⟨r.blk, 0, none⟩))) ∧ w1.cell? ⟨Bl, 9, none⟩ = some (.iface ll.ty (.pointer (some ⟨ll.blk, 0, none⟩))) ∧ w1.cell? ⟨Bl, 10, none⟩ = some (.iface lr.ty (.pointer (some ⟨lr.blk, 0, none⟩))) ∧ Two n (Nd.inner Bm c h (Nd.inner Bl cl hl ll lr) r) w w1 :=
  ⟨(inner_at H.m).1, (inner_at H.m).2, (inner_at H.m.2.1).1, (inner_at H.m.2.1).2, H⟩
theorem B2_step (H : w1.cell? ⟨Bm, 9, none⟩ = some (.iface 157 (.pointer (some ⟨Bl, 0, none⟩))) ∧ w1.cell? ⟨Bm, 10, none⟩ = some (.iface r.ty (.pointer (some ⟨r.blk, 0, none⟩))) ∧ w1.cell? ⟨Bl, 9, none⟩ = some (.iface ll.ty (.pointer (some ⟨ll.blk, 0, none⟩))) ∧ w1.cell? ⟨Bl, 10, none⟩ = some (.iface lr.ty (.pointer (some ⟨lr.blk, 0, none⟩))) ∧ Two n (Nd.inner Bm c h (Nd.inner Bl cl hl ll lr) r) w w1) (hb : Below w1.heap.size w1 w2) : w2.cell? ⟨Bm, 9, none⟩ = some (.iface 157 (.pointer (some ⟨Bl, 0, none⟩))) ∧ w2.cell? ⟨Bm, 10, none⟩ = some (.iface r.ty (.pointer (some ⟨r.blk, 0, none⟩))) ∧ w2.cell? ⟨Bl, 9, none⟩ = some (.iface ll.ty (.pointer (some ⟨ll.blk, 0, none⟩))) ∧ w2.cell? ⟨Bl, 10, none⟩ = some (.iface lr.ty (.pointer (some ⟨lr.blk, 0, none⟩))) ∧ Two n (Nd.inner Bm c h (Nd.inner Bl cl hl ll lr) r) w w2 := B2_start (H.2.2.2.2.step hb)
theorem B2_drew (H : w1.cell? ⟨Bm, 9, none⟩ = some (.iface 157 (.pointer (some ⟨Bl, 0, none⟩))) ∧ w1.cell? ⟨Bm, 10, none⟩ = some (.iface r.ty (.pointer (some ⟨r.blk, 0, none⟩))) ∧ w1.cell? ⟨Bl, 9, none⟩ = some (.iface ll.ty (.pointer (some ⟨ll.blk, 0, none⟩))) ∧ w1.cell? ⟨Bl, 10, none⟩ = some (.iface lr.ty (.pointer (some ⟨lr.blk, 0, none⟩))) ∧ Two n (Nd.inner Bm c h (Nd.inner Bl cl hl ll lr) r) w w1) : w1.drew.cell? ⟨Bm, 9, none⟩ = some (.iface 157 (.pointer (some ⟨Bl, 0, none⟩))) ∧ w1.drew.cell? ⟨Bm, 10, none⟩ = some (.iface r.ty (.pointer (some ⟨r.blk, 0, none⟩))) ∧ w1.drew.cell? ⟨Bl, 9, none⟩ = some (.iface ll.ty (.pointer (some ⟨ll.blk, 0, none⟩))) ∧ w1.drew.cell? ⟨Bl, 10, none⟩ = some (.iface lr.ty (.pointer (some ⟨lr.blk, 0, none⟩))) ∧ Two n (Nd.inner Bm c h (Nd.inner Bl cl hl ll lr) r) w w1.drew := B2_step H ((Below.refl _ _).drew)
theorem B2_l (H : w1.cell? ⟨Bm, 9, none⟩ = some (.iface 157 (.pointer (some ⟨Bl, 0, none⟩))) ∧ w1.cell? ⟨Bm, 10, none⟩ = some (.iface r.ty (.pointer (some ⟨r.blk, 0, none⟩))) ∧ w1.cell? ⟨Bl, 9, none⟩ = some (.iface ll.ty (.pointer (some ⟨ll.blk, 0, none⟩))) ∧ w1.cell? ⟨Bl, 10, none⟩ = some (.iface lr.ty (.pointer (some ⟨lr.blk, 0, none⟩))) ∧ Two n (Nd.inner Bm c h (Nd.inner Bl cl hl ll lr) r) w w1) : (Nd.inner Bl cl hl ll lr).In w1 := H.2.2.2.2.m.2.1
theorem B2_ll (H : w1.cell? ⟨Bm, 9, none⟩ = some (.iface 157 (.pointer (some ⟨Bl, 0, none⟩))) ∧ w1.cell? ⟨Bm, 10, none⟩ = some (.iface r.ty (.pointer (some ⟨r.blk, 0, none⟩))) ∧ w1.cell? ⟨Bl, 9, none⟩ = some (.iface ll.ty (.pointer (some ⟨ll.blk, 0, none⟩))) ∧ w1.cell? ⟨Bl, 10, none⟩ = some (.iface lr.ty (.pointer (some ⟨lr.blk, 0, none⟩))) ∧ Two n (Nd.inner Bm c h (Nd.inner Bl cl hl ll lr) r) w w1) : ll.In w1 := H.2.2.2.2.m.2.1.2.1
theorem B2_lr (H : w1.cell? ⟨Bm, 9, none⟩ = some (.iface 157 (.pointer (some ⟨Bl, 0, none⟩))) ∧ w1.cell? ⟨Bm, 10, none⟩ = some (.iface r.ty (.pointer (some ⟨r.blk, 0, none⟩))) ∧ w1.cell? ⟨Bl, 9, none⟩ = some (.iface ll.ty (.pointer (some ⟨ll.blk, 0, none⟩))) ∧ w1.cell? ⟨Bl, 10, none⟩ = some (.iface lr.ty (.pointer (some ⟨lr.blk, 0, none⟩))) ∧ Two n (Nd.inner Bm c h (Nd.inner Bl cl hl ll lr) r) w w1) : lr.In w1 := H.2.2.2.2.m.2.1.2.2
theorem B2_r (H : w1.cell? ⟨Bm, 9, none⟩ = some (.iface 157 (.pointer (some ⟨Bl, 0, none⟩))) ∧ w1.cell? ⟨Bm, 10, none⟩ = some (.iface r.ty (.pointer (some ⟨r.blk, 0, none⟩))) ∧ w1.cell? ⟨Bl, 9, none⟩ = some (.iface ll.ty (.pointer (some ⟨ll.blk, 0, none⟩))) ∧ w1.cell? ⟨Bl, 10, none⟩ = some (.iface lr.ty (.pointer (some ⟨lr.blk, 0, none⟩))) ∧ Two n (Nd.inner Bm c h (Nd.inner Bl cl hl ll lr) r) w w1) : r.In w1 := H.2.2.2.2.m.2.2
theorem B2_n (H : w1.cell? ⟨Bm, 9, none⟩ = some (.iface 157 (.pointer (some ⟨Bl, 0, none⟩))) ∧ w1.cell? ⟨Bm, 10, none⟩ = some (.iface r.ty (.pointer (some ⟨r.blk, 0, none⟩))) ∧ w1.cell? ⟨Bl, 9, none⟩ = some (.iface ll.ty (.pointer (some ⟨ll.blk, 0, none⟩))) ∧ w1.cell? ⟨Bl, 10, none⟩ = some (.iface lr.ty (.pointer (some ⟨lr.blk, 0, none⟩))) ∧ Two n (Nd.inner Bm c h (Nd.inner Bl cl hl ll lr) r) w w1) : n.In w1 := H.2.2.2.2.n
end
set_option maxRecDepth 100000 in
set_option maxHeartbeats 1000000 in
theorem leveled_B2 (Bm Bl : Nat) (c cl : Cn) (h hl : Nat) (n ll lr r : Nd) (w : World) (hn : n.In w) (hm : (Nd.inner Bm c h (Nd.inner Bl cl hl ll lr) r).In w) (on : n.Ok) (om : (Nd.inner Bm c h (Nd.inner Bl cl hl ll lr) r).Ok) (hs : (n.cn.plus c).Small) (hr : n.row.length + (Nd.inner Bm c h (Nd.inner Bl cl hl ll lr) r).row.length ≤ 1152921504606846976) (h1 : n.lev + 1 < h) (h2 : r.lev < hl) :
    Calls Tryd.prog 93 #[n.val, (Nd.inner Bm c h (Nd.inner Bl cl hl ll lr) r).val] w fun e w' => ∃ q, Made n (Nd.inner Bm c h (Nd.inner Bl cl hl ll lr) r) w e w' q := by
  have l1 : h < _ := Nd.lev_row om
  have l2 := Nd.lev_row on
  have l3 := Nd.lev_row om.2.2.1.2.2.1
  have l4 := Nd.lev_row om.2.2.1.2.2.2
  have l5 := Nd.lev_row om.2.2.2
  have l6 : hl < _ := Nd.lev_row om.2.2.1
  have hrow : (Nd.inner Bm c h (Nd.inner Bl cl hl ll lr) r).row.length = ll.row.length + lr.row.length + r.row.length := by simp [Nd.row]; omega
  have H := hide1 (Two.mk hn hm (Below.refl w.heap.size w))
  have hcc : n.cn.plus c = (n.cn.plus ll.cn).plus (lr.cn.plus r.cn) := by
    have e1 : c = cl.plus r.cn := om.1
    have e2 : cl = ll.cn.plus lr.cn := om.2.2.1.1
    rw [e1, e2, Cn.plus_assoc, Cn.plus_assoc]
  rw [hcc] at hs
  have HA1 := hide1 (fun w1 (hn : n.In w1) (hm : ll.In w1) => above_val n ll w1 hn hm hs.left.left hs.left.right (by omega) (by omega))
  have HA2 := hide1 (fun w1 (hn : lr.In w1) (hm : r.In w1) => above_val lr r w1 hn hm hs.right.left hs.right.right (by omega) (by omega))
  have HA3 := hide1 (fun B1 B2 w1 (hn : (Nd.inner B1 (n.cn.plus ll.cn) (1 + max n.lev ll.lev) n ll).In w1) (hm : (Nd.inner B2 (lr.cn.plus r.cn) (1 + max lr.lev r.lev) lr r).In w1) => above_val (Nd.inner B1 (n.cn.plus ll.cn) (1 + max n.lev ll.lev) n ll) (Nd.inner B2 (lr.cn.plus r.cn) (1 + max lr.lev r.lev) lr r) w1 hn hm hs.left hs.right (by show 1 + max n.lev ll.lev ≤ _; omega) (by show 1 + max lr.lev r.lev ≤ _; omega))
  have HQ := hide1 (fun B1 B2 B3 w' => @made_B2 Bm Bl B1 B2 B3 h hl c cl n ll lr r w w' on om h1 h2)
  clear hcc hs
  rw [n.val_eq]
  simp only [Nd.val]
  generalize hj : n.lev = j at l2 h1
  have HJ := hide1 hj
  clear hj hn hm on om
  have ta := assert_inner
  go_enter Tryd.func93, Tryd.ntmps93
  go_wp2_with fail
  rw [meth_level n 292 _ H.out.n, HJ.out]
  go_wp2_with fail
  refine (level_any n.cn j _).mono ?_
  rintro e w1 ⟨rfl, hb⟩
  replace H := hide1 (H.out.step hb)
  clear hb
  go_wp2_with fail
  rw [show (method 293 157 (.pointer (some ⟨Bm, 0, none⟩)) "vellum/atoms.level").run Tryd.prog _ = _ from meth_level (Nd.inner Bm c h (Nd.inner Bl cl hl ll lr) r) 292 _ H.out.m]
  go_wp2_with fail
  refine (level_any c h _).mono ?_
  rintro e w2 ⟨rfl, hb⟩
  replace H := hide1 (H.out.step hb)
  clear hb w1
  go_wp2_with fail
  rw [show (method 293 157 (.pointer (some ⟨Bm, 0, none⟩)) "vellum/atoms.level").run Tryd.prog _ = _ from meth_level (Nd.inner Bm c h (Nd.inner Bl cl hl ll lr) r) 292 _ H.out.m]
  go_wp2_with fail
  refine (level_any c h _).mono ?_
  rintro e w1 ⟨rfl, hb⟩
  replace H := hide1 (H.out.step hb)
  clear hb w2
  go_wp2_with fail
  rw [meth_level n 292 _ H.out.n, HJ.out]
  go_wp2_with fail
  refine (level_any n.cn j _).mono ?_
  rintro e w2 ⟨rfl, hb⟩
  replace H := hide1 (H.out.step hb)
  clear hb w1
  have hS := B2_start H.out
  obtain ⟨p9, p10, q9, q10, _⟩ := B2_start H.out
  generalize hrk : r.lev = rk at *
  have HRK := hide1 hrk
  clear hrk
  go_wp2_with fail
  go_region_held3 (fun w' => w'.cell? ⟨Bm, 9, none⟩ = some (.iface 157 (.pointer (some ⟨Bl, 0, none⟩))) ∧ w'.cell? ⟨Bm, 10, none⟩ = some (.iface r.ty (.pointer (some ⟨r.blk, 0, none⟩))) ∧ w'.cell? ⟨Bl, 9, none⟩ = some (.iface ll.ty (.pointer (some ⟨ll.blk, 0, none⟩))) ∧ w'.cell? ⟨Bl, 10, none⟩ = some (.iface lr.ty (.pointer (some ⟨lr.blk, 0, none⟩))) ∧ Two n (Nd.inner Bm c h (Nd.inner Bl cl hl ll lr) r) w w')
    (first | assumption | exact B2_drew (by assumption))
    (first
      | rw [meth_level r 292 _ (B2_r (by assumption)), HRK.out]
      | rw [show (method 293 157 (.pointer (some ⟨Bl, 0, none⟩)) "vellum/atoms.level").run Tryd.prog _ = _ from meth_level (Nd.inner Bl cl hl ll lr) 292 _ (B2_l (by assumption))]
      | (go_at_call 132; first | (refine (level_any r.cn rk _).mono ?_; rintro e w3 ⟨rfl, hb3⟩; have hS3 := B2_step (by assumption) hb3) | (refine (level_any cl hl _).mono ?_; rintro e w4 ⟨rfl, hb4⟩; have hS4 := B2_step (by assumption) hb4)))
  clear p9 p10 q9 q10
  obtain ⟨p9, p10, q9, q10, _⟩ := hS4
  go_wp2_with fail
  go_region_held3 (fun w' => w'.cell? ⟨Bm, 9, none⟩ = some (.iface 157 (.pointer (some ⟨Bl, 0, none⟩))) ∧ w'.cell? ⟨Bm, 10, none⟩ = some (.iface r.ty (.pointer (some ⟨r.blk, 0, none⟩))) ∧ w'.cell? ⟨Bl, 9, none⟩ = some (.iface ll.ty (.pointer (some ⟨ll.blk, 0, none⟩))) ∧ w'.cell? ⟨Bl, 10, none⟩ = some (.iface lr.ty (.pointer (some ⟨lr.blk, 0, none⟩))) ∧ Two n (Nd.inner Bm c h (Nd.inner Bl cl hl ll lr) r) w w')
    (first | assumption | exact B2_drew (by assumption))
    (first
      | (go_at_call 94; first
          | (refine (HA3.out B1 B2 _ (by assumption) (by assumption)).mono ?_; rintro e w7 ⟨B3, rfl, hi7, hb7⟩; have hS7 := B2_step (by assumption) hb7)
          | (have hB1 := Nat.le_refl B1; refine (HA2.out _ (B2_lr (by assumption)) (B2_r (by assumption))).mono ?_; rintro e w6 ⟨B2, rfl, hi6, hb6⟩; have hi56 := Nd.low hb6 hi5; have hS6 := B2_step (by assumption) hb6)
          | (refine (HA1.out _ (B2_n (by assumption)) (B2_ll (by assumption))).mono ?_; rintro e w5 ⟨B1, rfl, hi5, hb5⟩; have hS5 := B2_step (by assumption) hb5)))
  go_wp2_with fail
  go_ret
  exact ⟨_, HQ.out B1 B2 B3 w7 hi7 hS7.2.2.2.2.b⟩
end Go.Proofs.YtjbfgnhkgjigpaaDoor

namespace Go.Proofs.YtjbfgnhkgjigpaaDoor
open Go.RowKit

/-- One tree of two. -/
structure Joined (n m : Nd) (w : World) (e : Ending) (w' : World) (r : Nd) : Prop where
  val : e = .returned (.iface r.ty (.pointer (some ⟨r.blk, 0, none⟩)))
  inn : r.In w'
  ok : r.Ok
  cn : r.cn = n.cn.plus m.cn
  row : r.row = n.row ++ m.row
  below : Below w.heap.size w w'
theorem Made.joined {n m r : Nd} {w w' : World} {e : Ending} (h : Made n m w e w' r) : Joined n m w e w' r :=
  ⟨by rw [h.val, r.val_eq], h.inn, h.ok, h.cn, h.row, h.below⟩
theorem leveled_any (n m : Nd) (w : World) (hn : n.In w) (hm : m.In w) (on : n.Ok) (om : m.Ok) (hs : (n.cn.plus m.cn).Small) (hr : n.row.length + m.row.length ≤ 1152921504606846976) :
    Calls Tryd.prog 93 #[.iface n.ty (.pointer (some ⟨n.blk, 0, none⟩)), .iface m.ty (.pointer (some ⟨m.blk, 0, none⟩))] w fun e w' => ∃ r, Joined n m w e w' r := by
  rw [← n.val_eq, ← m.val_eq]
  have key : Calls Tryd.prog 93 #[n.val, m.val] w fun e w' => ∃ r, Made n m w e w' r := by
    by_cases h1 : m.lev + 1 < n.lev
    · cases n with
      | leaf B c s => exact absurd h1 (by simp [Nd.lev])
      | inner B c h l r =>
        by_cases h2 : r.lev ≤ l.lev
        · exact leveled_A1 B c h l r m w hn hm on om hs hr h1 h2
        · cases r with
          | leaf B' c' s' => exact absurd h2 (by simp [Nd.lev])
          | inner B' c' h' l' r' => exact leveled_A2 B B' c c' h h' l l' r' m w hn hm on om hs hr h1 (by have : ¬ h' ≤ l.lev := h2; omega)
    · by_cases h3 : n.lev + 1 < m.lev
      · cases m with
        | leaf B c s => exact absurd h3 (by simp [Nd.lev])
        | inner B c h l r =>
          by_cases h2 : l.lev ≤ r.lev
          · exact leveled_B1 B c h n l r w hn hm on om hs hr h3 h2
          · cases l with
            | leaf B' c' s' => exact absurd h2 (by simp [Nd.lev])
            | inner B' c' h' l' r' => exact leveled_B2 B B' c c' h h' n l' r' r w hn hm on om hs hr h3 (by have : ¬ h' ≤ r.lev := h2; omega)
      · exact leveled_C n m w hn hm on om hs hr (by omega) (by omega)
  exact key.mono fun e w' ⟨r, h⟩ => ⟨r, h.joined⟩

set_option maxRecDepth 100000 in
set_option maxHeartbeats 1000000 in
theorem join_C (n m : Nd) (w : World) (hn : n.In w) (hm : m.In w) (on : n.Ok) (om : m.Ok) (hs : (n.cn.plus m.cn).Small) (hr : n.row.length + m.row.length ≤ 1152921504606846976) (h1 : n.lev ≤ m.lev + 1) (h2 : m.lev ≤ n.lev + 1) :
    Calls Tryd.prog 81 #[.iface n.ty (.pointer (some ⟨n.blk, 0, none⟩)), .iface m.ty (.pointer (some ⟨m.blk, 0, none⟩))] w fun e w' => ∃ r, Joined n m w e w' r := by
  have l1 := Nd.lev_row on
  have l2 := Nd.lev_row om
  have HA := hide1 (fun w1 (hn : n.In w1) (hm : m.In w1) => above_val n m w1 hn hm hs.left hs.right (by omega) (by omega))
  have HO := hide1 on
  have HO2 := hide1 om
  have H := hide1 (Two.mk hn hm (Below.refl w.heap.size w))
  generalize hk : n.lev = k at l1 l2 h1 h2
  generalize hj : m.lev = j at l1 l2 h1 h2
  have HK := hide1 hk
  have HJ := hide1 hj
  clear hk hj hn hm on om
  go_enter Tryd.func81, Tryd.ntmps81
  go_wp2_with fail
  rw [meth_level n 292 _ H.out.n, HK.out]
  go_wp2_with fail
  refine (level_any n.cn k _).mono ?_
  rintro e w1 ⟨rfl, hb⟩
  replace H := hide1 (H.out.step hb)
  clear hb
  go_wp2_with fail
  rw [meth_level m 292 _ H.out.m, HJ.out]
  go_wp2_with fail
  refine (level_any m.cn j _).mono ?_
  rintro e w2 ⟨rfl, hb⟩
  replace H := hide1 (H.out.step hb)
  clear hb w1
  go_wp2_with fail
  rw [meth_level m 292 _ H.out.m, HJ.out]
  go_wp2_with fail
  refine (level_any m.cn j _).mono ?_
  rintro e w1 ⟨rfl, hb⟩
  replace H := hide1 (H.out.step hb)
  clear hb w2
  go_wp2_with fail
  rw [meth_level n 292 _ H.out.n, HK.out]
  go_wp2_with fail
  refine (level_any n.cn k _).mono ?_
  rintro e w2 ⟨rfl, hb⟩
  replace H := hide1 (H.out.step hb)
  clear hb w1
  go_wp2_with fail
  refine (HA.out _ H.out.n H.out.m).mono ?_
  rintro e w3 ⟨B, rfl, hi, hb⟩
  have hb3 := H.out.b.trans (hb.mono H.out.b.size)
  go_wp2_with fail
  go_ret
  exact ⟨_, (above_made HO.out HO2.out hi hb3 _ rfl).joined⟩

theorem joined_A {Bn h : Nat} {c : Cn} {l r m q p : Nd} {w w5 w6 W : World} (on : (Nd.inner Bn c h l r).Ok) {e e' : Ending} (H : Two (Nd.inner Bn c h l r) m w w6) (hq : Joined r m W e w5 q) {W' : World} (hp : Joined l q W' e' w6 p) : Joined (Nd.inner Bn c h l r) m w e' w6 p :=
  ⟨hp.val, hp.inn, hp.ok, by rw [hp.cn, hq.cn]; show _ = c.plus m.cn; rw [on.1, Cn.plus_assoc], by rw [hp.row, hq.row]; simp [Nd.row], H.b⟩
theorem joined_B {Bm h : Nat} {c : Cn} {n l r q p : Nd} {w w5 w6 W : World} (om : (Nd.inner Bm c h l r).Ok) {e e' : Ending} (H : Two n (Nd.inner Bm c h l r) w w6) (hq : Joined n l W e w5 q) {W' : World} (hp : Joined q r W' e' w6 p) : Joined n (Nd.inner Bm c h l r) w e' w6 p :=
  ⟨hp.val, hp.inn, hp.ok, by rw [hp.cn, hq.cn]; show _ = n.cn.plus c; rw [om.1, Cn.plus_assoc], by rw [hp.row, hq.row]; simp [Nd.row], H.b⟩

set_option maxRecDepth 100000 in
set_option maxHeartbeats 1000000 in
theorem join_A (Bn : Nat) (c : Cn) (h : Nat) (l r m : Nd) (w : World) (hn : (Nd.inner Bn c h l r).In w) (hm : m.In w) (on : (Nd.inner Bn c h l r).Ok) (om : m.Ok) (hs : (c.plus m.cn).Small) (hr : (Nd.inner Bn c h l r).row.length + m.row.length ≤ 1152921504606846976) (h1 : m.lev + 1 < h)
    (ih : ∀ w1, r.In w1 → m.In w1 → Calls Tryd.prog 81 #[.iface r.ty (.pointer (some ⟨r.blk, 0, none⟩)), .iface m.ty (.pointer (some ⟨m.blk, 0, none⟩))] w1 fun e w' => ∃ q, Joined r m w1 e w' q) :
    Calls Tryd.prog 81 #[.iface 157 (.pointer (some ⟨Bn, 0, none⟩)), .iface m.ty (.pointer (some ⟨m.blk, 0, none⟩))] w fun e w' => ∃ q, Joined (Nd.inner Bn c h l r) m w e w' q := by
  have l1 : h < _ := Nd.lev_row on
  have l2 := Nd.lev_row om
  have hrow : (Nd.inner Bn c h l r).row.length = l.row.length + r.row.length := by simp [Nd.row]
  have H := hide1 (Two.mk hn hm (Below.refl w.heap.size w))
  have hcc : c.plus m.cn = l.cn.plus (r.cn.plus m.cn) := by rw [on.1, Cn.plus_assoc]
  rw [hcc] at hs
  have HI := hide1 ih
  have HL := hide1 (fun (q : Nd) (W W' w1 : World) (e : Ending) (hq : Joined r m W e W' q) (hn : l.In w1) (hm : q.In w1) => leveled_any l q w1 hn hm on.2.2.1 hq.ok (by rw [hq.cn]; exact hs) (by rw [hq.row, List.length_append]; omega))
  have HQ := hide1 (fun (q p : Nd) (w5 w6 W : World) (e e' : Ending) => @joined_A Bn h c l r m q p w w5 w6 W on e e')
  clear hcc hs ih
  generalize hj : m.lev = j at l2 h1
  have HJ := hide1 hj
  clear hj hn hm on om
  have ta := assert_inner
  go_enter Tryd.func81, Tryd.ntmps81
  go_wp2_with fail
  rw [show (method 293 157 (.pointer (some ⟨Bn, 0, none⟩)) "vellum/atoms.level").run Tryd.prog _ = _ from meth_level (Nd.inner Bn c h l r) 292 _ H.out.n]
  go_wp2_with fail
  refine (level_any c h _).mono ?_
  rintro e w1 ⟨rfl, hb⟩
  replace H := hide1 (H.out.step hb)
  clear hb
  go_wp2_with fail
  rw [meth_level m 292 _ H.out.m, HJ.out]
  go_wp2_with fail
  refine (level_any m.cn j _).mono ?_
  rintro e w2 ⟨rfl, hb⟩
  replace H := hide1 (H.out.step hb)
  clear hb w1
  have hS := A_start H.out
  obtain ⟨p9, p10, _⟩ := A_start H.out
  go_wp2_with fail
  go_region_held3 (fun w' => w'.cell? ⟨Bn, 9, none⟩ = some (.iface l.ty (.pointer (some ⟨l.blk, 0, none⟩))) ∧ w'.cell? ⟨Bn, 10, none⟩ = some (.iface r.ty (.pointer (some ⟨r.blk, 0, none⟩))) ∧ Two (Nd.inner Bn c h l r) m w w')
    (first | assumption | exact A_drew (by assumption))
    (first
      | (go_at_call 93; refine (HL.out q _ _ _ _ hq (A_l (by assumption)) hq.inn).mono ?_; rintro e w6 ⟨p, hp⟩; obtain rfl := hp.val; have hS6 := A_step (by assumption) hp.below)
      | (go_at_call 81; refine (HI.out _ (A_r (by assumption)) (A_m (by assumption))).mono ?_; rintro e w5 ⟨q, hq⟩; obtain rfl := hq.val; have hS5 := A_step (by assumption) hq.below))
  go_wp2_with fail
  go_ret
  exact ⟨_, HQ.out q p _ _ _ _ _ hS6.2.2 hq hp⟩
end Go.Proofs.YtjbfgnhkgjigpaaDoor

namespace Go.Proofs.YtjbfgnhkgjigpaaDoor
open Go.RowKit

set_option maxRecDepth 100000 in
set_option maxHeartbeats 1000000 in
theorem join_B (Bm : Nat) (c : Cn) (h : Nat) (n l r : Nd) (w : World) (hn : n.In w) (hm : (Nd.inner Bm c h l r).In w) (on : n.Ok) (om : (Nd.inner Bm c h l r).Ok) (hs : (n.cn.plus c).Small) (hr : n.row.length + (Nd.inner Bm c h l r).row.length ≤ 1152921504606846976) (h1 : n.lev + 1 < h)
    (ih : ∀ w1, n.In w1 → l.In w1 → Calls Tryd.prog 81 #[.iface n.ty (.pointer (some ⟨n.blk, 0, none⟩)), .iface l.ty (.pointer (some ⟨l.blk, 0, none⟩))] w1 fun e w' => ∃ q, Joined n l w1 e w' q) :
    Calls Tryd.prog 81 #[.iface n.ty (.pointer (some ⟨n.blk, 0, none⟩)), .iface 157 (.pointer (some ⟨Bm, 0, none⟩))] w fun e w' => ∃ q, Joined n (Nd.inner Bm c h l r) w e w' q := by
  have l1 : h < _ := Nd.lev_row om
  have l2 := Nd.lev_row on
  have hrow : (Nd.inner Bm c h l r).row.length = l.row.length + r.row.length := by simp [Nd.row]
  have H := hide1 (Two.mk hn hm (Below.refl w.heap.size w))
  have hcc : n.cn.plus c = (n.cn.plus l.cn).plus r.cn := by rw [om.1, Cn.plus_assoc]
  rw [hcc] at hs
  have HI := hide1 ih
  have HL := hide1 (fun (q : Nd) (W W' w1 : World) (e : Ending) (hq : Joined n l W e W' q) (hn : q.In w1) (hm : r.In w1) => leveled_any q r w1 hn hm hq.ok om.2.2.2 (by rw [hq.cn]; exact hs) (by rw [hq.row, List.length_append]; omega))
  have HQ := hide1 (fun (q p : Nd) (w5 w6 W : World) (e e' : Ending) => @joined_B Bm h c n l r q p w w5 w6 W om e e')
  clear hcc hs ih
  generalize hj : n.lev = j at l2 h1
  have HJ := hide1 hj
  clear hj hn hm on om
  have ta := assert_inner
  go_enter Tryd.func81, Tryd.ntmps81
  go_wp2_with fail
  rw [meth_level n 292 _ H.out.n, HJ.out]
  go_wp2_with fail
  refine (level_any n.cn j _).mono ?_
  rintro e w1 ⟨rfl, hb⟩
  replace H := hide1 (H.out.step hb)
  clear hb
  go_wp2_with fail
  rw [show (method 293 157 (.pointer (some ⟨Bm, 0, none⟩)) "vellum/atoms.level").run Tryd.prog _ = _ from meth_level (Nd.inner Bm c h l r) 292 _ H.out.m]
  go_wp2_with fail
  refine (level_any c h _).mono ?_
  rintro e w2 ⟨rfl, hb⟩
  replace H := hide1 (H.out.step hb)
  clear hb w1
  go_wp2_with fail
  rw [show (method 293 157 (.pointer (some ⟨Bm, 0, none⟩)) "vellum/atoms.level").run Tryd.prog _ = _ from meth_level (Nd.inner Bm c h l r) 292 _ H.out.m]
  go_wp2_with fail
  refine (level_any c h _).mono ?_
  rintro e w1 ⟨rfl, hb⟩
  replace H := hide1 (H.out.step hb)
  clear hb w2
  go_wp2_with fail
  rw [meth_level n 292 _ H.out.n, HJ.out]
  go_wp2_with fail
  refine (level_any n.cn j _).mono ?_
  rintro e w2 ⟨rfl, hb⟩
  replace H := hide1 (H.out.step hb)
  clear hb w1
  have hS := B_start H.out
  obtain ⟨p9, p10, _⟩ := B_start H.out
  go_wp2_with fail
  go_region_held3 (fun w' => w'.cell? ⟨Bm, 9, none⟩ = some (.iface l.ty (.pointer (some ⟨l.blk, 0, none⟩))) ∧ w'.cell? ⟨Bm, 10, none⟩ = some (.iface r.ty (.pointer (some ⟨r.blk, 0, none⟩))) ∧ Two n (Nd.inner Bm c h l r) w w')
    (first | assumption | exact B_drew (by assumption))
    (first
      | (go_at_call 93; refine (HL.out q _ _ _ _ hq hq.inn (B_r (by assumption))).mono ?_; rintro e w6 ⟨p, hp⟩; obtain rfl := hp.val; have hS6 := B_step (by assumption) hp.below)
      | (go_at_call 81; refine (HI.out _ (B_n (by assumption)) (B_l (by assumption))).mono ?_; rintro e w5 ⟨q, hq⟩; obtain rfl := hq.val; have hS5 := B_step (by assumption) hq.below))
  go_wp2_with fail
  go_ret
  exact ⟨_, HQ.out q p _ _ _ _ _ hS6.2.2 hq hp⟩

theorem join_any : ∀ (k : Nat) (n m : Nd) (w : World), n.lev + m.lev ≤ k → n.In w → m.In w → n.Ok → m.Ok → (n.cn.plus m.cn).Small → n.row.length + m.row.length ≤ 1152921504606846976 →
    Calls Tryd.prog 81 #[.iface n.ty (.pointer (some ⟨n.blk, 0, none⟩)), .iface m.ty (.pointer (some ⟨m.blk, 0, none⟩))] w fun e w' => ∃ r, Joined n m w e w' r := by
  intro k
  induction k with
  | zero => intro n m w hk hn hm on om hs hr; exact join_C n m w hn hm on om hs hr (by omega) (by omega)
  | succ k ih =>
    intro n m w hk hn hm on om hs hr
    by_cases h1 : m.lev + 1 < n.lev
    · cases n with
      | leaf B c s => exact absurd h1 (by simp [Nd.lev])
      | inner B c h l r =>
        have hh : h = 1 + max l.lev r.lev := on.2.1
        have hrow : (Nd.inner B c h l r).row.length = l.row.length + r.row.length := by simp [Nd.row]
        have hcc : c.plus m.cn = l.cn.plus (r.cn.plus m.cn) := by rw [on.1, Cn.plus_assoc]
        have hs' : (l.cn.plus (r.cn.plus m.cn)).Small := by rw [← hcc]; exact hs
        have hk' : h + m.lev ≤ k + 1 := hk
        exact join_A B c h l r m w hn hm on om hs hr h1 (fun w1 h1 h2 => ih r m w1 (by omega) h1 h2 on.2.2.2 om hs'.right (by omega))
    · by_cases h3 : n.lev + 1 < m.lev
      · cases m with
        | leaf B c s => exact absurd h3 (by simp [Nd.lev])
        | inner B c h l r =>
          have hh : h = 1 + max l.lev r.lev := om.2.1
          have hrow : (Nd.inner B c h l r).row.length = l.row.length + r.row.length := by simp [Nd.row]
          have hcc : n.cn.plus c = (n.cn.plus l.cn).plus r.cn := by rw [om.1, Cn.plus_assoc]
          have hs' : ((n.cn.plus l.cn).plus r.cn).Small := by rw [← hcc]; exact hs
          have hk' : n.lev + h ≤ k + 1 := hk
          exact join_B B c h n l r w hn hm on om hs hr h3 (fun w1 h1 h2 => ih n l w1 (by omega) h1 h2 on om.2.2.1 hs'.left (by omega))
      · exact join_C n m w hn hm on om hs hr (by omega) (by omega)
end Go.Proofs.YtjbfgnhkgjigpaaDoor

namespace Vm

/-- The table of first bytes: the greatest first byte of each row. -/
def sqUp (r : Nat) : Int :=
  match r with
  | 0 => 127 | 1 => 193 | 2 => 223 | 3 => 224 | 4 => 236 | 5 => 237 | 6 => 239 | 7 => 240 | 8 => 243 | 9 => 244 | _ => 255
def sqSize (r : Nat) : Int :=
  match r with
  | 0 => 1 | 1 => 2 | 2 => 2 | 3 => 3 | 4 => 3 | 5 => 3 | 6 => 3 | 7 => 4 | 8 => 4 | 9 => 4 | _ => 2
def sqBits (r : Nat) : Int :=
  match r with
  | 0 => 127 | 1 => 0 | 2 => 31 | 3 => 15 | 4 => 15 | 5 => 15 | 6 => 15 | 7 => 7 | 8 => 7 | 9 => 7 | _ => 0
def sqLeast (r : Nat) : Int :=
  match r with
  | 0 => 0 | 1 => 255 | 2 => 128 | 3 => 160 | 4 => 128 | 5 => 128 | 6 => 128 | 7 => 144 | 8 => 128 | 9 => 128 | _ => 255
def sqMost (r : Nat) : Int :=
  match r with
  | 0 => 0 | 1 => 0 | 2 => 191 | 3 => 191 | 4 => 191 | 5 => 159 | 6 => 191 | 7 => 191 | 8 => 191 | 9 => 143 | _ => 0

/-- The row of a first byte. -/
def sqRow (c : Int) : Nat :=
  if c ≤ 127 then 0 else if c ≤ 193 then 1 else if c ≤ 223 then 2 else if c ≤ 224 then 3 else if c ≤ 236 then 4 else if c ≤ 237 then 5
  else if c ≤ 239 then 6 else if c ≤ 240 then 7 else if c ≤ 243 then 8 else if c ≤ 244 then 9 else 10

theorem sqRow_cases (c : Int) : (c ≤ 127 ∧ sqRow c = 0) ∨ (127 < c ∧ c ≤ 193 ∧ sqRow c = 1) ∨ (193 < c ∧ c ≤ 223 ∧ sqRow c = 2) ∨ (223 < c ∧ c ≤ 224 ∧ sqRow c = 3) ∨ (224 < c ∧ c ≤ 236 ∧ sqRow c = 4) ∨
    (236 < c ∧ c ≤ 237 ∧ sqRow c = 5) ∨ (237 < c ∧ c ≤ 239 ∧ sqRow c = 6) ∨ (239 < c ∧ c ≤ 240 ∧ sqRow c = 7) ∨ (240 < c ∧ c ≤ 243 ∧ sqRow c = 8) ∨ (243 < c ∧ c ≤ 244 ∧ sqRow c = 9) ∨ (244 < c ∧ sqRow c = 10) := by
  unfold sqRow; (repeat' split) <;> omega
theorem sqRow_le (c : Int) : sqRow c ≤ 10 := by have := sqRow_cases c; omega
theorem sqUp_all : sqUp 0 = 127 ∧ sqUp 1 = 193 ∧ sqUp 2 = 223 ∧ sqUp 3 = 224 ∧ sqUp 4 = 236 ∧ sqUp 5 = 237 ∧ sqUp 6 = 239 ∧ sqUp 7 = 240 ∧ sqUp 8 = 243 ∧ sqUp 9 = 244 ∧ sqUp 10 = 255 := ⟨rfl, rfl, rfl, rfl, rfl, rfl, rfl, rfl, rfl, rfl, rfl⟩
theorem sqRow_lt {c : Int} {k : Nat} (hk : k < sqRow c) : sqUp k < c := by
  have h := sqRow_cases c
  obtain ⟨u0, u1, u2, u3, u4, u5, u6, u7, u8, u9, u10⟩ := sqUp_all
  have hk' : k = 0 ∨ k = 1 ∨ k = 2 ∨ k = 3 ∨ k = 4 ∨ k = 5 ∨ k = 6 ∨ k = 7 ∨ k = 8 ∨ k = 9 := by omega
  rcases hk' with rfl | rfl | rfl | rfl | rfl | rfl | rfl | rfl | rfl | rfl <;> omega
theorem sqRow_at {c : Int} (h0 : c ≤ 255) : c ≤ sqUp (sqRow c) := by
  obtain ⟨u0, u1, u2, u3, u4, u5, u6, u7, u8, u9, u10⟩ := sqUp_all
  rcases sqRow_cases c with ⟨a, h⟩ | ⟨_, a, h⟩ | ⟨_, a, h⟩ | ⟨_, a, h⟩ | ⟨_, a, h⟩ | ⟨_, a, h⟩ | ⟨_, a, h⟩ | ⟨_, a, h⟩ | ⟨_, a, h⟩ | ⟨_, a, h⟩ | ⟨_, h⟩ <;> rw [h] <;> omega
theorem sqRow_of {c : Int} {k : Nat} (hk : k ≤ sqRow c) (h : c ≤ sqUp k) : k = sqRow c := by
  by_cases e : k = sqRow c
  · exact e
  · have := sqRow_lt (show k < sqRow c by omega); omega
theorem sqUp_bd (k : Nat) : 0 ≤ sqUp k ∧ sqUp k ≤ 255 := by unfold sqUp; split <;> omega

/-! ### Signs: characters and escapes with how many bytes each has, line ends not yet put together -/
abbrev Sg := Int × Nat
abbrev Bytes := List UInt8

def b0 (l : Bytes) (i : Nat) : Int := ((l.getD i 0).toNat : Int)

/-- May a byte stand k bytes behind the first one? -/
def goesOnB (l m k c : Int) : Bool := if k = 1 then decide (l ≤ c) && decide (c ≤ m) else decide (128 ≤ c) && decide (c ≤ 191)
/-- Does the sequence go on at k? -/
def okAt (l : Bytes) (r k : Nat) : Bool := decide (k < l.length) && goesOnB (sqLeast r) (sqMost r) k (b0 l k)
/-- .. at 1 to n? -/
def allOk (l : Bytes) (r : Nat) : Nat → Bool
  | 0 => true
  | n + 1 => allOk l r n && okAt l r (n + 1)
/-- The number out of the first k bytes. -/
def partV (l : Bytes) (r : Nat) : Nat → Int
  | 0 => 0
  | 1 => b0 l 0 % (sqBits r + 1)
  | k + 2 => 64 * partV l r (k + 1) + b0 l (k + 1) % 64
def sqN (r : Nat) : Nat := (sqSize r).toNat
/-- The sign at the head of bytes in UTF-8. -/
def utfHead (l : Bytes) : Sg :=
  if allOk l (sqRow (b0 l 0)) (sqN (sqRow (b0 l 0)) - 1) then (partV l (sqRow (b0 l 0)) (sqN (sqRow (b0 l 0))), sqN (sqRow (b0 l 0))) else (-1, 1)

/-- A unit at a place: encoding 1: the low byte first. -/
def unitAt (enc : Int) (l : Bytes) (i : Nat) : Int :=
  if enc = 1 then b0 l i + 256 * b0 l (i + 1) else 256 * b0 l i + b0 l (i + 1)

/-- The sign at the head of at least two bytes in UTF-16. -/
def unitHead (enc : Int) (l : Bytes) : Sg :=
  let u := unitAt enc l 0
  let v := unitAt enc l 2
  if 55296 ≤ u ∧ u ≤ 56319 ∧ 3 < l.length ∧ 56320 ≤ v ∧ v ≤ 57343 then (65536 + 1024 * (u - 55296) + (v - 56320), 4)
  else if 55296 ≤ u ∧ u ≤ 57343 then (-1, 2) else (u, 2)

/-- The sign at the head, if there is one. -/
def headSg (enc : Int) (l : Bytes) : Option Sg :=
  if l.length = 0 then none
  else if enc = 0 then some (utfHead l)
  else if enc = 3 then some (b0 l 0, 1)
  else if l.length < 2 then none
  else some (unitHead enc l)

def signsF (enc : Int) : Nat → Bytes → List Sg
  | 0, _ => []
  | f + 1, l => match headSg enc l with
    | none => []
    | some x => x :: signsF enc f (l.drop x.2)
def signs (enc : Int) (l : Bytes) : List Sg := signsF enc l.length l

theorem sqSize_bd (r : Nat) : 1 ≤ sqSize r ∧ sqSize r ≤ 4 := by unfold sqSize; split <;> omega
theorem sqN_pos (r : Nat) : 1 ≤ sqN r := by have := sqSize_bd r; unfold sqN; omega
theorem sqN_le (r : Nat) : sqN r ≤ 4 := by have := sqSize_bd r; unfold sqN; omega
theorem sqN_cast (r : Nat) : sqSize r = (sqN r : Int) := by have := sqSize_bd r; unfold sqN; omega
theorem sqBits_bd (r : Nat) : 0 ≤ sqBits r ∧ sqBits r ≤ 127 := by unfold sqBits; split <;> omega
theorem utfHead_size (l : Bytes) : 1 ≤ (utfHead l).2 := by
  unfold utfHead; split
  · exact sqN_pos _
  · exact Nat.le_refl _
theorem unitHead_size (enc : Int) (l : Bytes) : 2 ≤ (unitHead enc l).2 := by
  unfold unitHead; dsimp only; (repeat' split) <;> simp
theorem headSg_size {enc : Int} {l : Bytes} {x : Sg} (h : headSg enc l = some x) : 1 ≤ x.2 ∧ 0 < l.length := by
  unfold headSg at h
  split at h
  · cases h
  · split at h
    · cases h; exact ⟨utfHead_size l, by omega⟩
    · split at h
      · cases h; exact ⟨Nat.le_refl _, by omega⟩
      · split at h
        · cases h
        · cases h; exact ⟨Nat.le_trans (by decide) (unitHead_size enc l), by omega⟩
theorem signsF_enough (enc : Int) : ∀ (f g : Nat) (l : Bytes), l.length ≤ f → l.length ≤ g → signsF enc f l = signsF enc g l
  | 0, 0, _, _, _ => rfl
  | 0, g + 1, l, h, _ => by
    cases l with
    | nil => simp [signsF, headSg]
    | cons a r => simp at h
  | f + 1, 0, l, _, h => by
    cases l with
    | nil => simp [signsF, headSg]
    | cons a r => simp at h
  | f + 1, g + 1, l, hf, hg => by
    simp only [signsF]
    cases hx : headSg enc l with
    | none => rfl
    | some x =>
      obtain ⟨h1, h2⟩ := headSg_size hx
      have hl : (l.drop x.2).length ≤ l.length - 1 := by rw [List.length_drop]; omega
      simp only
      rw [signsF_enough enc f g (l.drop x.2) (by omega) (by omega)]
/-- One step of reading. -/
theorem signs_step (enc : Int) (l : Bytes) : signs enc l = match headSg enc l with | none => [] | some x => x :: signs enc (l.drop x.2) := by
  cases l with
  | nil => simp [signs, signsF, headSg]
  | cons a r =>
    show signsF enc (r.length + 1) (a :: r) = _
    simp only [signsF]
    cases hx : headSg enc (a :: r) with
    | none => rfl
    | some x =>
      obtain ⟨h1, h2⟩ := headSg_size hx
      simp only [signs]
      rw [signsF_enough enc r.length _ _ (by rw [List.length_drop]; simp; omega) (Nat.le_refl _)]
theorem signs_nil (enc : Int) : signs enc [] = [] := by simp [signs, signsF]
theorem signs_some {enc : Int} {l : Bytes} {x : Sg} (h : headSg enc l = some x) : signs enc l = x :: signs enc (l.drop x.2) := by rw [signs_step, h]
theorem signs_none {enc : Int} {l : Bytes} (h : headSg enc l = none) : signs enc l = [] := by rw [signs_step, h]

theorem snoc_pre {α : Type} (pre r : List α) (x : α) : pre ++ [x] <+: pre ++ x :: r := ⟨r, by simp⟩
theorem sg_next {enc : Int} {bl : Bytes} {k : Nat} {pre : List Sg} {x : Sg} (hs : signs enc bl = pre ++ signs enc (bl.drop k)) (hx : headSg enc (bl.drop k) = some x) :
    pre ++ [x] <+: signs enc bl ∧ signs enc bl = (pre ++ [x]) ++ signs enc (bl.drop (k + x.2)) := by
  have := signs_some hx
  rw [List.drop_drop] at this
  rw [hs, this]
  exact ⟨snoc_pre _ _ _, by simp⟩
theorem sg_end {enc : Int} {bl : Bytes} {k : Nat} {pre : List Sg} (hs : signs enc bl = pre ++ signs enc (bl.drop k)) (hx : headSg enc (bl.drop k) = none) : signs enc bl = pre := by
  rw [hs, signs_none hx]; simp
theorem b0_drop (l : Bytes) (k i : Nat) : b0 (l.drop k) i = b0 l (k + i) := by simp [b0, List.getD]
theorem b0_bd (l : Bytes) (i : Nat) : 0 ≤ b0 l i ∧ b0 l i ≤ 255 := by
  unfold b0; have := (l.getD i 0).toNat_lt; omega
theorem b0_byte (b : ByteArray) (k : Nat) (h : k < b.size) : b0 b.data.toList k = (b[k].toNat : Int) := by
  unfold b0
  have : b.data.toList.getD k 0 = b[k] := by
    rw [List.getD_eq_getElem?_getD, List.getElem?_eq_getElem (by simpa using h)]; rfl
  rw [this]
theorem len_drop (b : ByteArray) (k : Nat) : (b.data.toList.drop k).length = b.size - k := by rw [List.length_drop]; rfl
theorem latin_some (b : ByteArray) (k : Nat) (h : k < b.size) : headSg 3 (b.data.toList.drop k) = some ((b[k].toNat : Int), 1) := by
  have e := len_drop b k
  unfold headSg
  rw [if_neg (by omega), if_neg (by decide), if_pos rfl, b0_drop, Nat.add_zero, b0_byte b k h]
theorem any_none (enc : Int) (b : ByteArray) (k : Nat) (h : b.size ≤ k) : headSg enc (b.data.toList.drop k) = none := by
  have e := len_drop b k
  unfold headSg
  rw [if_pos (by omega)]
theorem allOk_false {l : Bytes} {r n k : Nat} (hk : 1 ≤ k) (hn : k ≤ n) (h : okAt l r k = false) : allOk l r n = false := by
  induction n with
  | zero => omega
  | succ n ih =>
    by_cases e : k = n + 1
    · subst e; simp [allOk, h]
    · simp [allOk, ih (by omega)]
theorem partV_bd (l : Bytes) (r : Nat) : ∀ k, k ≤ 4 → 0 ≤ partV l r k ∧ partV l r k ≤ 33554431 := by
  have h1 : 0 ≤ partV l r 1 ∧ partV l r 1 ≤ 127 := by
    have := sqBits_bd r
    simp only [partV]
    have e1 := Int.emod_nonneg (b0 l 0) (b := sqBits r + 1) (by omega)
    have e2 := Int.emod_lt_of_pos (b0 l 0) (b := sqBits r + 1) (by omega)
    omega
  have h2 : partV l r 2 = 64 * partV l r 1 + b0 l 1 % 64 := rfl
  have h3 : partV l r 3 = 64 * partV l r 2 + b0 l 2 % 64 := rfl
  have h4 : partV l r 4 = 64 * partV l r 3 + b0 l 3 % 64 := rfl
  intro k hk
  have : k = 0 ∨ k = 1 ∨ k = 2 ∨ k = 3 ∨ k = 4 := by omega
  rcases this with rfl | rfl | rfl | rfl | rfl
  · simp [partV]
  all_goals omega
theorem utf_some (b : ByteArray) (k : Nat) (h : k < b.size) : headSg 0 (b.data.toList.drop k) = some (utfHead (b.data.toList.drop k)) := by
  have e := len_drop b k
  unfold headSg
  rw [if_neg (by omega), if_pos rfl]
theorem okAt_end {b : ByteArray} {k j r : Nat} (h : b.size ≤ k + j) : okAt (b.data.toList.drop k) r j = false := by
  have e := len_drop b k
  simp [okAt, show ¬ j < b.size - k by omega, e]
theorem okAt_in {b : ByteArray} {k j r : Nat} (h : k + j < b.size) : okAt (b.data.toList.drop k) r j = goesOnB (sqLeast r) (sqMost r) j (b[k + j].toNat : Int) := by
  have e := len_drop b k
  unfold okAt
  rw [b0_drop, b0_byte b (k + j) h, e]
  simp [show j < b.size - k by omega]
theorem utfHead_bad {l : Bytes} {r j : Nat} (hr : sqRow (b0 l 0) = r) (h1 : 1 ≤ j) (h2 : j < sqN r) (h : okAt l r j = false) : utfHead l = (-1, 1) := by
  unfold utfHead; rw [hr, allOk_false h1 (show j ≤ sqN r - 1 by omega) h]; rfl
theorem utfHead_good {l : Bytes} {r : Nat} (hr : sqRow (b0 l 0) = r) (h : allOk l r (sqN r - 1) = true) : utfHead l = (partV l r (sqN r), sqN r) := by
  unfold utfHead; rw [hr, h]; rfl
theorem allOk_succ {l : Bytes} {r j : Nat} (h1 : 1 ≤ j) (h : allOk l r (j - 1) = true) (h2 : okAt l r j = true) : allOk l r j = true := by
  obtain ⟨i, rfl⟩ : ∃ i, j = i + 1 := ⟨j - 1, by omega⟩
  simp only [Nat.add_sub_cancel] at h
  simp [allOk, h, h2]
theorem partV_succ (l : Bytes) (r j : Nat) (h1 : 1 ≤ j) : partV l r (j + 1) = 64 * partV l r j + b0 l j % 64 := by
  obtain ⟨i, rfl⟩ : ∃ i, j = i + 1 := ⟨j - 1, by omega⟩
  rfl
theorem sqBits_cases (r : Nat) : sqBits r = 127 ∨ sqBits r = 31 ∨ sqBits r = 15 ∨ sqBits r = 7 ∨ sqBits r = 0 := by unfold sqBits; split <;> simp
/-- The unit at a place, -1 where there are no two bytes. -/
def unitO (enc : Int) (b : ByteArray) (i : Nat) : Int := if i + 1 < b.size then unitAt enc b.data.toList i else -1
theorem unitAt_bd (enc : Int) (l : Bytes) (i : Nat) : 0 ≤ unitAt enc l i ∧ unitAt enc l i ≤ 65535 := by
  have h1 := b0_bd l i
  have h2 := b0_bd l (i + 1)
  unfold unitAt; split <;> omega
theorem unitO_bd (enc : Int) (b : ByteArray) (i : Nat) : -1 ≤ unitO enc b i ∧ unitO enc b i ≤ 65535 := by
  have := unitAt_bd enc b.data.toList i
  unfold unitO; split <;> omega
theorem unitAt_1 (l : Bytes) (i : Nat) : unitAt 1 l i = b0 l i + 256 * b0 l (i + 1) := by simp [unitAt]
theorem unitAt_2 (l : Bytes) (i : Nat) : unitAt 2 l i = 256 * b0 l i + b0 l (i + 1) := by simp [unitAt]
/-- What a unit is that belongs to no pair. -/
def aloneI (u : Int) : Int := if 55296 ≤ u ∧ u ≤ 57343 then -1 else u
def isPair (u v : Int) : Prop := (55296 ≤ u ∧ u ≤ 56319) ∧ (56320 ≤ v ∧ v ≤ 57343)
theorem unitAt_drop (enc : Int) (l : Bytes) (k i : Nat) : unitAt enc (l.drop k) i = unitAt enc l (k + i) := by
  unfold unitAt; simp only [b0_drop, Nat.add_assoc]
theorem unit_lone {enc : Int} {b : ByteArray} {i : Nat} (he : enc = 1 ∨ enc = 2) (h : i + 1 < b.size) (hp : ¬ isPair (unitO enc b i) (unitO enc b (i + 2))) :
    headSg enc (b.data.toList.drop i) = some (aloneI (unitO enc b i), 2) := by
  have e := len_drop b i
  have hu : unitO enc b i = unitAt enc b.data.toList i := by unfold unitO; rw [if_pos h]
  unfold headSg
  rw [if_neg (by omega), if_neg (by omega), if_neg (by omega), if_neg (by omega)]
  unfold unitHead
  dsimp only
  rw [unitAt_drop, unitAt_drop, Nat.add_zero, e, ← hu]
  rw [if_neg]
  · unfold aloneI; split <;> rfl
  · rintro ⟨h1, h2, h3, h4, h5⟩
    apply hp
    unfold isPair
    have hv : unitO enc b (i + 2) = unitAt enc b.data.toList (i + 2) := by unfold unitO; rw [if_pos (by omega)]
    rw [hv]
    exact ⟨⟨h1, h2⟩, h4, h5⟩
theorem unit_pair {enc : Int} {b : ByteArray} {i : Nat} (he : enc = 1 ∨ enc = 2) (h : i + 1 < b.size) (hp : isPair (unitO enc b i) (unitO enc b (i + 2))) :
    headSg enc (b.data.toList.drop i) = some (65536 + 1024 * (unitO enc b i - 55296) + (unitO enc b (i + 2) - 56320), 4) ∧ i + 3 < b.size := by
  have e := len_drop b i
  have h3 : i + 3 < b.size := by
    by_cases x : i + 3 < b.size
    · exact x
    · have : unitO enc b (i + 2) = -1 := by unfold unitO; rw [if_neg (by omega)]
      unfold isPair at hp; omega
  have hu : unitO enc b i = unitAt enc b.data.toList i := by unfold unitO; rw [if_pos h]
  have hv : unitO enc b (i + 2) = unitAt enc b.data.toList (i + 2) := by unfold unitO; rw [if_pos (by omega)]
  refine ⟨?_, h3⟩
  unfold headSg
  rw [if_neg (by omega), if_neg (by omega), if_neg (by omega), if_neg (by omega)]
  unfold unitHead
  dsimp only
  rw [unitAt_drop, unitAt_drop, Nat.add_zero, e, ← hu, ← hv, if_pos]
  unfold isPair at hp
  omega
theorem unit_none {enc : Int} {b : ByteArray} {i : Nat} (he : enc = 1 ∨ enc = 2) (h : b.size ≤ i + 1) : headSg enc (b.data.toList.drop i) = none := by
  have e := len_drop b i
  unfold headSg
  by_cases x : (b.data.toList.drop i).length = 0
  · rw [if_pos x]
  · rw [if_neg x, if_neg (by omega), if_neg (by omega), if_pos (by omega)]

/-! ### Atoms: kind, character in the text, size -/
abbrev At := Int × Int × Nat
def singleA (x : Sg) : At := if x.1 = -1 then (4, 65533, x.2) else if x.1 = 10 then (0, 10, x.2) else (3, x.1, x.2)
/-- The atoms of signs, a 13 of so many bytes being held. -/
def atomsF : Nat → List Sg → List At
  | h, [] => if 0 < h then [(2, 10, h)] else []
  | h, x :: r => if 0 < h ∧ x.1 = 10 then (1, 10, x.2 + h) :: atomsF 0 r
    else (if 0 < h then [(2, 10, h)] else []) ++ (if x.1 = 13 then atomsF x.2 r else singleA x :: atomsF 0 r)
def atoms (enc : Int) (l : Bytes) : List At := atomsF 0 (signs enc l)
/-- out has been told and h is held when pre has come. -/
def Told (pre : List Sg) (out : List At) (h : Nat) : Prop := ∀ rest, atomsF 0 (pre ++ rest) = out ++ atomsF h rest
theorem Told.nil : Told [] [] 0 := fun _ => by simp
theorem Told.crlf {pre : List Sg} {out : List At} {h : Nat} {x : Sg} (t : Told pre out h) (h0 : 0 < h) (hx : x.1 = 10) : Told (pre ++ [x]) (out ++ [(1, 10, x.2 + h)]) 0 := fun rest => by
  have := t (x :: rest)
  simp only [atomsF, h0, hx, and_self, if_true] at this
  simpa using this
theorem Told.cr {pre : List Sg} {out : List At} {h : Nat} {x : Sg} (t : Told pre out h) (h0 : h = 0) (hx : x.1 = 13) : Told (pre ++ [x]) out x.2 := fun rest => by
  subst h0
  have := t (x :: rest)
  simp [atomsF, hx] at this
  simpa using this
theorem Told.one {pre : List Sg} {out : List At} {h : Nat} {x : Sg} (t : Told pre out h) (h0 : h = 0) (hx : x.1 ≠ 13) : Told (pre ++ [x]) (out ++ [singleA x]) 0 := fun rest => by
  subst h0
  have := t (x :: rest)
  simp [atomsF, hx] at this
  simpa using this
theorem Told.cr2 {pre : List Sg} {out : List At} {h : Nat} {x : Sg} (t : Told pre out h) (h0 : 0 < h) (hx : x.1 = 13) : Told (pre ++ [x]) (out ++ [(2, 10, h)]) x.2 := fun rest => by
  have := t (x :: rest)
  simp [atomsF, hx, h0] at this
  simpa using this
theorem Told.one2 {pre : List Sg} {out : List At} {h : Nat} {x : Sg} (t : Told pre out h) (h0 : 0 < h) (hx : x.1 ≠ 13) (hx2 : x.1 ≠ 10) : Told (pre ++ [x]) (out ++ [(2, 10, h)] ++ [singleA x]) 0 := fun rest => by
  have := t (x :: rest)
  simp [atomsF, hx, hx2, h0] at this
  simpa using this
theorem pre_trans {α : Type} {a b c : List α} (h : a <+: b) (k : b <+: c) : a <+: c := h.trans k
/-- What has been told is a beginning of all that is told. -/
theorem Told.pre {pre all : List Sg} {out : List At} {h : Nat} (t : Told pre out h) (hp : pre <+: all) : out <+: atomsF 0 all := by
  obtain ⟨r, rfl⟩ := hp
  rw [t r]
  exact ⟨_, rfl⟩
/-- .. and if a 13 is held, and what follows is no 10, its line end comes next. -/
theorem Told.pre_cr {pre all : List Sg} {out : List At} {h : Nat} {x : Sg} (t : Told pre out h) (h0 : 0 < h) (hx : x.1 ≠ 10) (hp : pre ++ [x] <+: all) : out ++ [(2, 10, h)] <+: atomsF 0 all := by
  obtain ⟨r, rfl⟩ := hp
  have := t (x :: r)
  simp only [atomsF, h0, hx, and_false, if_false, if_true] at this
  rw [List.append_assoc, List.singleton_append, this]
  exact ⟨if x.1 = 13 then atomsF x.2 r else singleA x :: atomsF 0 r, by simp⟩
theorem Told.all {all : List Sg} {out : List At} {h : Nat} (t : Told all out h) : atomsF 0 all = out ++ (if 0 < h then [(2, 10, h)] else []) := by
  have := t []
  simpa [atomsF] using this
end Vm

namespace Vm
theorem headSg_le {enc : Int} {l : Bytes} {x : Sg} (h : headSg enc l = some x) : 1 ≤ x.2 ∧ x.2 ≤ 4 ∧ x.2 ≤ l.length := by
  unfold headSg at h
  split at h
  · cases h
  · split at h
    · cases h
      unfold utfHead
      split
      · rename_i _ _ hok
        have h1 := sqN_pos (sqRow (b0 l 0))
        have h2 := sqN_le (sqRow (b0 l 0))
        refine ⟨h1, h2, ?_⟩
        by_cases e : sqN (sqRow (b0 l 0)) = 1
        · show sqN _ ≤ _; omega
        · obtain ⟨n, hn⟩ : ∃ n, sqN (sqRow (b0 l 0)) = n + 2 := ⟨sqN (sqRow (b0 l 0)) - 2, by omega⟩
          rw [hn] at hok
          simp only [allOk, show n + 2 - 1 = n + 1 from rfl, Bool.and_eq_true] at hok
          have := hok.2
          simp only [okAt, Bool.and_eq_true, decide_eq_true_eq] at this
          show sqN _ ≤ _
          omega
      · show 1 ≤ 1 ∧ 1 ≤ 4 ∧ 1 ≤ l.length; omega
    · split at h
      · cases h; show 1 ≤ 1 ∧ 1 ≤ 4 ∧ 1 ≤ l.length; omega
      · split at h
        · cases h
        · cases h
          unfold unitHead
          dsimp only
          split
          · show 1 ≤ 4 ∧ 4 ≤ 4 ∧ 4 ≤ l.length; omega
          · split
            · show 1 ≤ 2 ∧ 2 ≤ 4 ∧ 2 ≤ l.length; omega
            · show 1 ≤ 2 ∧ 2 ≤ 4 ∧ 2 ≤ l.length; omega
theorem signsF_le (enc : Int) : ∀ (f : Nat) (l : Bytes) (x : Sg), x ∈ signsF enc f l → 1 ≤ x.2 ∧ x.2 ≤ 4
  | 0, _, _, h => by simp [signsF] at h
  | f + 1, l, x, h => by
    simp only [signsF] at h
    cases hx : headSg enc l with
    | none => rw [hx] at h; simp at h
    | some y =>
      rw [hx] at h
      simp only [List.mem_cons] at h
      rcases h with rfl | h
      · exact ⟨(headSg_le hx).1, (headSg_le hx).2.1⟩
      · exact signsF_le enc f _ x h
theorem signs_le {enc : Int} {l : Bytes} {x : Sg} {pre : List Sg} (h : pre ++ [x] <+: signs enc l) : 1 ≤ x.2 ∧ x.2 ≤ 4 :=
  signsF_le enc _ l x (h.subset (by simp))
/-- A character in UTF-8, as numbers. -/
def utfL (n : Int) : List Int :=
  if n < 128 then [n] else if n < 2048 then [192 + n / 64, 128 + n % 64]
  else if n < 65536 then [224 + n / 4096, 128 + n / 64 % 64, 128 + n % 64]
  else [240 + n / 262144, 128 + n / 4096 % 64, 128 + n / 64 % 64, 128 + n % 64]
def utfLen (n : Int) : Nat := if n < 128 then 1 else if n < 2048 then 2 else if n < 65536 then 3 else 4
theorem utfL_length (n : Int) : (utfL n).length = utfLen n := by unfold utfL utfLen; (repeat' split) <;> rfl
def validB (n : Int) : Bool := (decide (0 ≤ n) && decide (n ≤ 55295)) || (decide (57344 ≤ n) && decide (n ≤ 1114111))
end Vm

namespace Go.Proofs.YtjbfgnhkgjigpaaDoor
open Go.RowKit

/-- The table of sequences, in memory. -/
structure TabSeq (w : World) : Prop where
  up : ∀ k : Nat, k < 11 → w.cell? ⟨3, k * 5, none⟩ = some (.int .u8 (Vm.sqUp k))
  size : ∀ k : Nat, k < 11 → w.cell? ⟨3, k * 5 + 1, none⟩ = some (.int .i64 (Vm.sqSize k))
  bits : ∀ k : Nat, k < 11 → w.cell? ⟨3, k * 5 + 2, none⟩ = some (.int .u8 (Vm.sqBits k))
  least : ∀ k : Nat, k < 11 → w.cell? ⟨3, k * 5 + 3, none⟩ = some (.int .u8 (Vm.sqLeast k))
  most : ∀ k : Nat, k < 11 → w.cell? ⟨3, k * 5 + 4, none⟩ = some (.int .u8 (Vm.sqMost k))

theorem block_lt {w : World} {b o : Nat} {v : Value} (h : w.cell? ⟨b, o, none⟩ = some v) : b < w.heap.size := by
  unfold World.cell? at h
  by_cases hb : b < w.heap.size
  · exact hb
  · rw [Array.getElem?_eq_none (show w.heap.size ≤ b by omega)] at h; simp at h

set_option maxHeartbeats 400000 in
theorem begunBy_any (c : Int) (w : World) (_h0 : 0 ≤ c) (h1 : c ≤ 255) (ht : TabSeq w) :
    Calls Tryd.prog 105 #[.int .u8 c] w fun e w' => e = .returned (.agg #[.int .u8 (Vm.sqUp (Vm.sqRow c)), .int .i64 (Vm.sqSize (Vm.sqRow c)), .int .u8 (Vm.sqBits (Vm.sqRow c)), .int .u8 (Vm.sqLeast (Vm.sqRow c)), .int .u8 (Vm.sqMost (Vm.sqRow c))]) ∧ Below w.heap.size w w' := by
  have hz : 3 < w.heap.size := block_lt (ht.up 0 (by omega))
  have hr := Vm.sqRow_le c
  go_enter Tryd.func105, Tryd.ntmps105
  go_wp2
  go_loop [3] (fun i => ∃ k : Nat, k ≤ Vm.sqRow c ∧ i = .int .i64 k) (fun i => 11 - (intOf i).toNat)
  case atStart => exact ⟨0, Nat.zero_le _, rfl⟩
  case round =>
    obtain ⟨k, hk, rfl⟩ := hrel
    have c0 := ht.up k (by omega)
    have c1 := ht.size k (by omega)
    have c2 := ht.bits k (by omega)
    have c3 := ht.least k (by omega)
    have c4 := ht.most k (by omega)
    have hu := Vm.sqUp_bd k
    by_cases hlt : Vm.sqUp k < c
    · have hk2 : k < Vm.sqRow c := by
        have := @Vm.sqRow_of c k hk
        have := Vm.sqRow_at h1
        by_cases e : k = Vm.sqRow c
        · rw [← e] at this; omega
        · omega
      go_wp2
      go_round
      case rel => exact ⟨k + 1, by omega, by go_num⟩
      case measure => simp [intOf]; omega
    · have hk2 : k = Vm.sqRow c := Vm.sqRow_of hk (by omega)
      subst hk2
      go_wp2
      exact bodyPost_ret (v := .agg #[.int .u8 (Vm.sqUp (Vm.sqRow c)), .int .i64 (Vm.sqSize (Vm.sqRow c)), .int .u8 (Vm.sqBits (Vm.sqRow c)), .int .u8 (Vm.sqLeast (Vm.sqRow c)), .int .u8 (Vm.sqMost (Vm.sqRow c))]) (by simp [results, Tryd.results105, go_sem]) rfl ⟨rfl, (Below.refl _ _).alloc (Nat.le_refl _) _⟩

theorem ret_bool {a b : Bool} (h : a = b) : Ending.returned (.bool a) = .returned (.bool b) := by rw [h]
theorem ret_int {k : IntKind} {a b : Int} (h : a = b) : Ending.returned (.int k a) = .returned (.int k b) := by rw [h]

set_option maxHeartbeats 400000 in
theorem goesOn_any (u n b l m k c : Int) (w : World) :
    Calls Tryd.prog 106 #[.agg #[.int .u8 u, .int .i64 n, .int .u8 b, .int .u8 l, .int .u8 m], .int .i64 k, .int .u8 c] w fun e w' =>
      e = .returned (.bool (Vm.goesOnB l m k c)) ∧ Below w.heap.size w w' := by
  by_cases hk : k = 1
  · subst hk
    by_cases h1 : l ≤ c
    · by_cases h2 : c ≤ m
      · go_enter Tryd.func106, Tryd.ntmps106
        go_wp2
        go_ret
        exact ⟨ret_bool (by simp [Vm.goesOnB, h1, h2]), (Below.refl _ _).alloc (Nat.le_refl _) _⟩
      · go_enter Tryd.func106, Tryd.ntmps106
        go_wp2
        go_ret
        exact ⟨ret_bool (by simp [Vm.goesOnB, h2]), (Below.refl _ _).alloc (Nat.le_refl _) _⟩
    · go_enter Tryd.func106, Tryd.ntmps106
      go_wp2
      go_ret
      exact ⟨ret_bool (by simp [Vm.goesOnB]; omega), (Below.refl _ _).alloc (Nat.le_refl _) _⟩
  · have hk' : (k == 1) = false := by simpa using hk
    by_cases h1 : 128 ≤ c
    · by_cases h2 : c ≤ 191
      · go_enter Tryd.func106, Tryd.ntmps106
        go_wp2
        go_ret
        exact ⟨ret_bool (by simp [Vm.goesOnB, hk, h1, h2]), (Below.refl _ _).alloc (Nat.le_refl _) _⟩
      · go_enter Tryd.func106, Tryd.ntmps106
        go_wp2
        go_ret
        exact ⟨ret_bool (by simp [Vm.goesOnB, hk, h2]), (Below.refl _ _).alloc (Nat.le_refl _) _⟩
    · go_enter Tryd.func106, Tryd.ntmps106
      go_wp2
      go_ret
      exact ⟨ret_bool (by simp [Vm.goesOnB, hk]; omega), (Below.refl _ _).alloc (Nat.le_refl _) _⟩

/-- The bounds of the halves of pairs, in memory. -/
structure TabHalf (w : World) : Prop where
  c0 : w.cell? ⟨2, 0, none⟩ = some (.int .i32 55296)
  c1 : w.cell? ⟨2, 1, none⟩ = some (.int .i32 56319)
  c2 : w.cell? ⟨2, 2, none⟩ = some (.int .i32 56320)
  c3 : w.cell? ⟨2, 3, none⟩ = some (.int .i32 57343)

theorem TabHalf.below {w w' : World} (h : TabHalf w) (hb : Below w.heap.size w w') : TabHalf w' :=
  ⟨(hb.cell (p := ⟨2, 0, none⟩) (block_lt h.c0)).trans h.c0, (hb.cell (p := ⟨2, 1, none⟩) (block_lt h.c0)).trans h.c1, (hb.cell (p := ⟨2, 2, none⟩) (block_lt h.c0)).trans h.c2, (hb.cell (p := ⟨2, 3, none⟩) (block_lt h.c0)).trans h.c3⟩
theorem TabSeq.below {w w' : World} (h : TabSeq w) (hb : Below w.heap.size w w') : TabSeq w' := by
  have hz := block_lt (h.up 0 (by omega))
  exact ⟨fun k hk => (hb.cell (p := ⟨_, _, none⟩) hz).trans (h.up k hk), fun k hk => (hb.cell (p := ⟨_, _, none⟩) hz).trans (h.size k hk), fun k hk => (hb.cell (p := ⟨_, _, none⟩) hz).trans (h.bits k hk),
    fun k hk => (hb.cell (p := ⟨_, _, none⟩) hz).trans (h.least k hk), fun k hk => (hb.cell (p := ⟨_, _, none⟩) hz).trans (h.most k hk)⟩

set_option maxHeartbeats 400000 in
theorem alone_any (u : Int) (w : World) (ht : TabHalf w) :
    Calls Tryd.prog 108 #[.int .i32 u] w fun e w' => e = .returned (.int .i32 (Vm.aloneI u)) ∧ Below w.heap.size w w' := by
  have hz : 2 < w.heap.size := block_lt ht.c0
  obtain ⟨c0, c1, c2, c3⟩ := ht
  have i0 : ∀ w, (Instr.index 175 (.agg #[.int .i32 55296, .int .i32 56319, .int .i32 56320, .int .i32 57343]) (.int .i64 0)).run Tryd.prog w = .ok (.agg #[.int .i32 55296, .int .i32 56319]) w := fun _ => by kernel_rfl
  have i1 : ∀ w, (Instr.index 175 (.agg #[.int .i32 55296, .int .i32 56319, .int .i32 56320, .int .i32 57343]) (.int .i64 1)).run Tryd.prog w = .ok (.agg #[.int .i32 56320, .int .i32 57343]) w := fun _ => by kernel_rfl
  have hcase : u < 55296 ∨ (55296 ≤ u ∧ u ≤ 56319) ∨ (56320 ≤ u ∧ u ≤ 57343) ∨ 57343 < u := by omega
  rcases hcase with h | ⟨h, h'⟩ | ⟨h, h'⟩ | h
  · have ea : Vm.aloneI u = u := by unfold Vm.aloneI; rw [if_neg (by omega)]
    rw [ea]; clear ea
    have g1 : ¬ 55296 ≤ u := by omega
    have g2 : ¬ 56320 ≤ u := by omega
    go_enter Tryd.func108, Tryd.ntmps108
    go_wp2
    refine wp_loop_rounds 3 ?_
    rw [rounds_succ]
    go_wp2
    rw [rounds_succ]
    go_wp2
    rw [rounds_succ]
    go_wp2
    go_ret
    exact ⟨rfl, by repeat (first | exact Below.refl _ _ | refine Below.alloc ?_ (by simp) _)⟩
  · have ea : Vm.aloneI u = -1 := by unfold Vm.aloneI; rw [if_pos (by omega)]
    rw [ea]; clear ea
    go_enter Tryd.func108, Tryd.ntmps108
    go_wp2
    refine wp_loop_rounds 1 ?_
    rw [rounds_succ]
    go_wp2
    go_ret
    exact ⟨rfl, by repeat (first | exact Below.refl _ _ | refine Below.alloc ?_ (by simp) _)⟩
  · have ea : Vm.aloneI u = -1 := by unfold Vm.aloneI; rw [if_pos (by omega)]
    rw [ea]; clear ea
    have g1 : 55296 ≤ u := by omega
    have g2 : ¬ u ≤ 56319 := by omega
    go_enter Tryd.func108, Tryd.ntmps108
    go_wp2
    refine wp_loop_rounds 2 ?_
    rw [rounds_succ]
    go_wp2
    rw [rounds_succ]
    go_wp2
    go_ret
    exact ⟨rfl, by repeat (first | exact Below.refl _ _ | refine Below.alloc ?_ (by simp) _)⟩
  · have ea : Vm.aloneI u = u := by unfold Vm.aloneI; rw [if_neg (by omega)]
    rw [ea]; clear ea
    have g1 : 55296 ≤ u := by omega
    have g2 : ¬ u ≤ 56319 := by omega
    have g3 : 56320 ≤ u := by omega
    have g4 : ¬ u ≤ 57343 := by omega
    go_enter Tryd.func108, Tryd.ntmps108
    go_wp2
    refine wp_loop_rounds 3 ?_
    rw [rounds_succ]
    go_wp2
    rw [rounds_succ]
    go_wp2
    rw [rounds_succ]
    go_wp2
    go_ret
    exact ⟨rfl, by repeat (first | exact Below.refl _ _ | refine Below.alloc ?_ (by simp) _)⟩
end Go.Proofs.YtjbfgnhkgjigpaaDoor

namespace Go.Proofs.YtjbfgnhkgjigpaaDoor
open Go.RowKit

theorem toNat_ltI (x : UInt8) : (x.toNat : Int) < 256 := by have := x.toNat_lt; omega

set_option maxHeartbeats 400000 in
theorem rcont_any (s : ByteArray) (i : Int) (w : World) (h0 : 0 ≤ i) :
    Calls Tryd.prog 109 #[.string s, .int .i64 i] w fun e w' => e = .returned (.bool (decide (i < s.size) && (decide (128 ≤ Vm.b0 s.data.toList i.toNat) && decide (Vm.b0 s.data.toList i.toNat < 192)))) ∧ w' = w := by
  obtain ⟨k, rfl⟩ := Int.eq_ofNat_of_zero_le h0
  by_cases h : k < s.size
  · have hI : (k : Int) < (s.size : Int) := by omega
    rw [Int.toNat_natCast, Vm.b0_byte s k h]
    by_cases h1 : 128 ≤ (s[k].toNat : Int)
    · by_cases h2 : (s[k].toNat : Int) < 192
      · go_enter Tryd.func109, Tryd.ntmps109
        go_wp2
        go_ret
        exact ⟨ret_bool (by simp; omega), rfl⟩
      · go_enter Tryd.func109, Tryd.ntmps109
        go_wp2
        go_ret
        exact ⟨ret_bool (by simp; omega), rfl⟩
    · go_enter Tryd.func109, Tryd.ntmps109
      go_wp2
      go_ret
      exact ⟨ret_bool (by simp; omega), rfl⟩
  · have hI : ¬ (k : Int) < (s.size : Int) := by omega
    go_enter Tryd.func109, Tryd.ntmps109
    go_wp2
    go_ret
    exact ⟨ret_bool (by simp), rfl⟩

theorem conv1 (w : World) (a : Int) : (convert 70 9 (.slice (some ⟨w.heap.size, 0, none⟩) 1 1)).run Tryd.prog (w.alloc (.cells #[.int .u8 a] 5)) = .ok (.string (strOfNums [a])) (w.alloc (.cells #[.int .u8 a] 5)) :=
  run_convert_bytes_arg _ 70 5 Tryd.underlying70 Tryd.underlying5 w.heap.size 0 1 1 [a] rfl (fun i hi => by
    have : i = 0 := by omega
    subst this; simp) 9 Tryd.underlying9
theorem conv2 (w : World) (a b : Int) : (convert 70 9 (.slice (some ⟨w.heap.size, 0, none⟩) 2 2)).run Tryd.prog (w.alloc (.cells #[.int .u8 a, .int .u8 b] 5)) = .ok (.string (strOfNums [a, b])) (w.alloc (.cells #[.int .u8 a, .int .u8 b] 5)) :=
  run_convert_bytes_arg _ 70 5 Tryd.underlying70 Tryd.underlying5 w.heap.size 0 2 2 [a, b] rfl (fun i hi => by
    have : i = 0 ∨ i = 1 := by omega
    rcases this with rfl | rfl <;> simp) 9 Tryd.underlying9
theorem conv3 (w : World) (a b c : Int) : (convert 70 9 (.slice (some ⟨w.heap.size, 0, none⟩) 3 3)).run Tryd.prog (w.alloc (.cells #[.int .u8 a, .int .u8 b, .int .u8 c] 5)) = .ok (.string (strOfNums [a, b, c])) (w.alloc (.cells #[.int .u8 a, .int .u8 b, .int .u8 c] 5)) :=
  run_convert_bytes_arg _ 70 5 Tryd.underlying70 Tryd.underlying5 w.heap.size 0 3 3 [a, b, c] rfl (fun i hi => by
    have : i = 0 ∨ i = 1 ∨ i = 2 := by omega
    rcases this with rfl | rfl | rfl <;> simp) 9 Tryd.underlying9
theorem conv4 (w : World) (a b c d : Int) : (convert 70 9 (.slice (some ⟨w.heap.size, 0, none⟩) 4 4)).run Tryd.prog (w.alloc (.cells #[.int .u8 a, .int .u8 b, .int .u8 c, .int .u8 d] 5)) = .ok (.string (strOfNums [a, b, c, d])) (w.alloc (.cells #[.int .u8 a, .int .u8 b, .int .u8 c, .int .u8 d] 5)) :=
  run_convert_bytes_arg _ 70 5 Tryd.underlying70 Tryd.underlying5 w.heap.size 0 4 4 [a, b, c, d] rfl (fun i hi => by
    have : i = 0 ∨ i = 1 ∨ i = 2 ∨ i = 3 := by omega
    rcases this with rfl | rfl | rfl | rfl <;> simp) 9 Tryd.underlying9

theorem ret_str {a b : ByteArray} (h : a = b) : Ending.returned (.string a) = .returned (.string b) := by rw [h]

set_option maxRecDepth 100000 in
set_option maxHeartbeats 400000 in
theorem rutf_any (n : Int) (w : World) (h0 : 0 ≤ n) (hx : n ≤ 2097151) :
    Calls Tryd.prog 77 #[.int .i64 n] w fun e w' => e = .returned (.string (strOfNums (Vm.utfL n))) ∧ Below w.heap.size w w' := by
  have k1 := conv1
  have k2 := conv2
  have k3 := conv3
  have k4 := conv4
  by_cases h1 : n < 128
  · go_enter Tryd.func77, Tryd.ntmps77
    go_wp2
    go_ret
    exact ⟨ret_str (by unfold Vm.utfL; rw [if_pos h1]), (Below.refl _ _).alloc (Nat.le_refl _) _⟩
  · by_cases h2 : n < 2048
    · have e : Vm.utfL n = [192 + n / 64, 128 + n % 64] := by unfold Vm.utfL; rw [if_neg h1, if_pos h2]
      rw [e]; clear e
      go_enter Tryd.func77, Tryd.ntmps77
      go_wp2
      go_ret
      exact ⟨rfl, (Below.refl _ _).alloc (Nat.le_refl _) _⟩
    · by_cases h3 : n < 65536
      · have e : Vm.utfL n = [224 + n / 4096, 128 + n / 64 % 64, 128 + n % 64] := by unfold Vm.utfL; rw [if_neg h1, if_neg h2, if_pos h3]
        rw [e]; clear e
        go_enter Tryd.func77, Tryd.ntmps77
        go_wp2
        go_ret
        exact ⟨rfl, (Below.refl _ _).alloc (Nat.le_refl _) _⟩
      · have e : Vm.utfL n = [240 + n / 262144, 128 + n / 4096 % 64, 128 + n / 64 % 64, 128 + n % 64] := by unfold Vm.utfL; rw [if_neg h1, if_neg h2, if_neg h3]
        rw [e]; clear e
        go_enter Tryd.func77, Tryd.ntmps77
        go_wp2
        go_ret
        exact ⟨rfl, (Below.refl _ _).alloc (Nat.le_refl _) _⟩

set_option maxHeartbeats 400000 in
theorem rvalid_any (n : Int) (w : World) :
    Calls Tryd.prog 110 #[.int .i64 n] w fun e w' => e = .returned (.bool (Vm.validB n)) ∧ w' = w := by
  have hcase : n < 0 ∨ (0 ≤ n ∧ n ≤ 55295) ∨ (55295 < n ∧ n < 57344) ∨ (57344 ≤ n ∧ n ≤ 1114111) ∨ 1114111 < n := by omega
  rcases hcase with h | ⟨h, h'⟩ | ⟨h, h'⟩ | ⟨h, h'⟩ | h
  · have e : Vm.validB n = false := by simp [Vm.validB]; omega
    rw [e]; clear e
    have g1 : ¬ 0 ≤ n := by omega
    have g2 : ¬ 57344 ≤ n := by omega
    go_enter Tryd.func110, Tryd.ntmps110
    go_wp2
    go_ret
    exact ⟨rfl, rfl⟩
  · have e : Vm.validB n = true := by simp [Vm.validB]; omega
    rw [e]; clear e
    go_enter Tryd.func110, Tryd.ntmps110
    go_wp2
    go_ret
    exact ⟨rfl, rfl⟩
  · have e : Vm.validB n = false := by simp [Vm.validB]; omega
    rw [e]; clear e
    have g1 : 0 ≤ n := by omega
    have g2 : ¬ n ≤ 55295 := by omega
    have g3 : ¬ 57344 ≤ n := by omega
    go_enter Tryd.func110, Tryd.ntmps110
    go_wp2
    go_ret
    exact ⟨rfl, rfl⟩
  · have e : Vm.validB n = true := by simp [Vm.validB]; omega
    rw [e]; clear e
    have g1 : 0 ≤ n := by omega
    have g2 : ¬ n ≤ 55295 := by omega
    go_enter Tryd.func110, Tryd.ntmps110
    go_wp2
    go_ret
    exact ⟨rfl, rfl⟩
  · have e : Vm.validB n = false := by simp [Vm.validB]; omega
    rw [e]; clear e
    have g1 : 0 ≤ n := by omega
    have g2 : ¬ n ≤ 55295 := by omega
    have g3 : 57344 ≤ n := by omega
    have g4 : ¬ n ≤ 1114111 := by omega
    go_enter Tryd.func110, Tryd.ntmps110
    go_wp2
    go_ret
    exact ⟨rfl, rfl⟩

set_option maxHeartbeats 400000 in
theorem runit_any (s : ByteArray) (i : Nat) (enc : Int) (w : World) (hs : s.size ≤ 1099511627776) (h : i + 1 < s.size) :
    Calls Tryd.prog 103 #[.string s, .int .i64 i, .int .i64 enc] w fun e w' => e = .returned (.int .i64 (Vm.unitAt enc s.data.toList i)) ∧ Below w.heap.size w w' := by
  have hI : (i : Int) + 1 < (s.size : Int) := by omega
  have hI0 : (i : Int) < (s.size : Int) := by omega
  have e1 := s[i].toNat_lt
  have e2 := s[i + 1].toNat_lt
  have hwr : IntKind.i64.wrap ((i : Int) + 1) = (i : Int) + 1 := by rw [IntKind.wrap_i64]; omega
  have htn : ((i : Int) + 1).toNat = i + 1 := by omega
  have hw1 : IntKind.i64.wrap (s[i].toNat : Int) = (s[i].toNat : Int) := by rw [IntKind.wrap_i64]; omega
  have hw2 : IntKind.i64.wrap (s[i + 1].toNat : Int) = (s[i + 1].toNat : Int) := by rw [IntKind.wrap_i64]; omega
  by_cases he : enc = 1
  · subst he
    have hw3 : IntKind.i64.wrap (256 * (s[i + 1].toNat : Int)) = 256 * (s[i + 1].toNat : Int) := by rw [IntKind.wrap_i64]; omega
    have hw4 : IntKind.i64.wrap ((s[i].toNat : Int) + 256 * (s[i + 1].toNat : Int)) = (s[i].toNat : Int) + 256 * (s[i + 1].toNat : Int) := by rw [IntKind.wrap_i64]; omega
    rw [Vm.unitAt_1, Vm.b0_byte s i (by omega), Vm.b0_byte s (i + 1) h]
    go_enter Tryd.func103, Tryd.ntmps103
    go_wp2
    go_region_held3 (fun _ => True) (trivial) (fail)
    all_goals (go_wp2; go_ret)
    all_goals exact ⟨ret_int (by omega), (Below.refl _ _).drew⟩
  · have he' : (enc == 1) = false := by simpa using he
    have hw3 : IntKind.i64.wrap (256 * (s[i].toNat : Int)) = 256 * (s[i].toNat : Int) := by rw [IntKind.wrap_i64]; omega
    have hw4 : IntKind.i64.wrap (256 * (s[i].toNat : Int) + (s[i + 1].toNat : Int)) = 256 * (s[i].toNat : Int) + (s[i + 1].toNat : Int) := by rw [IntKind.wrap_i64]; omega
    have hu : Vm.unitAt enc s.data.toList i = 256 * (s[i].toNat : Int) + (s[i + 1].toNat : Int) := by
      unfold Vm.unitAt; rw [if_neg he, Vm.b0_byte s i (by omega), Vm.b0_byte s (i + 1) h]
    rw [hu]; clear hu he
    go_enter Tryd.func103, Tryd.ntmps103
    go_wp2
    go_region_held3 (fun _ => True) (trivial) (fail)
    all_goals (go_wp2; go_ret)
    all_goals exact ⟨ret_int (by omega), (Below.refl _ _).drew⟩
end Go.Proofs.YtjbfgnhkgjigpaaDoor

namespace Vm
def rk (c : Int) : Nat := if c < 128 then 1 else if c < 192 then 0 else if c < 224 then 2 else if c < 240 then 3 else if c < 248 then 4 else 0
def rn0 (c : Int) : Int := if c < 128 then c else if c < 224 then c - 192 else if c < 240 then c - 224 else c - 240
def contB (l : Bytes) (j : Nat) : Bool := decide (j < l.length) && (decide (128 ≤ b0 l j) && decide (b0 l j < 192))
def rok (l : Bytes) : Nat → Bool
  | 0 => true
  | n + 1 => rok l n && contB l (n + 1)
def rpart (l : Bytes) : Nat → Int
  | 0 => 0
  | 1 => rn0 (b0 l 0)
  | k + 2 => 64 * rpart l (k + 1) + b0 l (k + 1) - 128
/-- What the reference reads at the head: the character, and its size; 0: none. -/
def utfRef (l : Bytes) : Int × Nat :=
  if rk (b0 l 0) = 0 then (0, 0)
  else if rok l (rk (b0 l 0) - 1) = false then (0, 0)
  else if validB (rpart l (rk (b0 l 0))) = false then (0, 0)
  else if utfLen (rpart l (rk (b0 l 0))) = rk (b0 l 0) then (rpart l (rk (b0 l 0)), rk (b0 l 0)) else (0, 0)
theorem rpart_succ (l : Bytes) (j : Nat) (h : 1 ≤ j) : rpart l (j + 1) = 64 * rpart l j + b0 l j - 128 := by
  obtain ⟨i, rfl⟩ : ∃ i, j = i + 1 := ⟨j - 1, by omega⟩
  rfl
theorem rok_succ {l : Bytes} {j : Nat} (h1 : 1 ≤ j) (h : rok l (j - 1) = true) (h2 : contB l j = true) : rok l j = true := by
  obtain ⟨i, rfl⟩ : ∃ i, j = i + 1 := ⟨j - 1, by omega⟩
  simp only [Nat.add_sub_cancel] at h
  simp [rok, h, h2]
theorem rok_false {l : Bytes} {n k : Nat} (hk : 1 ≤ k) (hn : k ≤ n) (h : contB l k = false) : rok l n = false := by
  induction n with
  | zero => omega
  | succ n ih =>
    by_cases e : k = n + 1
    · subst e; simp [rok, h]
    · simp [rok, ih (by omega)]
theorem rok_at {l : Bytes} {n k : Nat} (hk : 1 ≤ k) (hn : k ≤ n) (h : rok l n = true) : contB l k = true := by
  cases hc : contB l k
  · rw [rok_false hk hn hc] at h; cases h
  · rfl
theorem contB_bd {l : Bytes} {j : Nat} (h : contB l j = true) : j < l.length ∧ 128 ≤ b0 l j ∧ b0 l j ≤ 191 := by
  simp only [contB, Bool.and_eq_true, decide_eq_true_eq] at h
  omega
theorem rpart_bd {l : Bytes} {k : Nat} (hk : k ≤ 4) (h1 : 1 ≤ k) (hc : rk (b0 l 0) ≠ 0) (h : rok l (k - 1) = true) : 0 ≤ rpart l k ∧ rpart l k ≤ 33554431 := by
  have hb := b0_bd l 0
  have e1 : 0 ≤ rpart l 1 ∧ rpart l 1 ≤ 127 := by
    show 0 ≤ rn0 (b0 l 0) ∧ rn0 (b0 l 0) ≤ 127
    unfold rk at hc
    unfold rn0
    (repeat' split at hc) <;> (repeat' split) <;> omega
  have : k = 1 ∨ k = 2 ∨ k = 3 ∨ k = 4 := by omega
  have s2 : rpart l 2 = 64 * rpart l 1 + b0 l 1 - 128 := rfl
  have s3 : rpart l 3 = 64 * rpart l 2 + b0 l 2 - 128 := rfl
  have s4 : rpart l 4 = 64 * rpart l 3 + b0 l 3 - 128 := rfl
  rcases this with rfl | rfl | rfl | rfl
  · omega
  · have a := contB_bd (rok_at (k := 1) (by omega) (by omega) h); omega
  · have a := contB_bd (rok_at (k := 1) (by omega) (by omega) h)
    have b := contB_bd (rok_at (k := 2) (by omega) (by omega) h); omega
  · have a := contB_bd (rok_at (k := 1) (by omega) (by omega) h)
    have b := contB_bd (rok_at (k := 2) (by omega) (by omega) h)
    have c := contB_bd (rok_at (k := 3) (by omega) (by omega) h); omega
theorem contB_in {b : ByteArray} {k j : Nat} : contB (b.data.toList.drop k) j = (decide (((k + j : Nat) : Int) < (b.size : Int)) && (decide (128 ≤ b0 b.data.toList (k + j)) && decide (b0 b.data.toList (k + j) < 192))) := by
  have e := len_drop b k
  unfold contB
  rw [b0_drop, e]
  have : decide (j < b.size - k) = decide (((k + j : Nat) : Int) < (b.size : Int)) := by
    by_cases h : k + j < b.size
    · simp [show j < b.size - k by omega]; omega
    · simp [show ¬ j < b.size - k by omega]; omega
  rw [this]
end Vm
