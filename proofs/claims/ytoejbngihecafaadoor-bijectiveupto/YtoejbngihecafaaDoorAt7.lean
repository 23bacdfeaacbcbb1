import Derived.Test.YtoejbngihecafaaDoorAt6
namespace Go.Proofs.YtoejbngihecafaaDoor
open Go.RowKit

theorem made_A2 {Bn Br B1 B2 B3 h hr : Nat} {c cr : Cn} {l rl rr m : Nd} {w w' : World} (on : (Nd.inner Bn c h l (Nd.inner Br cr hr rl rr)).Ok) (om : m.Ok) (h1 : m.lev + 1 < h) (h2 : l.lev < hr)
    (hi : (Nd.inner B3 ((l.cn.plus rl.cn).plus (rr.cn.plus m.cn)) (1 + max (1 + max l.lev rl.lev) (1 + max rr.lev m.lev)) (Nd.inner B1 (l.cn.plus rl.cn) (1 + max l.lev rl.lev) l rl) (Nd.inner B2 (rr.cn.plus m.cn) (1 + max rr.lev m.lev) rr m)).In w') (hb : Below w.heap.size w w') :
    Made (Nd.inner Bn c h l (Nd.inner Br cr hr rl rr)) m w (.returned (.iface 160 (.pointer (some ⟨B3, 0, none⟩)))) w' (Nd.inner B3 ((l.cn.plus rl.cn).plus (rr.cn.plus m.cn)) (1 + max (1 + max l.lev rl.lev) (1 + max rr.lev m.lev)) (Nd.inner B1 (l.cn.plus rl.cn) (1 + max l.lev rl.lev) l rl) (Nd.inner B2 (rr.cn.plus m.cn) (1 + max rr.lev m.lev) rr m)) := by
  obtain ⟨hc, hh, ol, hcr, hhr, orl, orr⟩ := on
  refine ⟨rfl, hi, ⟨rfl, rfl, ⟨rfl, rfl, ol, orl⟩, rfl, rfl, orr, om⟩, ?_, ?_, ?_, ?_, hb⟩
  · show _ = c.plus m.cn
    rw [hc]
    show (l.cn.plus rl.cn).plus (rr.cn.plus m.cn) = (l.cn.plus cr).plus m.cn
    rw [hcr, Cn.plus_assoc, Cn.plus_assoc, Cn.plus_assoc]
  · simp [Nd.row]
  · show max h m.lev ≤ 1 + max (1 + max l.lev rl.lev) (1 + max rr.lev m.lev)
    have hh' : h = 1 + max l.lev hr := hh
    omega
  · show 1 + max (1 + max l.lev rl.lev) (1 + max rr.lev m.lev) ≤ 1 + max h m.lev
    have hh' : h = 1 + max l.lev hr := hh
    omega
section
variable {Bn Br : Nat} {c cr : Cn} {h hr : Nat} {l rl rr m : Nd} {w w1 w2 : World}
theorem A2_start (H : Two (Nd.inner Bn c h l (Nd.inner Br cr hr rl rr)) m w w1) : w1.cell? ⟨Bn, 9, none⟩ = some (.iface l.ty (.pointer (some ⟨l.blk, 0, none⟩))) ∧ w1.cell? ⟨Bn, 10, none⟩ = some (.iface 160 (.pointer (some ⟨Br, 0, none⟩))) ∧ w1.cell? ⟨Br, 9, none⟩ = some (.iface rl.ty (.pointer (some ⟨rl.blk, 0, none⟩))) ∧ w1.cell? ⟨Br, 10, none⟩ = some (.iface rr.ty (.pointer (some ⟨rr.blk, 0, none⟩))) ∧ Two (Nd.inner Bn c h l (Nd.inner Br cr hr rl rr)) m w w1 :=
  ⟨(inner_at H.n).1, (inner_at H.n).2, (inner_at H.n.2.2).1, (inner_at H.n.2.2).2, H⟩
theorem A2_step (H : w1.cell? ⟨Bn, 9, none⟩ = some (.iface l.ty (.pointer (some ⟨l.blk, 0, none⟩))) ∧ w1.cell? ⟨Bn, 10, none⟩ = some (.iface 160 (.pointer (some ⟨Br, 0, none⟩))) ∧ w1.cell? ⟨Br, 9, none⟩ = some (.iface rl.ty (.pointer (some ⟨rl.blk, 0, none⟩))) ∧ w1.cell? ⟨Br, 10, none⟩ = some (.iface rr.ty (.pointer (some ⟨rr.blk, 0, none⟩))) ∧ Two (Nd.inner Bn c h l (Nd.inner Br cr hr rl rr)) m w w1) (hb : Below w1.heap.size w1 w2) : w2.cell? ⟨Bn, 9, none⟩ = some (.iface l.ty (.pointer (some ⟨l.blk, 0, none⟩))) ∧ w2.cell? ⟨Bn, 10, none⟩ = some (.iface 160 (.pointer (some ⟨Br, 0, none⟩))) ∧ w2.cell? ⟨Br, 9, none⟩ = some (.iface rl.ty (.pointer (some ⟨rl.blk, 0, none⟩))) ∧ w2.cell? ⟨Br, 10, none⟩ = some (.iface rr.ty (.pointer (some ⟨rr.blk, 0, none⟩))) ∧ Two (Nd.inner Bn c h l (Nd.inner Br cr hr rl rr)) m w w2 := A2_start (H.2.2.2.2.step hb)
theorem A2_drew (H : w1.cell? ⟨Bn, 9, none⟩ = some (.iface l.ty (.pointer (some ⟨l.blk, 0, none⟩))) ∧ w1.cell? ⟨Bn, 10, none⟩ = some (.iface 160 (.pointer (some ⟨Br, 0, none⟩))) ∧ w1.cell? ⟨Br, 9, none⟩ = some (.iface rl.ty (.pointer (some ⟨rl.blk, 0, none⟩))) ∧ w1.cell? ⟨Br, 10, none⟩ = some (.iface rr.ty (.pointer (some ⟨rr.blk, 0, none⟩))) ∧ Two (Nd.inner Bn c h l (Nd.inner Br cr hr rl rr)) m w w1) : w1.drew.cell? ⟨Bn, 9, none⟩ = some (.iface l.ty (.pointer (some ⟨l.blk, 0, none⟩))) ∧ w1.drew.cell? ⟨Bn, 10, none⟩ = some (.iface 160 (.pointer (some ⟨Br, 0, none⟩))) ∧ w1.drew.cell? ⟨Br, 9, none⟩ = some (.iface rl.ty (.pointer (some ⟨rl.blk, 0, none⟩))) ∧ w1.drew.cell? ⟨Br, 10, none⟩ = some (.iface rr.ty (.pointer (some ⟨rr.blk, 0, none⟩))) ∧ Two (Nd.inner Bn c h l (Nd.inner Br cr hr rl rr)) m w w1.drew := A2_step H ((Below.refl _ _).drew)
theorem A2_l (H : w1.cell? ⟨Bn, 9, none⟩ = some (.iface l.ty (.pointer (some ⟨l.blk, 0, none⟩))) ∧ w1.cell? ⟨Bn, 10, none⟩ = some (.iface 160 (.pointer (some ⟨Br, 0, none⟩))) ∧ w1.cell? ⟨Br, 9, none⟩ = some (.iface rl.ty (.pointer (some ⟨rl.blk, 0, none⟩))) ∧ w1.cell? ⟨Br, 10, none⟩ = some (.iface rr.ty (.pointer (some ⟨rr.blk, 0, none⟩))) ∧ Two (Nd.inner Bn c h l (Nd.inner Br cr hr rl rr)) m w w1) : l.In w1 := H.2.2.2.2.n.2.1
theorem A2_r (H : w1.cell? ⟨Bn, 9, none⟩ = some (.iface l.ty (.pointer (some ⟨l.blk, 0, none⟩))) ∧ w1.cell? ⟨Bn, 10, none⟩ = some (.iface 160 (.pointer (some ⟨Br, 0, none⟩))) ∧ w1.cell? ⟨Br, 9, none⟩ = some (.iface rl.ty (.pointer (some ⟨rl.blk, 0, none⟩))) ∧ w1.cell? ⟨Br, 10, none⟩ = some (.iface rr.ty (.pointer (some ⟨rr.blk, 0, none⟩))) ∧ Two (Nd.inner Bn c h l (Nd.inner Br cr hr rl rr)) m w w1) : (Nd.inner Br cr hr rl rr).In w1 := H.2.2.2.2.n.2.2
theorem A2_rl (H : w1.cell? ⟨Bn, 9, none⟩ = some (.iface l.ty (.pointer (some ⟨l.blk, 0, none⟩))) ∧ w1.cell? ⟨Bn, 10, none⟩ = some (.iface 160 (.pointer (some ⟨Br, 0, none⟩))) ∧ w1.cell? ⟨Br, 9, none⟩ = some (.iface rl.ty (.pointer (some ⟨rl.blk, 0, none⟩))) ∧ w1.cell? ⟨Br, 10, none⟩ = some (.iface rr.ty (.pointer (some ⟨rr.blk, 0, none⟩))) ∧ Two (Nd.inner Bn c h l (Nd.inner Br cr hr rl rr)) m w w1) : rl.In w1 := H.2.2.2.2.n.2.2.2.1
theorem A2_rr (H : w1.cell? ⟨Bn, 9, none⟩ = some (.iface l.ty (.pointer (some ⟨l.blk, 0, none⟩))) ∧ w1.cell? ⟨Bn, 10, none⟩ = some (.iface 160 (.pointer (some ⟨Br, 0, none⟩))) ∧ w1.cell? ⟨Br, 9, none⟩ = some (.iface rl.ty (.pointer (some ⟨rl.blk, 0, none⟩))) ∧ w1.cell? ⟨Br, 10, none⟩ = some (.iface rr.ty (.pointer (some ⟨rr.blk, 0, none⟩))) ∧ Two (Nd.inner Bn c h l (Nd.inner Br cr hr rl rr)) m w w1) : rr.In w1 := H.2.2.2.2.n.2.2.2.2
theorem A2_m (H : w1.cell? ⟨Bn, 9, none⟩ = some (.iface l.ty (.pointer (some ⟨l.blk, 0, none⟩))) ∧ w1.cell? ⟨Bn, 10, none⟩ = some (.iface 160 (.pointer (some ⟨Br, 0, none⟩))) ∧ w1.cell? ⟨Br, 9, none⟩ = some (.iface rl.ty (.pointer (some ⟨rl.blk, 0, none⟩))) ∧ w1.cell? ⟨Br, 10, none⟩ = some (.iface rr.ty (.pointer (some ⟨rr.blk, 0, none⟩))) ∧ Two (Nd.inner Bn c h l (Nd.inner Br cr hr rl rr)) m w w1) : m.In w1 := H.2.2.2.2.m
end
set_option maxRecDepth 100000 in
set_option maxHeartbeats 1000000 in
theorem leveled_A2 (Bn Br : Nat) (c cr : Cn) (h hr : Nat) (l rl rr m : Nd) (w : World) (hn : (Nd.inner Bn c h l (Nd.inner Br cr hr rl rr)).In w) (hm : m.In w) (on : (Nd.inner Bn c h l (Nd.inner Br cr hr rl rr)).Ok) (om : m.Ok) (hs : (c.plus m.cn).Small) (hrow : (Nd.inner Bn c h l (Nd.inner Br cr hr rl rr)).row.length + m.row.length ≤ 1152921504606846976) (h1 : m.lev + 1 < h) (h2 : l.lev < hr) :
    Calls Tryd.prog 93 #[(Nd.inner Bn c h l (Nd.inner Br cr hr rl rr)).val, m.val] w fun e w' => ∃ q, Made (Nd.inner Bn c h l (Nd.inner Br cr hr rl rr)) m w e w' q := by
  have l1 : h < _ := Nd.lev_row on
  have l2 := Nd.lev_row om
  have l3 := Nd.lev_row on.2.2.1
  have l4 := Nd.lev_row on.2.2.2.2.2.1
  have l5 := Nd.lev_row on.2.2.2.2.2.2
  have l6 : hr < _ := Nd.lev_row on.2.2.2
  have hrow2 : (Nd.inner Bn c h l (Nd.inner Br cr hr rl rr)).row.length = l.row.length + (rl.row.length + rr.row.length) := by simp [Nd.row]
  have H := hide1 (Two.mk hn hm (Below.refl w.heap.size w))
  have hcc : c.plus m.cn = (l.cn.plus rl.cn).plus (rr.cn.plus m.cn) := by
    have e1 : c = l.cn.plus cr := on.1
    have e2 : cr = rl.cn.plus rr.cn := on.2.2.2.1
    rw [e1, e2, Cn.plus_assoc, Cn.plus_assoc, Cn.plus_assoc]
  rw [hcc] at hs
  have HA1 := hide1 (fun w1 (hn : l.In w1) (hm : rl.In w1) => above_val l rl w1 hn hm hs.left.left hs.left.right (by omega) (by omega))
  have HA2 := hide1 (fun w1 (hn : rr.In w1) (hm : m.In w1) => above_val rr m w1 hn hm hs.right.left hs.right.right (by omega) (by omega))
  have HA3 := hide1 (fun B1 B2 w1 (hn : (Nd.inner B1 (l.cn.plus rl.cn) (1 + max l.lev rl.lev) l rl).In w1) (hm : (Nd.inner B2 (rr.cn.plus m.cn) (1 + max rr.lev m.lev) rr m).In w1) => above_val (Nd.inner B1 (l.cn.plus rl.cn) (1 + max l.lev rl.lev) l rl) (Nd.inner B2 (rr.cn.plus m.cn) (1 + max rr.lev m.lev) rr m) w1 hn hm hs.left hs.right (by show 1 + max l.lev rl.lev ≤ _; omega) (by show 1 + max rr.lev m.lev ≤ _; omega))
  have HQ := hide1 (fun B1 B2 B3 w' => @made_A2 Bn Br B1 B2 B3 h hr c cr l rl rr m w w' on om h1 h2)
  clear hcc hs
  rw [m.val_eq]
  simp only [Nd.val]
  generalize hj : m.lev = j at l2 h1
  have HJ := hide1 hj
  clear hj hn hm on om
  have ta := assert_inner
  go_enter Tryd.func93, Tryd.ntmps93
  go_wp2_with fail
  rw [show (method 296 160 (.pointer (some ⟨Bn, 0, none⟩)) "vellum/atoms.level").run Tryd.prog _ = _ from meth_level (Nd.inner Bn c h l (Nd.inner Br cr hr rl rr)) 295 _ H.out.n]
  go_wp2_with fail
  refine (level_any c h _).mono ?_
  rintro e w1 ⟨rfl, hb⟩
  replace H := hide1 (H.out.step hb)
  clear hb
  go_wp2_with fail
  rw [meth_level m 295 _ H.out.m, HJ.out]
  go_wp2_with fail
  refine (level_any m.cn j _).mono ?_
  rintro e w2 ⟨rfl, hb⟩
  replace H := hide1 (H.out.step hb)
  clear hb w1
  have hS := A2_start H.out
  obtain ⟨p9, p10, q9, q10, _⟩ := A2_start H.out
  generalize hlk : l.lev = lk at *
  have HLK := hide1 hlk
  clear hlk
  go_wp2_with fail
  go_region_held3 (fun w' => w'.cell? ⟨Bn, 9, none⟩ = some (.iface l.ty (.pointer (some ⟨l.blk, 0, none⟩))) ∧ w'.cell? ⟨Bn, 10, none⟩ = some (.iface 160 (.pointer (some ⟨Br, 0, none⟩))) ∧ w'.cell? ⟨Br, 9, none⟩ = some (.iface rl.ty (.pointer (some ⟨rl.blk, 0, none⟩))) ∧ w'.cell? ⟨Br, 10, none⟩ = some (.iface rr.ty (.pointer (some ⟨rr.blk, 0, none⟩))) ∧ Two (Nd.inner Bn c h l (Nd.inner Br cr hr rl rr)) m w w')
    (first | assumption | exact A2_drew (by assumption))
    (first
      | rw [meth_level l 295 _ (A2_l (by assumption)), HLK.out]
      | rw [show (method 296 160 (.pointer (some ⟨Br, 0, none⟩)) "vellum/atoms.level").run Tryd.prog _ = _ from meth_level (Nd.inner Br cr hr rl rr) 295 _ (A2_r (by assumption))]
      | (go_at_call 132; first | (refine (level_any l.cn lk _).mono ?_; rintro e w3 ⟨rfl, hb3⟩; have hS3 := A2_step (by assumption) hb3) | (refine (level_any cr hr _).mono ?_; rintro e w4 ⟨rfl, hb4⟩; have hS4 := A2_step (by assumption) hb4)))
  clear p9 p10 q9 q10
  obtain ⟨p9, p10, q9, q10, _⟩ := hS4
  go_wp2_with fail
  go_region_held3 (fun w' => w'.cell? ⟨Bn, 9, none⟩ = some (.iface l.ty (.pointer (some ⟨l.blk, 0, none⟩))) ∧ w'.cell? ⟨Bn, 10, none⟩ = some (.iface 160 (.pointer (some ⟨Br, 0, none⟩))) ∧ w'.cell? ⟨Br, 9, none⟩ = some (.iface rl.ty (.pointer (some ⟨rl.blk, 0, none⟩))) ∧ w'.cell? ⟨Br, 10, none⟩ = some (.iface rr.ty (.pointer (some ⟨rr.blk, 0, none⟩))) ∧ Two (Nd.inner Bn c h l (Nd.inner Br cr hr rl rr)) m w w')
    (first | assumption | exact A2_drew (by assumption))
    (first
      | (go_at_call 94; first
          | (refine (HA3.out B1 B2 _ (by assumption) (by assumption)).mono ?_; rintro e w7 ⟨B3, rfl, hi7, hb7⟩; have hS7 := A2_step (by assumption) hb7)
          | (have hB1 := Nat.le_refl B1; refine (HA2.out _ (A2_rr (by assumption)) (A2_m (by assumption))).mono ?_; rintro e w6 ⟨B2, rfl, hi6, hb6⟩; have hi56 := Nd.low hb6 hi5; have hS6 := A2_step (by assumption) hb6)
          | (refine (HA1.out _ (A2_l (by assumption)) (A2_rl (by assumption))).mono ?_; rintro e w5 ⟨B1, rfl, hi5, hb5⟩; have hS5 := A2_step (by assumption) hb5)))
  go_wp2_with fail
  go_ret
  exact ⟨_, HQ.out B1 B2 B3 w7 hi7 hS7.2.2.2.2.b⟩
end Go.Proofs.YtoejbngihecafaaDoor
