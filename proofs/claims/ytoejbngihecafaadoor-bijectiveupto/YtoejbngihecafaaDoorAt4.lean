import Derived.Deep.RegionHeld3
import Derived.Deep.Heap
import Derived.Test.YtoejbngihecafaaDoorAt1toAt3
namespace Go.Proofs.YtoejbngihecafaaDoor
open Go.RowKit

theorem above_fin (n m : Nd) (w w5 : World) (o : Obj) (c : Cn) (x : Nat) (hp : n.cn.plus m.cn = c) (hx : max n.lev m.lev = x) (hn : n.In w5) (hm : m.In w5) (hb : Below w.heap.size w w5) :
    ∃ B, Ending.returned (.iface 160 (.pointer (some ⟨w5.heap.size + 1, 0, none⟩))) = .returned (Nd.inner B (n.cn.plus m.cn) (1 + max n.lev m.lev) n m).val ∧ w.heap.size ≤ B ∧
      (Nd.inner B (n.cn.plus m.cn) (1 + max n.lev m.lev) n m).In ((w5.alloc o).alloc (.cells #[.int .i64 c.body, .int .i64 c.bytes, .int .i64 c.chars, .int .i64 c.units, .int .i64 c.esc, .int .i64 c.lf, .int .i64 c.crlf, .int .i64 c.cr, .int .i64 (1 + (x : Int)), .iface n.ty (.pointer (some ⟨n.blk, 0, none⟩)), .iface m.ty (.pointer (some ⟨m.blk, 0, none⟩))] 162)) ∧
      Below w.heap.size w ((w5.alloc o).alloc (.cells #[.int .i64 c.body, .int .i64 c.bytes, .int .i64 c.chars, .int .i64 c.units, .int .i64 c.esc, .int .i64 c.lf, .int .i64 c.crlf, .int .i64 c.cr, .int .i64 (1 + (x : Int)), .iface n.ty (.pointer (some ⟨n.blk, 0, none⟩)), .iface m.ty (.pointer (some ⟨m.blk, 0, none⟩))] 162)) := by
  subst hp hx
  have hz := hb.size
  refine ⟨w5.heap.size + 1, rfl, by omega, ⟨?_, ?_, ?_⟩, ?_⟩
  · rw [n.val_eq, m.val_eq]
    have h := Go.Deep.blk_alloc_new (w5.alloc o) (.cells #[.int .i64 (n.cn.plus m.cn).body, .int .i64 (n.cn.plus m.cn).bytes, .int .i64 (n.cn.plus m.cn).chars, .int .i64 (n.cn.plus m.cn).units, .int .i64 (n.cn.plus m.cn).esc, .int .i64 (n.cn.plus m.cn).lf, .int .i64 (n.cn.plus m.cn).crlf, .int .i64 (n.cn.plus m.cn).cr, .int .i64 (1 + ((max n.lev m.lev : Nat) : Int)), .iface n.ty (.pointer (some ⟨n.blk, 0, none⟩)), .iface m.ty (.pointer (some ⟨m.blk, 0, none⟩))] 162)
    rw [World.size_alloc] at h
    exact h
  · exact Nd.low (((Below.refl _ _).alloc (Nat.le_refl _) _).alloc (by simp) _) hn
  · exact Nd.low (((Below.refl _ _).alloc (Nat.le_refl _) _).alloc (by simp) _) hm
  · exact (hb.alloc hz _).alloc (by simp; omega) _
set_option maxRecDepth 100000 in
set_option maxHeartbeats 1000000 in
theorem above_any (n m : Nd) (w : World) (hn : n.In w) (hm : m.In w) (sn : n.cn.Small) (sm : m.cn.Small) (ln : n.lev ≤ 1152921504606846976) (lm : m.lev ≤ 1152921504606846976) :
    Calls Tryd.prog 94 #[n.val, m.val] w fun e w' => ∃ B, e = .returned (Nd.inner B (n.cn.plus m.cn) (1 + max n.lev m.lev) n m).val ∧ w.heap.size ≤ B ∧ (Nd.inner B (n.cn.plus m.cn) (1 + max n.lev m.lev) n m).In w' ∧ Below w.heap.size w w' := by
  rw [n.val_eq, m.val_eq]
  have hz := Nd.blk_lt hn
  have hz2 := Nd.blk_lt hm
  have HN := hide1 hn
  have HM := hide1 hm
  clear hn hm
  go_enter Tryd.func94, Tryd.ntmps94
  go_wp2_with fail
  rw [meth_counts n 295 _ HN.out]
  go_wp2_with fail
  refine (counts_any n.cn _).mono ?_
  rintro e w1 ⟨rfl, hb1⟩
  have HN1 := hide1 (Nd.low hb1 HN.out)
  have HM1 := hide1 (Nd.low hb1 HM.out)
  go_wp2_with fail
  rw [meth_counts m 295 _ HM1.out]
  go_wp2_with fail
  refine (counts_any m.cn _).mono ?_
  rintro e w2 ⟨rfl, hb2⟩
  have HN2 := hide1 (Nd.low hb2 HN1.out)
  have HM2 := hide1 (Nd.low hb2 HM1.out)
  go_wp2_with fail
  refine (plus_any n.cn m.cn _ sn sm).mono ?_
  rintro e w3 ⟨rfl, hb3⟩
  have HN3 := hide1 (Nd.low hb3 HN2.out)
  have HM3 := hide1 (Nd.low hb3 HM2.out)
  have hb3' : Below w.heap.size w w3 := (hb1.trans (hb2.mono hb1.size)).trans (hb3.mono (Nat.le_trans hb1.size hb2.size))
  clear HN HM HN1 HM1 HN2 HM2 hb1 hb2 hb3
  clear w1 w2
  go_wp2_with fail
  rw [meth_level n 295 _ HN3.out]
  go_wp2_with fail
  refine (level_any n.cn n.lev _).mono ?_
  rintro e w4 ⟨rfl, hb4⟩
  have HN4 := hide1 (Nd.low hb4 HN3.out)
  have HM4 := hide1 (Nd.low hb4 HM3.out)
  go_wp2_with fail
  rw [meth_level m 295 _ HM4.out]
  go_wp2_with fail
  refine (level_any m.cn m.lev _).mono ?_
  rintro e w5 ⟨rfl, hb5⟩
  have HN5 := hide1 (Nd.low hb5 HN4.out)
  have HM5 := hide1 (Nd.low hb5 HM4.out)
  have HB5 := hide1 ((hb3'.trans (hb4.mono hb3'.size)).trans (hb5.mono (Nat.le_trans hb3'.size hb4.size)))
  clear HN3 HM3 HN4 HM4 hb3' hb4 hb5
  clear w3 w4
  generalize hp : n.cn.plus m.cn = p
  have HP := hide1 hp
  clear hp
  obtain ⟨d0, d1, d2, d3, d4, d5, d6, d7⟩ := p
  simp only [Cn.val]
  generalize hk : n.lev = k at *
  generalize hj : m.lev = j at *
  have HK := hide1 hk
  have HJ := hide1 hj
  clear hk hj
  clear sn sm
  go_wp2_with fail
  · go_ret
    exact above_fin n m w w5 _ _ j HP.out (by rw [HK.out, HJ.out]; omega) HN5.out HM5.out HB5.out
  · go_ret
    exact above_fin n m w w5 _ _ k HP.out (by rw [HK.out, HJ.out]; omega) HN5.out HM5.out HB5.out
end Go.Proofs.YtoejbngihecafaaDoor
