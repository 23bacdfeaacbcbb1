import Derived.Test.YtoejbngihecafaaDoorTab
namespace Go.Proofs.YtoejbngihecafaaDoor
open Go.RowKit

/-- What every row's list gives. -/
theorem tabs_of_laid {W : World} (h : laidMetH Tryd.prog Rows.loadsRow.laid W) : Tabs W := by
  obtain ⟨ps, ⟨g1, t1, cs1, f1, p1, q1, hg1, ht1, hv1, hd1, ⟨g2, t2, cs2, f2, p2, q2, hg2, ht2, hv2, hd2, ⟨g3, t3, cs3, f3, p3, q3, hg3, ht3, hv3, hd3, _, _⟩, _⟩, _⟩, _⟩ := h
  obtain rfl := Option.some.inj (gEnc.symm.trans hg1)
  obtain rfl := Option.some.inj (gSeq.symm.trans hg2)
  obtain rfl := Option.some.inj (gHalf.symm.trans hg3)
  obtain rfl := Option.some.inj (tEnc.symm.trans ht1)
  obtain rfl := Option.some.inj (tSeq.symm.trans ht2)
  obtain rfl := Option.some.inj (tHalf.symm.trans ht3)
  exact ⟨seq_of hv2 hd2, half_of hv3 hd3, enc_of hv1 hd1⟩
end Go.Proofs.YtoejbngihecafaaDoor
