import Derived.Test.YtoejbngihecafaaDoorLd2toLd5
namespace Go.Proofs.YtoejbngihecafaaDoor
open Go.RowKit

/-- Behind begin, on the copy at block Z; the result's block is the next one. -/
structure AlI (B Z : Nat) (w0 : World) (mode E : Int) (mk : Bool) (t : Option Nd) (tail : ByteArray) (v : Value) (ws : List UInt8) (R : List (Cn × ByteArray)) (w : World) : Prop where
  ld : LdC w Z mode true E mk (trv t) tail v
  wt : Wt w B v ws
  nz : wblk v ≠ some Z
  tr : TrAt w E t R
  tabs0 : Tabs w0
  zle : w0.heap.size ≤ Z
  rs : w.heap[Z + 1]? = some (.cells #[.int .i64 0, .bool false, .nilIface, .string ⟨#[]⟩] 69)
  low : Below w0.heap.size w0 w
theorem AlI.step {B Z : Nat} {w0 : World} {mode E : Int} {mk : Bool} {t : Option Nd} {tail : ByteArray} {v : Value} {ws : List UInt8} {R : List (Cn × ByteArray)} {w w' : World} (h : AlI B Z w0 mode E mk t tail v ws R w) (hb : Below w.heap.size w w') : AlI B Z w0 mode E mk t tail v ws R w' :=
  ⟨h.ld.below hb, h.wt.low hb, h.nz, h.tr.low hb, h.tabs0, h.zle, (hb.block _ (heap_lt h.rs)).trans h.rs, h.low.trans (hb.mono h.low.size)⟩
theorem AlI.tabs {B Z : Nat} {w0 : World} {mode E : Int} {mk : Bool} {t : Option Nd} {tail : ByteArray} {v : Value} {ws : List UInt8} {R : List (Cn × ByteArray)} {w : World} (h : AlI B Z w0 mode E mk t tail v ws R w) : Tabs w := h.tabs0.below h.low
theorem low_tn {Z : Nat} {w0 w w' : World} (h : Below w0.heap.size w0 w) (hz : w0.heap.size ≤ Z) (ht : Tn Z w w') : Below w0.heap.size w0 w' :=
  h.trans ⟨ht.os, ht.tape, ht.output, ht.size, fun k hk => ht.keep k (Nat.lt_of_lt_of_le hk h.size) (by omega)⟩
theorem AlI.root {B Z : Nat} {w0 : World} {mode E : Int} {mk : Bool} {t : Option Nd} {tail : ByteArray} {v : Value} {ws : List UInt8} {R : List (Cn × ByteArray)} {w : World} (h : AlI B Z w0 mode E mk t tail v ws R w) (t' : Option Nd) (R' : List (Cn × ByteArray)) (h' : TrAt w E t' R') : AlI B Z w0 mode E mk t' tail v ws R' (w.setCell ⟨Z, 4, none⟩ (trv t')) := by
  have t1 : Tn Z w (w.setCell ⟨Z, 4, none⟩ (trv t')) := (Tn.refl _ _).setCell _
  exact ⟨h.ld.set4 _, h.wt.tn t1 h.nz, h.nz, h'.tn2 h.ld.nb t1, h.tabs0, h.zle, (t1.keep _ (heap_lt h.rs) (by omega)).trans h.rs, low_tn h.low h.zle t1⟩
theorem AlI.tail {B Z : Nat} {w0 : World} {mode E : Int} {mk : Bool} {t : Option Nd} {tail : ByteArray} {v : Value} {ws : List UInt8} {R : List (Cn × ByteArray)} {w : World} (h : AlI B Z w0 mode E mk t tail v ws R w) (s : ByteArray) : AlI B Z w0 mode E mk t s v ws R (w.setCell ⟨Z, 5, none⟩ (.string s)) := by
  have t1 : Tn Z w (w.setCell ⟨Z, 5, none⟩ (.string s)) := (Tn.refl _ _).setCell _
  exact ⟨h.ld.set5 _, h.wt.tn t1 h.nz, h.nz, h.tr.tn2 h.ld.nb t1, h.tabs0, h.zle, (t1.keep _ (heap_lt h.rs) (by omega)).trans h.rs, low_tn h.low h.zle t1⟩
/-- Four cells of a block are set: the block bears them, no other turns. -/
theorem four_put {W : World} {C : Nat} {u0 u1 u2 u3 : Value} (a b c d : Value) (h0 : W.cell? ⟨C, 0, none⟩ = some u0) (h1 : W.cell? ⟨C, 1, none⟩ = some u1) (h2 : W.cell? ⟨C, 2, none⟩ = some u2) (h3 : W.cell? ⟨C, 3, none⟩ = some u3) {X : World} (hX : X = (((W.setCell ⟨C, 0, none⟩ a).setCell ⟨C, 1, none⟩ b).setCell ⟨C, 2, none⟩ c).setCell ⟨C, 3, none⟩ d) :
    X.cell? ⟨C, 0, none⟩ = some a ∧ X.cell? ⟨C, 1, none⟩ = some b ∧ X.cell? ⟨C, 2, none⟩ = some c ∧ X.cell? ⟨C, 3, none⟩ = some d ∧ Tn C W X ∧ tyAt X C = tyAt W C := by
  subst hX
  refine ⟨?_, ?_, ?_, ?_, ((((Tn.refl _ _).setCell _).setCell _).setCell _).setCell _, by rw [tyAt_set, tyAt_set, tyAt_set, tyAt_set]⟩
  · rw [sc8_ne _ _ 3 0 _ (by decide), sc8_ne _ _ 2 0 _ (by decide), sc8_ne _ _ 1 0 _ (by decide)]; exact sc8_eq _ _ 0 _ _ h0
  · rw [sc8_ne _ _ 3 1 _ (by decide), sc8_ne _ _ 2 1 _ (by decide)]; refine sc8_eq _ _ 1 _ u1 ?_; rw [sc8_ne _ _ 0 1 _ (by decide)]; exact h1
  · rw [sc8_ne _ _ 3 2 _ (by decide)]; refine sc8_eq _ _ 2 _ u2 ?_; rw [sc8_ne _ _ 1 2 _ (by decide), sc8_ne _ _ 0 2 _ (by decide)]; exact h2
  · refine sc8_eq _ _ 3 _ u3 ?_; rw [sc8_ne _ _ 2 3 _ (by decide), sc8_ne _ _ 1 3 _ (by decide), sc8_ne _ _ 0 3 _ (by decide)]; exact h3
theorem trv_some (n : Nd) : trv (some n) = .iface n.ty (.pointer (some ⟨n.blk, 0, none⟩)) := rfl

set_option maxRecDepth 100000 in
set_option maxHeartbeats 2000000 in
theorem all_any (B : Nat) (mode enc E : Int) (begun mark mk : Bool) (t : Option Nd) (tail : ByteArray) (v : Value) (ws : List UInt8) (R : List (Cn × ByteArray)) (w : World) (h0 : 0 ≤ E) (h3 : E ≤ 3) (hws : ws.length ≤ 1099511627776) (hlen : (rowB R).length + ws.length ≤ 1099511627776) (hrl : R.length ≤ 1099511627776)
    (HBG : Calls Tryd.prog 59 #[.pointer (some ⟨w.heap.size, 0, none⟩)] ((w.alloc (.cells #[.int .i64 mode, .bool begun, .int .i64 enc, .bool mark, trv t, .string tail, v] 72)).alloc (.cells #[.int .i64 0, .bool false, .nilIface, .string ⟨#[]⟩] 69)) fun e w1 => e = .returned (.tuple #[]) ∧ ∃ v', AlI B w.heap.size w mode E mk t tail v' ws R w1) :
    Calls Tryd.prog 38 #[.agg #[.int .i64 mode, .bool begun, .int .i64 enc, .bool mark, trv t, .string tail, v]] w fun e w' => ∃ n R' tail', e = .returned (.agg #[.int .i64 E, .bool mk, trv (some n), .string tail']) ∧ TrAt w' E (some n) R' ∧
      rowB R' = rowB R ++ ws.take (Vm.sizeA (Vm.atoms E ws)) ∧ rowA E R' = rowA E R ++ Vm.atoms E ws ∧ tail'.data.toList = ws.drop (Vm.sizeA (Vm.atoms E ws)) ∧ Below w.heap.size w w' := by
  have HB := hide1 HBG
  clear HBG
  go_enter Tryd.func38, Tryd.ntmps38
  go_wp2_with fail
  refine HB.out.mono ?_
  rintro e w1 ⟨rfl, v', hA⟩
  obtain ⟨p, cap, rfl, hcap⟩ := hA.wt.val
  have c0 := hA.ld.c0
  have c2 := hA.ld.c2
  have c6 := hA.ld.c6
  have hcv := wt_conv hA.wt ws.length (Nat.le_refl _)
  have HA := hide1 hA
  clear hA HB
  go_wp2_with fail
  refine (leaf_any E ⟨ws.toArray⟩ ws.length w1 HA.out.tabs (by simpa [ByteArray.size] using hws) hws h0 h3).mono ?_
  rintro e w2 ⟨Bk, A0, rfl, hpre, hsz, hor, hin, hb2⟩
  have hwl : (⟨ws.toArray⟩ : ByteArray).data.toList = ws := by simp
  obtain ⟨htr, hrb, hra⟩ := leaf_tr hpre hin
  rw [hwl] at hpre hor hrb
  have hA0 : A0 = Vm.atoms E ws := by
    rcases hor with r | ⟨x, hx, hlt⟩
    · exact r
    · have := Vm.sizeA_le hx; omega
  have H2 := hide1 (HA.out.step hb2)
  have HTR := hide1 htr
  clear hor hin hb2 HA hpre htr c0 c2 c6 hcv
  have hsle : Vm.sizeA A0 ≤ ws.length := hsz
  generalize hlf : (⟨ws.toArray⟩ : ByteArray).extract 0 (Vm.sizeA A0) = lf at *
  have c4 := H2.out.ld.c4
  have f4 := H2.out.ld.fr 4
  have hz := block_lt c4
  go_wp2_with fail
  have hba := (Below.refl w2.heap.size w2).alloc (Nat.le_refl _) (.cells #[.iface 138 (.pointer (some ⟨Bk, 0, none⟩))] 67)
  have H2b := hide1 (H2.out.step hba)
  have HTRb := hide1 (HTR.out.low hba)
  have hLb := heap_alloc_new w2 (.cells #[.iface 138 (.pointer (some ⟨Bk, 0, none⟩))] 67)
  have hLz : w.heap.size < w2.heap.size := block_lt H2.out.ld.c0
  clear H2 HTR c4 f4 hz hba
  generalize w2.alloc (.cells #[.iface 138 (.pointer (some ⟨Bk, 0, none⟩))] 67) = w2b at *
  generalize w2.heap.size = L at *
  have HJ := hide1 (joinT_any E t (some (Nd.leaf Bk (cnOf A0) lf)) R [(cnOf A0, lf)] w2b H2b.out.tr HTRb.out (by rw [hrb, List.length_take]; omega) (by simp; omega))
  refine HJ.out.mono ?_
  rintro e w3 ⟨t', R', hJ⟩
  obtain ⟨n', rfl⟩ : ∃ n', t' = some n' := Option.isSome_iff_exists.1 (hJ.som rfl)
  obtain ⟨rfl, htr3, hat, hby, _, hb3, _⟩ := hJ
  have H3 := hide1 (H2b.out.step hb3)
  have HL3 := hide1 (HTRb.out.low hb3)
  have HT3 := hide1 htr3
  have hL3 := (hb3.block L (heap_lt hLb)).trans hLb
  have hne : L ≠ w.heap.size := by omega
  clear H2b HTRb HJ htr3 hb3 hLb
  have c4 := H3.out.ld.c4
  have f4 := H3.out.ld.fr 4
  have hz := block_lt c4
  have t1 : Tn w.heap.size w3 (w3.setCell ⟨w.heap.size, 4, none⟩ (trv (some n'))) := (Tn.refl _ _).setCell _
  have hL4 := (t1.keep L (heap_lt hL3) hne).trans hL3
  have cL : (w3.setCell ⟨w.heap.size, 4, none⟩ (trv (some n'))).cell? ⟨L, 0, none⟩ = some (.iface 138 (.pointer (some ⟨Bk, 0, none⟩))) := by rw [Lib.cell_of_heap hL4]; rfl
  have H4 := hide1 (H3.out.root (some n') R' HT3.out)
  have HL4 := hide1 (HL3.out.tn2 H3.out.ld.nb t1)
  clear H3 HL3 HT3 t1
  simp only [trv_some] at cL hL4 H4 HL4 ⊢
  go_wp2_with fail
  generalize w3.setCell ⟨w.heap.size, 4, none⟩ (.iface n'.ty (.pointer (some ⟨n'.blk, 0, none⟩))) = w4 at *
  refine HL4.out.counts.mono ?_
  rintro e w5 ⟨rfl, hb5⟩
  rw [hra]
  have H5 := hide1 (H4.out.step hb5)
  clear H4 HL4 cL hL4 c4 f4 hz hL3 hb5
  subst hA0
  have c5 := H5.out.ld.c5
  have f5 := H5.out.ld.fr 5
  have hz := block_lt c5
  have fb := field_body
  simp only [cnOf, Cn.val]
  have HBY := hide1 hby
  have HAT := hide1 hat
  have HRA := hide1 hra
  have HRB := hide1 hrb
  clear hby hat hra hrb hlf
  generalize hk : Vm.sizeA (Vm.atoms E ws) = k at *
  have hkI : (k : Int) ≤ (ws.length : Int) := by omega
  have hk0 : (0 : Int) ≤ (k : Int) := by omega
  have H6 := hide1 (H5.out.tail ((⟨ws.toArray⟩ : ByteArray).extract k ws.length))
  obtain ⟨d2, d3, d4, d5⟩ := four_at H6.out.ld
  simp only [trv_some] at d4
  have HK := hide1 hk
  have hr0 : (w5.setCell ⟨w.heap.size, 5, none⟩ (.string ((⟨ws.toArray⟩ : ByteArray).extract k ws.length))).cell? ⟨w.heap.size + 1, 0, none⟩ = some (.int .i64 0) := by rw [Lib.cell_of_heap H6.out.rs]; rfl
  have hr1 : (w5.setCell ⟨w.heap.size, 5, none⟩ (.string ((⟨ws.toArray⟩ : ByteArray).extract k ws.length))).cell? ⟨w.heap.size + 1, 1, none⟩ = some (.bool false) := by rw [Lib.cell_of_heap H6.out.rs]; rfl
  have hr2 : (w5.setCell ⟨w.heap.size, 5, none⟩ (.string ((⟨ws.toArray⟩ : ByteArray).extract k ws.length))).cell? ⟨w.heap.size + 1, 2, none⟩ = some (.nilIface) := by rw [Lib.cell_of_heap H6.out.rs]; rfl
  have hr3 : (w5.setCell ⟨w.heap.size, 5, none⟩ (.string ((⟨ws.toArray⟩ : ByteArray).extract k ws.length))).cell? ⟨w.heap.size + 1, 3, none⟩ = some (.string ⟨#[]⟩) := by rw [Lib.cell_of_heap H6.out.rs]; rfl
  have hf : ∀ j, w5.frozen? ⟨w.heap.size + 1, j, none⟩ = false := fun j => Lib.frozen_of_heap H5.out.rs j
  have hz1 : w.heap.size + 1 < w5.heap.size := heap_lt H5.out.rs
  clear H5 hk
  go_wp2_with fail
  clear d2 d3 d4 d5 hf hz1 c5 f5 hz
  generalize w5.setCell ⟨w.heap.size, 5, none⟩ (.string ((⟨ws.toArray⟩ : ByteArray).extract k ws.length)) = w6 at *
  have hfp := fun X hX => four_put (W := w6) (C := w.heap.size + 1) (.int .i64 E) (.bool mk) (.iface n'.ty (.pointer (some ⟨n'.blk, 0, none⟩))) (.string ((⟨ws.toArray⟩ : ByteArray).extract k ws.length)) hr0 hr1 hr2 hr3 (X := X) hX
  have hty : tyAt w6 (w.heap.size + 1) = some 69 := by unfold tyAt; rw [H6.out.rs]
  generalize hX : (((w6.setCell ⟨w.heap.size + 1, 0, none⟩ (.int .i64 E)).setCell ⟨w.heap.size + 1, 1, none⟩ (.bool mk)).setCell ⟨w.heap.size + 1, 2, none⟩ (.iface n'.ty (.pointer (some ⟨n'.blk, 0, none⟩)))).setCell ⟨w.heap.size + 1, 3, none⟩ (.string ((⟨ws.toArray⟩ : ByteArray).extract k ws.length)) = X
  obtain ⟨q0, q1, q2, q3, htn, _⟩ := hfp X hX.symm
  clear hfp hX hr0 hr1 hr2 hr3
  have hnn : NoNd w6 (w.heap.size + 1) := by unfold NoNd; rw [hty]; exact ⟨by decide, by decide⟩
  refine bodyPost_ret (v := .agg #[.int .i64 E, .bool mk, .iface n'.ty (.pointer (some ⟨n'.blk, 0, none⟩)), .string ((⟨ws.toArray⟩ : ByteArray).extract k ws.length)]) (by simp [results, Tryd.results38, go_sem, q0, q1, q2, q3]) rfl ⟨n', R', _, rfl, H6.out.tr.tn2 hnn htn, ?_, ?_, ?_, low_tn H6.out.low (by omega) htn⟩
  · rw [HBY.out, HRB.out, HK.out]
  · rw [HAT.out, HRA.out]
  · rw [HK.out, ByteArray.data_extract, Array.toList_extract, List.extract_eq_take_drop]
    show ((ws.toArray.toList).drop k).take (ws.length - k) = _
    rw [List.toList_toArray]
    exact List.take_of_length_le (by rw [List.length_drop]; omega)
end Go.Proofs.YtoejbngihecafaaDoor
