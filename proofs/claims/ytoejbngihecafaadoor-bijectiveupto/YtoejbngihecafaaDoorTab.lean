import Derived.Test.YtoejbngihecafaaDoorRows
import Derived.OpenShut
import Derived.LaidLaws
import Derived.Lib.LaidTab
import Derived.Test.YtoejbngihecafaaDoorRead1toRead4
namespace Go.Proofs.YtoejbngihecafaaDoor
open Go.RowKit

/-- The field j of the row i of a table of structs. -/
theorem tab_field {P : Program} {w : World} {base : Nat} {sp : Nat → Bool} {held : Bool} {fuel n i j : Nat} {t e : TypeId} {fs : Array Field} {f : Field} {cs : List Value} {rows flds : List (DataW Unit)} {d : DataW Unit} {p : List MemPlace}
    (ht : P.underlying t = some (.array n e)) (he : P.underlying e = some (.struct fs)) (h : DataW.trod (fun _ => ()) P w base sp held fuel t cs = some (.agg rows, p)) (hi : i < n) (hr : rows[i]? = some (.agg flds)) (hf : fs[j]? = some f) (hd : flds[j]? = some d) :
    ∃ m q, DataW.trod (fun _ => ()) P w base sp held m f.type ((((cs.drop (i * P.cellsOf e)).take (P.cellsOf e)).drop f.offset).take (P.cellsOf f.type)) = some (d, q) := by
  obtain ⟨xs, m, _, hx, _, hxl, hall⟩ := DataW.trod_array ht h
  have hx1 : rows = xs.map (fun y => y.1) := by
    have := congrArg Prod.fst hx
    injection this
  rw [hx1, List.getElem?_map] at hr
  obtain ⟨y, hy, hy2⟩ := Option.map_eq_some_iff.1 hr
  have h2 := hall i hi
  rw [hy] at h2
  obtain ⟨y1, y2⟩ := y
  simp only at hy2
  subst hy2
  obtain ⟨zs, m2, _, hz, _, hzl, hall2⟩ := DataW.trod_struct he h2
  have hz1 : flds = zs.map (fun y => y.1) := by
    have := congrArg Prod.fst hz
    injection this
  rw [hz1, List.getElem?_map] at hd
  obtain ⟨u, hu, hu2⟩ := Option.map_eq_some_iff.1 hd
  have h3 := hall2 j f hf
  rw [hu] at h3
  obtain ⟨u1, u2⟩ := u
  simp only at hu2
  subst hu2
  exact ⟨m2, u2, h3⟩
theorem cell_of_part {cs : List Value} {a b c d : Nat} {v : Value} (h : ((((cs.drop a).take b).drop c).take d) = [v]) : cs[a + c]? = some v := by
  have h1 := congrArg (fun l => l[0]?) h
  simp only [List.getElem?_take, List.getElem?_drop, List.getElem?_cons_zero] at h1
  split at h1
  · split at h1
    · simpa using h1
    · cases h1
  · cases h1
theorem tab_int {P : Program} {w : World} {base : Nat} {sp : Nat → Bool} {held : Bool} {fuel n i j : Nat} {t e : TypeId} {fs : Array Field} {f : Field} {cs : List Value} {rows flds : List (DataW Unit)} {k : IntKind} {z : Int} {p : List MemPlace}
    (ht : P.underlying t = some (.array n e)) (he : P.underlying e = some (.struct fs)) (h : DataW.trod (fun _ => ()) P w base sp held fuel t cs = some (.agg rows, p)) (hi : i < n) (hr : rows[i]? = some (.agg flds)) (hf : fs[j]? = some f) (hd : flds[j]? = some (.lit (.int k z))) (hu : P.underlying f.type = some (.int k)) :
    cs[i * P.cellsOf e + f.offset]? = some (.int k z) := by
  obtain ⟨m, q, h1⟩ := tab_field ht he h hi hr hf hd
  obtain ⟨z', hc, hx, _⟩ := DataW.trod_int hu h1
  have : z' = z := by
    have := congrArg Prod.fst hx
    simp only [DataW.lit.injEq, Lit.int.injEq, true_and] at this
    exact this.symm
  subst this
  exact cell_of_part hc
theorem tab_str {P : Program} {w : World} {base : Nat} {sp : Nat → Bool} {held : Bool} {fuel n i j : Nat} {t e : TypeId} {fs : Array Field} {f : Field} {cs : List Value} {rows flds : List (DataW Unit)} {l : List UInt8} {p : List MemPlace}
    (ht : P.underlying t = some (.array n e)) (he : P.underlying e = some (.struct fs)) (h : DataW.trod (fun _ => ()) P w base sp held fuel t cs = some (.agg rows, p)) (hi : i < n) (hr : rows[i]? = some (.agg flds)) (hf : fs[j]? = some f) (hd : flds[j]? = some (.lit (.string l))) (hu : P.underlying f.type = some .string) :
    cs[i * P.cellsOf e + f.offset]? = some (.string ⟨l.toArray⟩) := by
  obtain ⟨m, q, h1⟩ := tab_field ht he h hi hr hf hd
  obtain ⟨s, hc, hx, _⟩ := DataW.trod_string hu h1
  have : l = s.data.toList := by
    have := congrArg Prod.fst hx
    simp only [DataW.lit.injEq, Lit.string.injEq] at this
    exact this
  subst this
  simpa using cell_of_part hc

theorem gHalf : Tryd.prog.globalNamed "vellum/code.halves" = some 2 := by kernel_rfl
theorem gSeq : Tryd.prog.globalNamed "vellum/code.sequences" = some 3 := by kernel_rfl
theorem gEnc : Tryd.prog.globalNamed "vellum/code.encodings" = some 0 := by kernel_rfl
set_option maxRecDepth 100000 in
theorem half_of {W : World} {cs : Array Value} {fuel : Nat} {p : List MemPlace} (hv : W.var? Tryd.prog "vellum/code.halves" = some cs) (hd : DataW.trod (fun _ => ()) Tryd.prog W 0 (fun _ => true) false fuel 178 cs.toList = some (Rows.laid_vellum_code_halves, p)) : TabHalf W := by
  have hc : ∀ i v, cs.toList[i]? = some v → W.cell? ⟨2, i, none⟩ = some v := fun i v h => (World.var?_cell gHalf hv i).trans (by rw [← Array.getElem?_toList]; exact h)
  have ce : Tryd.prog.cellsOf 177 = 2 := by kernel_rfl
  have c0 := tab_int (i := 0) (j := 0) Tryd.underlying178 Tryd.underlying177 hd (by decide) rfl rfl rfl Tryd.underlying21
  have c1 := tab_int (i := 0) (j := 1) Tryd.underlying178 Tryd.underlying177 hd (by decide) rfl rfl rfl Tryd.underlying21
  have c2 := tab_int (i := 1) (j := 0) Tryd.underlying178 Tryd.underlying177 hd (by decide) rfl rfl rfl Tryd.underlying21
  have c3 := tab_int (i := 1) (j := 1) Tryd.underlying178 Tryd.underlying177 hd (by decide) rfl rfl rfl Tryd.underlying21
  rw [ce] at c0 c1 c2 c3
  exact ⟨hc 0 _ c0, hc 1 _ c1, hc 2 _ c2, hc 3 _ c3⟩
set_option maxRecDepth 100000 in
theorem enc_of {W : World} {cs : Array Value} {fuel : Nat} {p : List MemPlace} (hv : W.var? Tryd.prog "vellum/code.encodings" = some cs) (hd : DataW.trod (fun _ => ()) Tryd.prog W 0 (fun _ => true) false fuel 155 cs.toList = some (Rows.laid_vellum_code_encodings, p)) : TabEnc W := by
  have hc : ∀ i v, cs.toList[i]? = some v → W.cell? ⟨0, i, none⟩ = some v := fun i v h => (World.var?_cell gEnc hv i).trans (by rw [← Array.getElem?_toList]; exact h)
  have ce : Tryd.prog.cellsOf 154 = 4 := by kernel_rfl
  have m0 := tab_str (i := 0) (j := 0) Tryd.underlying155 Tryd.underlying154 hd (by decide) rfl rfl rfl Tryd.underlying9
  have g0 := tab_int (i := 0) (j := 1) Tryd.underlying155 Tryd.underlying154 hd (by decide) rfl rfl rfl Tryd.underlying21
  have l0 := tab_int (i := 0) (j := 2) Tryd.underlying155 Tryd.underlying154 hd (by decide) rfl rfl rfl Tryd.underlying3
  have h0 := tab_int (i := 0) (j := 3) Tryd.underlying155 Tryd.underlying154 hd (by decide) rfl rfl rfl Tryd.underlying3
  have m1 := tab_str (i := 1) (j := 0) Tryd.underlying155 Tryd.underlying154 hd (by decide) rfl rfl rfl Tryd.underlying9
  have g1 := tab_int (i := 1) (j := 1) Tryd.underlying155 Tryd.underlying154 hd (by decide) rfl rfl rfl Tryd.underlying21
  have l1 := tab_int (i := 1) (j := 2) Tryd.underlying155 Tryd.underlying154 hd (by decide) rfl rfl rfl Tryd.underlying3
  have h1 := tab_int (i := 1) (j := 3) Tryd.underlying155 Tryd.underlying154 hd (by decide) rfl rfl rfl Tryd.underlying3
  have m2 := tab_str (i := 2) (j := 0) Tryd.underlying155 Tryd.underlying154 hd (by decide) rfl rfl rfl Tryd.underlying9
  have g2 := tab_int (i := 2) (j := 1) Tryd.underlying155 Tryd.underlying154 hd (by decide) rfl rfl rfl Tryd.underlying21
  have l2 := tab_int (i := 2) (j := 2) Tryd.underlying155 Tryd.underlying154 hd (by decide) rfl rfl rfl Tryd.underlying3
  have h2 := tab_int (i := 2) (j := 3) Tryd.underlying155 Tryd.underlying154 hd (by decide) rfl rfl rfl Tryd.underlying3
  have m3 := tab_str (i := 3) (j := 0) Tryd.underlying155 Tryd.underlying154 hd (by decide) rfl rfl rfl Tryd.underlying9
  have g3 := tab_int (i := 3) (j := 1) Tryd.underlying155 Tryd.underlying154 hd (by decide) rfl rfl rfl Tryd.underlying21
  have l3 := tab_int (i := 3) (j := 2) Tryd.underlying155 Tryd.underlying154 hd (by decide) rfl rfl rfl Tryd.underlying3
  have h3 := tab_int (i := 3) (j := 3) Tryd.underlying155 Tryd.underlying154 hd (by decide) rfl rfl rfl Tryd.underlying3
  rw [ce] at m0 g0 l0 h0 m1 g1 l1 h1 m2 g2 l2 h2 m3 g3 l3 h3
  exact ⟨hc 0 _ m0, hc 1 _ g0, hc 2 _ l0, hc 3 _ h0, hc 4 _ m1, hc 5 _ g1, hc 6 _ l1, hc 7 _ h1, hc 8 _ m2, hc 9 _ g2, hc 10 _ l2, hc 11 _ h2, hc 12 _ m3, hc 13 _ g3, hc 14 _ l3, hc 15 _ h3⟩
set_option maxRecDepth 100000 in
theorem seq_of {W : World} {cs : Array Value} {fuel : Nat} {p : List MemPlace} (hv : W.var? Tryd.prog "vellum/code.sequences" = some cs) (hd : DataW.trod (fun _ => ()) Tryd.prog W 0 (fun _ => true) false fuel 181 cs.toList = some (Rows.laid_vellum_code_sequences, p)) : TabSeq W := by
  have hc : ∀ i v, cs.toList[i]? = some v → W.cell? ⟨3, i, none⟩ = some v := fun i v h => (World.var?_cell gSeq hv i).trans (by rw [← Array.getElem?_toList]; exact h)
  have ce : Tryd.prog.cellsOf 174 = 5 := by kernel_rfl
  have hk11 : ∀ k : Nat, k < 11 → k = 0 ∨ k = 1 ∨ k = 2 ∨ k = 3 ∨ k = 4 ∨ k = 5 ∨ k = 6 ∨ k = 7 ∨ k = 8 ∨ k = 9 ∨ k = 10 := fun k h => by omega
  have a : ∀ k : Nat, k < 11 → W.cell? ⟨3, k * 5 + 0, none⟩ = some (.int .u8 (Vm.sqUp k)) := by
    intro k hk
    rcases hk11 k hk with rfl | rfl | rfl | rfl | rfl | rfl | rfl | rfl | rfl | rfl | rfl
    all_goals
      have c := tab_int (j := 0) Tryd.underlying181 Tryd.underlying174 hd hk rfl rfl rfl Tryd.underlying5
      rw [ce] at c
      exact hc _ _ c
  have b : ∀ k : Nat, k < 11 → W.cell? ⟨3, k * 5 + 1, none⟩ = some (.int .i64 (Vm.sqSize k)) := by
    intro k hk
    rcases hk11 k hk with rfl | rfl | rfl | rfl | rfl | rfl | rfl | rfl | rfl | rfl | rfl
    all_goals
      have c := tab_int (j := 1) Tryd.underlying181 Tryd.underlying174 hd hk rfl rfl rfl Tryd.underlying3
      rw [ce] at c
      exact hc _ _ c
  have c : ∀ k : Nat, k < 11 → W.cell? ⟨3, k * 5 + 2, none⟩ = some (.int .u8 (Vm.sqBits k)) := by
    intro k hk
    rcases hk11 k hk with rfl | rfl | rfl | rfl | rfl | rfl | rfl | rfl | rfl | rfl | rfl
    all_goals
      have c := tab_int (j := 2) Tryd.underlying181 Tryd.underlying174 hd hk rfl rfl rfl Tryd.underlying5
      rw [ce] at c
      exact hc _ _ c
  have d : ∀ k : Nat, k < 11 → W.cell? ⟨3, k * 5 + 3, none⟩ = some (.int .u8 (Vm.sqLeast k)) := by
    intro k hk
    rcases hk11 k hk with rfl | rfl | rfl | rfl | rfl | rfl | rfl | rfl | rfl | rfl | rfl
    all_goals
      have c := tab_int (j := 3) Tryd.underlying181 Tryd.underlying174 hd hk rfl rfl rfl Tryd.underlying5
      rw [ce] at c
      exact hc _ _ c
  have e : ∀ k : Nat, k < 11 → W.cell? ⟨3, k * 5 + 4, none⟩ = some (.int .u8 (Vm.sqMost k)) := by
    intro k hk
    rcases hk11 k hk with rfl | rfl | rfl | rfl | rfl | rfl | rfl | rfl | rfl | rfl | rfl
    all_goals
      have c := tab_int (j := 4) Tryd.underlying181 Tryd.underlying174 hd hk rfl rfl rfl Tryd.underlying5
      rw [ce] at c
      exact hc _ _ c
  exact ⟨a, b, c, d, e⟩
theorem tHalf : (Tryd.prog.globals[2]?).map (·.type) = some 178 := by kernel_rfl
theorem tSeq : (Tryd.prog.globals[3]?).map (·.type) = some 181 := by kernel_rfl
theorem tEnc : (Tryd.prog.globals[0]?).map (·.type) = some 155 := by kernel_rfl
end Go.Proofs.YtoejbngihecafaaDoor
