import Derived.Test.YtjbfgnhkgjigpaaGreatDoorRows
import Derived.OpenShut
import Derived.LaidLaws
import Derived.Lib.LaidTab
import Derived.Test.YtjbfgnhkgjigpaaGreatDoorGb3
import Derived.Test.YtjbfgnhkgjigpaaGreatDoorGc4
import Derived.Test.YtjbfgnhkgjigpaaGreatDoorGe1
namespace Go.Proofs.YtjbfgnhkgjigpaaGreatDoor
open Go.RowKit

/-- A loader that was begun in the world w0. -/
def LL (w0 w : World) (q : Nat) (mode : Int) (all : List UInt8) : Prop := ∃ begun enc mark t R v ws, LdS w0.heap.size q mode begun enc mark t R v ws w ∧ Inv mode all begun enc mark t R ws ∧ Below w0.heap.size w0 w ∧ w0.heap.size ≤ q
theorem TrAt.ps {w w' : World} {B q : Nat} {v v' : Value} {ws : List UInt8} {enc : Int} {t : Option Nd} {R : List (Cn × ByteArray)} (h : TrAt w enc t R) (hq : NoNd w q) (hw : Wt w B v ws) (hs : Ps q v w v' w') : TrAt w' enc t R := by
  refine h.kept_ty (fun k c ty hk hty => hs.keep k (heap_lt hk) (fun e => ?_) (fun e => ?_))
  · subst e
    have : tyAt w k = some ty := by unfold tyAt; rw [hk]
    rcases hty with x | x
    · exact hq.1 (by rw [this, x])
    · exact hq.2 (by rw [this, x])
  · rcases hw with ⟨rfl, rfl⟩ | ⟨g, o, cap, cur, rfl, hg, hh, r⟩
    · cases e
    · cases e
      rw [hk] at hh
      injection hh with hh
      injection hh with h1 h2 h3
      rcases hty with x | x
      · rw [x] at h2; exact absurd h2 (by decide)
      · rw [x] at h2; exact absurd h2 (by decide)
theorem DD.ps {w w' : World} {B q : Nat} {mode : Int} {begun : Bool} {enc : Int} {mark : Bool} {t : Option Nd} {R : List (Cn × ByteArray)} {v v' : Value} {ws : List UInt8} (h : LdS B q mode begun enc mark t R v ws w) (hs : Ps q v w v' w') {p : Nat} {enc2 : Int} {mark2 : Bool} {body : ByteArray} (hd : DD w p enc2 mark2 body) : DD w' p enc2 mark2 body := by
  obtain ⟨n, R2, tail, d⟩ := hd
  refine ⟨n, R2, tail, (hs.keep p (heap_lt d.blk) (fun e => ?_) (fun e => ?_)).trans d.blk, d.tr.ps h.ld.nb h.wt hs, d.h0, d.h3, d.bytes, d.atoms, d.size⟩
  · subst e
    have h6 := h.ld.c6
    rw [Lib.cell_of_heap d.blk] at h6
    cases h6
  · rcases h.wt with ⟨rfl, rfl⟩ | ⟨g, o, cap, cur, rfl, hg, hh, r⟩
    · cases e
    · cases e
      have h1 := d.blk
      rw [hh] at h1
      injection h1 with h1
      injection h1 with h1 h2 h3
      exact absurd h2 (by decide)
/-- Blocks of other types than bytes' stay through a push. -/
theorem Ps.other {w w' : World} {B q : Nat} {v v' : Value} {ws : List UInt8} (hw : Wt w B v ws) (hs : Ps q v w v' w') (k : Nat) (hk : k < w.heap.size) (hq : k ≠ q) (ht : tyAt w k ≠ some 5) : w'.heap[k]? = w.heap[k]? := by
  refine hs.keep k hk hq (fun e => ?_)
  rcases hw with ⟨rfl, rfl⟩ | ⟨g, o, cap, cur, rfl, hg, hh, r⟩
  · cases e
  · cases e
    exact ht (by unfold tyAt; rw [hh])
theorem DD.sv {w w' : World} {s : Nat} {bs : List UInt8} {g : Nat} (h : SV w s bs g) (hs : Tn s w w') {p : Nat} {enc2 : Int} {mark2 : Bool} {body : ByteArray} (hd : DD w p enc2 mark2 body) : DD w' p enc2 mark2 body := by
  obtain ⟨n, R2, tail, d⟩ := hd
  obtain ⟨enc, mark, m, R, tl, h⟩ := h
  refine ⟨n, R2, tail, (hs.keep p (heap_lt d.blk) (fun e => ?_)).trans d.blk, d.tr.tn2 h.nb hs, d.h0, d.h3, d.bytes, d.atoms, d.size⟩
  subst e
  have h1 := d.blk
  rw [h.blk] at h1
  injection h1 with h1
  injection h1 with h1 h2 h3
  exact absurd h2 (by decide)
theorem RowStep.ne {q k : Nat} {own : Option Nat} {w w' : World} {t : TypeId} (h : RowStep q own w w') (hk : tyAt w k = some t) (ht : t ≠ 33) : own ≠ some k := fun e => by
  have := (h.ty k e).2
  rw [hk] at this
  exact ht (Option.some.inj this)
theorem TrAt.row {w w' : World} {q : Nat} {own : Option Nat} {enc : Int} {t : Option Nd} {R : List (Cn × ByteArray)} (h : TrAt w enc t R) (hs : RowStep q own w w') : TrAt w' enc t R := by
  refine h.kept_ty (fun k c ty hk hty => hs.keep k (heap_lt hk) (hs.ne (t := ty) (by unfold tyAt; rw [hk]) ?_))
  rcases hty with x | x
  · rw [x]; decide
  · rw [x]; decide
theorem DD.row {w w' : World} {p q : Nat} {enc : Int} {mark : Bool} {body : ByteArray} {own : Option Nat} (hd : DD w p enc mark body) (hs : RowStep q own w w') : DD w' p enc mark body := by
  obtain ⟨n, R, tail, d⟩ := hd
  exact ⟨n, R, tail, (hs.keep p (heap_lt d.blk) (hs.ne (t := 92) (by unfold tyAt; rw [d.blk]) (by decide))).trans d.blk, d.tr.row hs, d.h0, d.h3, d.bytes, d.atoms, d.size⟩
theorem LdC.same {w w' : World} {q : Nat} {mode : Int} {begun : Bool} {enc : Int} {mark : Bool} {tv : Value} {tail : ByteArray} {v : Value} (h : LdC w q mode begun enc mark tv tail v) (hk : w'.heap[q]? = w.heap[q]?) : LdC w' q mode begun enc mark tv tail v := by
  have g : ∀ o, w'.cell? ⟨q, o, none⟩ = w.cell? ⟨q, o, none⟩ := fun o => by simp only [World.cell?, hk]
  refine ⟨(g _).trans h.c0, (g _).trans h.c1, (g _).trans h.c2, (g _).trans h.c3, (g _).trans h.c4, (g _).trans h.c5, (g _).trans h.c6, fun j => ?_, ?_⟩
  · rw [← h.fr j]; simp only [World.frozen?, hk]
  · unfold NoNd tyAt; rw [hk]; exact h.nb
theorem LL.row {w0 w w' : World} {q : Nat} {mode : Int} {all : List UInt8} {own : Option Nat} (h : LL w0 w q mode all) (hs : RowStep q own w w') : LL w0 w' q mode all := by
  obtain ⟨begun, enc, mark, t, R, v, ws, h1, h2, h3, h4⟩ := h
  have hq : w'.heap[q]? = w.heap[q]? := hs.keep q h1.ld.lt (fun e => by have := (hs.ty q e).1; omega)
  refine ⟨begun, enc, mark, t, R, v, ws, ⟨h1.ld.same hq, h1.wt.kept (fun k hk => hs.keep k (h1.wt.blk_lt hk).1 ?_), h1.nq, h1.tr.row hs⟩, h2, h3.trans ⟨hs.os, hs.tape, hs.output, hs.size, fun k hk => hs.keep k (Nat.lt_of_lt_of_le hk h3.size) (fun e => by have := (hs.ty k e).1; omega)⟩, h4⟩
  rcases h1.wt with ⟨rfl, rfl⟩ | ⟨g, o, cap, cur, rfl, hg, hh, r⟩
  · cases hk
  · cases hk
    exact hs.ne (t := 5) (by unfold tyAt; rw [hh]) (by decide)
theorem apiS : ApiS Tabs DD LL SV where
  base := api
  begin_ := fun mode w ht h0 h7 => (begin_ok mode w h0 h7).mono fun e w' ⟨he, hw⟩ => by
    have hba := (Below.refl w.heap.size w).alloc (Nat.le_refl _) (.cells #[.int .i64 mode, .bool false, .int .i64 0, .bool false, .nilIface, .string ⟨#[]⟩, .slice none 0 0] 78)
    subst hw
    exact ⟨_, he, false, 0, false, none, [], .slice none 0 0, [], ⟨LdC.of_heap (heap_alloc_new w _) (by decide) (by decide), .inl ⟨rfl, rfl⟩, (by intro e; cases e), ⟨fun n hn => (by cases hn), fun _ => rfl, fun x hx => (by cases hx)⟩⟩, .inl ⟨rfl, rfl, rfl, rfl⟩, hba, Nat.le_refl _⟩
  begin_no := fun mode w h => (begin_no mode w h).mono fun e w' ⟨he, hw⟩ => ⟨he, by rw [hw]; exact Below.refl _ _⟩
  lq := fun ⟨_, _, _, _, _, _, _, h1, _, _, h4⟩ => ⟨h4, h1.ld.lt⟩
  lbelow := fun ⟨_, _, _, _, _, _, _, _, _, h, _⟩ => h
  llow := fun ⟨begun, enc, mark, t, R, v, ws, h1, h2, h3, h4⟩ hb => ⟨begun, enc, mark, t, R, v, ws, h1.low hb, h2, h3.trans (hb.mono h3.size), h4⟩
  lrow := fun h hs => LL.row h hs
  drow := fun h hs => DD.row h hs
  push := fun w0 w q mode all b ht ⟨begun, enc, mark, t, R, v, ws, h1, h2, h3, h4⟩ h0 h7 hl =>
    (push_any w0.heap.size q mode enc begun mark t R v ws all b w0 w ht h4 (Nat.le_refl _) h3.size h3 h1 h2 hl h0 h7).mono fun e w' ⟨begun', enc', mark', t', R', v', ws', he, hl', hi', hp'⟩ =>
      ⟨he, ⟨begun', enc', mark', t', R', v', ws', hl', hi', hp'.below h1.wt h4 (Nat.le_refl _) h3, h4⟩, fun p enc2 mark2 body hd => DD.ps h1 hp' hd, fun k hk hq ht => hp'.other h1.wt k hk hq ht⟩
  end_ := fun w0 w q mode b ht ⟨begun, enc, mark, t, R, v, ws, h1, h2, h3, h4⟩ h0 h7 hl =>
    (end_any w0.heap.size q mode enc begun mark t R v ws b w (ht.below h3) h1 h2 hl h0 h7).mono fun e w' ⟨p, he, _, hd, hb⟩ => ⟨p, he, hd, hb⟩
  saver := docSaver
  slow := fun ⟨enc, mark, n, R, tail, h⟩ hb => ⟨enc, mark, n, R, tail, h.low hb⟩
  fill := fun s bs g c w ht hs => (fill_any s bs g c w ht hs).mono fun e w' ⟨he, hs', htn⟩ => by
    refine ⟨he, hs', ?_, fun p enc mark body hd => DD.sv hs htn hd, fun w0 h0 hb => low_tn hb h0 htn⟩
    obtain ⟨enc, mark, n, R, tail, h⟩ := hs
    exact ht.tn h.at_.1 htn
end Go.Proofs.YtjbfgnhkgjigpaaGreatDoor

namespace Go.Proofs.YtjbfgnhkgjigpaaGreatDoor
open Go.RowKit

/-- The field j of the row i of a table of structs. -/
theorem tab_field {P : Program} {w : World} {base : Nat} {sp : Nat → Bool} {held : Bool} {fuel n i j : Nat} {t e : TypeId} {fs : Array Field} {f : Field} {cs : List Value} {rows flds : List (DataW Unit)} {d : DataW Unit} {p : List MemPlace}
    (ht : P.underlying t = some (.array n e)) (he : P.underlying e = some (.struct fs)) (h : DataW.trod (fun _ => ()) P w base sp held fuel t cs = some (.agg rows, p)) (hi : i < n) (hr : rows[i]? = some (.agg flds)) (hf : fs[j]? = some f) (hd : flds[j]? = some d) :
    ∃ m q, DataW.trod (fun _ => ()) P w base sp held m f.type ((((cs.drop (i * P.cellsOf e)).take (P.cellsOf e)).drop f.offset).take (P.cellsOf f.type)) = some (d, q) := by
  obtain ⟨xs, m, _, hx, _, hxl, hall⟩ := DataW.trod_array ht h
  have hx1 : rows = xs.map (fun y => y.1) := by
    have := congrArg Prod.fst hx
    injection this
  rw [hx1, List.getElem?_map] at hr
  obtain ⟨y, hy, hy2⟩ := Option.map_eq_some_iff.1 hr
  have h2 := hall i hi
  rw [hy] at h2
  obtain ⟨y1, y2⟩ := y
  simp only at hy2
  subst hy2
  obtain ⟨zs, m2, _, hz, _, hzl, hall2⟩ := DataW.trod_struct he h2
  have hz1 : flds = zs.map (fun y => y.1) := by
    have := congrArg Prod.fst hz
    injection this
  rw [hz1, List.getElem?_map] at hd
  obtain ⟨u, hu, hu2⟩ := Option.map_eq_some_iff.1 hd
  have h3 := hall2 j f hf
  rw [hu] at h3
  obtain ⟨u1, u2⟩ := u
  simp only at hu2
  subst hu2
  exact ⟨m2, u2, h3⟩
theorem cell_of_part {cs : List Value} {a b c d : Nat} {v : Value} (h : ((((cs.drop a).take b).drop c).take d) = [v]) : cs[a + c]? = some v := by
  have h1 := congrArg (fun l => l[0]?) h
  simp only [List.getElem?_take, List.getElem?_drop, List.getElem?_cons_zero] at h1
  split at h1
  · split at h1
    · simpa using h1
    · cases h1
  · cases h1
theorem tab_int {P : Program} {w : World} {base : Nat} {sp : Nat → Bool} {held : Bool} {fuel n i j : Nat} {t e : TypeId} {fs : Array Field} {f : Field} {cs : List Value} {rows flds : List (DataW Unit)} {k : IntKind} {z : Int} {p : List MemPlace}
    (ht : P.underlying t = some (.array n e)) (he : P.underlying e = some (.struct fs)) (h : DataW.trod (fun _ => ()) P w base sp held fuel t cs = some (.agg rows, p)) (hi : i < n) (hr : rows[i]? = some (.agg flds)) (hf : fs[j]? = some f) (hd : flds[j]? = some (.lit (.int k z))) (hu : P.underlying f.type = some (.int k)) :
    cs[i * P.cellsOf e + f.offset]? = some (.int k z) := by
  obtain ⟨m, q, h1⟩ := tab_field ht he h hi hr hf hd
  obtain ⟨z', hc, hx, _⟩ := DataW.trod_int hu h1
  have : z' = z := by
    have := congrArg Prod.fst hx
    simp only [DataW.lit.injEq, Lit.int.injEq, true_and] at this
    exact this.symm
  subst this
  exact cell_of_part hc
theorem tab_str {P : Program} {w : World} {base : Nat} {sp : Nat → Bool} {held : Bool} {fuel n i j : Nat} {t e : TypeId} {fs : Array Field} {f : Field} {cs : List Value} {rows flds : List (DataW Unit)} {l : List UInt8} {p : List MemPlace}
    (ht : P.underlying t = some (.array n e)) (he : P.underlying e = some (.struct fs)) (h : DataW.trod (fun _ => ()) P w base sp held fuel t cs = some (.agg rows, p)) (hi : i < n) (hr : rows[i]? = some (.agg flds)) (hf : fs[j]? = some f) (hd : flds[j]? = some (.lit (.string l))) (hu : P.underlying f.type = some .string) :
    cs[i * P.cellsOf e + f.offset]? = some (.string ⟨l.toArray⟩) := by
  obtain ⟨m, q, h1⟩ := tab_field ht he h hi hr hf hd
  obtain ⟨s, hc, hx, _⟩ := DataW.trod_string hu h1
  have : l = s.data.toList := by
    have := congrArg Prod.fst hx
    simp only [DataW.lit.injEq, Lit.string.injEq] at this
    exact this
  subst this
  simpa using cell_of_part hc

theorem gHalf : Tryz.prog.globalNamed "vellum/code.halves" = some 4 := by kernel_rfl
theorem gSeq : Tryz.prog.globalNamed "vellum/code.sequences" = some 6 := by kernel_rfl
theorem gEnc : Tryz.prog.globalNamed "vellum/code.encodings" = some 2 := by kernel_rfl
set_option maxRecDepth 100000 in
theorem half_of {W : World} {cs : Array Value} {fuel : Nat} {p : List MemPlace} (hv : W.var? Tryz.prog "vellum/code.halves" = some cs) (hd : DataW.trod (fun _ => ()) Tryz.prog W 0 (fun _ => true) false fuel 221 cs.toList = some (Rows.laid_vellum_code_halves, p)) : TabHalf W := by
  have hc : ∀ i v, cs.toList[i]? = some v → W.cell? ⟨4, i, none⟩ = some v := fun i v h => (World.var?_cell gHalf hv i).trans (by rw [← Array.getElem?_toList]; exact h)
  have ce : Tryz.prog.cellsOf 220 = 2 := by kernel_rfl
  have c0 := tab_int (i := 0) (j := 0) Tryz.underlying221 Tryz.underlying220 hd (by decide) rfl rfl rfl Tryz.underlying21
  have c1 := tab_int (i := 0) (j := 1) Tryz.underlying221 Tryz.underlying220 hd (by decide) rfl rfl rfl Tryz.underlying21
  have c2 := tab_int (i := 1) (j := 0) Tryz.underlying221 Tryz.underlying220 hd (by decide) rfl rfl rfl Tryz.underlying21
  have c3 := tab_int (i := 1) (j := 1) Tryz.underlying221 Tryz.underlying220 hd (by decide) rfl rfl rfl Tryz.underlying21
  rw [ce] at c0 c1 c2 c3
  exact ⟨hc 0 _ c0, hc 1 _ c1, hc 2 _ c2, hc 3 _ c3⟩
set_option maxRecDepth 100000 in
theorem enc_of {W : World} {cs : Array Value} {fuel : Nat} {p : List MemPlace} (hv : W.var? Tryz.prog "vellum/code.encodings" = some cs) (hd : DataW.trod (fun _ => ()) Tryz.prog W 0 (fun _ => true) false fuel 178 cs.toList = some (Rows.laid_vellum_code_encodings, p)) : TabEnc W := by
  have hc : ∀ i v, cs.toList[i]? = some v → W.cell? ⟨2, i, none⟩ = some v := fun i v h => (World.var?_cell gEnc hv i).trans (by rw [← Array.getElem?_toList]; exact h)
  have ce : Tryz.prog.cellsOf 177 = 4 := by kernel_rfl
  have m0 := tab_str (i := 0) (j := 0) Tryz.underlying178 Tryz.underlying177 hd (by decide) rfl rfl rfl Tryz.underlying9
  have g0 := tab_int (i := 0) (j := 1) Tryz.underlying178 Tryz.underlying177 hd (by decide) rfl rfl rfl Tryz.underlying21
  have l0 := tab_int (i := 0) (j := 2) Tryz.underlying178 Tryz.underlying177 hd (by decide) rfl rfl rfl Tryz.underlying3
  have h0 := tab_int (i := 0) (j := 3) Tryz.underlying178 Tryz.underlying177 hd (by decide) rfl rfl rfl Tryz.underlying3
  have m1 := tab_str (i := 1) (j := 0) Tryz.underlying178 Tryz.underlying177 hd (by decide) rfl rfl rfl Tryz.underlying9
  have g1 := tab_int (i := 1) (j := 1) Tryz.underlying178 Tryz.underlying177 hd (by decide) rfl rfl rfl Tryz.underlying21
  have l1 := tab_int (i := 1) (j := 2) Tryz.underlying178 Tryz.underlying177 hd (by decide) rfl rfl rfl Tryz.underlying3
  have h1 := tab_int (i := 1) (j := 3) Tryz.underlying178 Tryz.underlying177 hd (by decide) rfl rfl rfl Tryz.underlying3
  have m2 := tab_str (i := 2) (j := 0) Tryz.underlying178 Tryz.underlying177 hd (by decide) rfl rfl rfl Tryz.underlying9
  have g2 := tab_int (i := 2) (j := 1) Tryz.underlying178 Tryz.underlying177 hd (by decide) rfl rfl rfl Tryz.underlying21
  have l2 := tab_int (i := 2) (j := 2) Tryz.underlying178 Tryz.underlying177 hd (by decide) rfl rfl rfl Tryz.underlying3
  have h2 := tab_int (i := 2) (j := 3) Tryz.underlying178 Tryz.underlying177 hd (by decide) rfl rfl rfl Tryz.underlying3
  have m3 := tab_str (i := 3) (j := 0) Tryz.underlying178 Tryz.underlying177 hd (by decide) rfl rfl rfl Tryz.underlying9
  have g3 := tab_int (i := 3) (j := 1) Tryz.underlying178 Tryz.underlying177 hd (by decide) rfl rfl rfl Tryz.underlying21
  have l3 := tab_int (i := 3) (j := 2) Tryz.underlying178 Tryz.underlying177 hd (by decide) rfl rfl rfl Tryz.underlying3
  have h3 := tab_int (i := 3) (j := 3) Tryz.underlying178 Tryz.underlying177 hd (by decide) rfl rfl rfl Tryz.underlying3
  rw [ce] at m0 g0 l0 h0 m1 g1 l1 h1 m2 g2 l2 h2 m3 g3 l3 h3
  exact ⟨hc 0 _ m0, hc 1 _ g0, hc 2 _ l0, hc 3 _ h0, hc 4 _ m1, hc 5 _ g1, hc 6 _ l1, hc 7 _ h1, hc 8 _ m2, hc 9 _ g2, hc 10 _ l2, hc 11 _ h2, hc 12 _ m3, hc 13 _ g3, hc 14 _ l3, hc 15 _ h3⟩
set_option maxRecDepth 100000 in
theorem seq_of {W : World} {cs : Array Value} {fuel : Nat} {p : List MemPlace} (hv : W.var? Tryz.prog "vellum/code.sequences" = some cs) (hd : DataW.trod (fun _ => ()) Tryz.prog W 0 (fun _ => true) false fuel 231 cs.toList = some (Rows.laid_vellum_code_sequences, p)) : TabSeq W := by
  have hc : ∀ i v, cs.toList[i]? = some v → W.cell? ⟨6, i, none⟩ = some v := fun i v h => (World.var?_cell gSeq hv i).trans (by rw [← Array.getElem?_toList]; exact h)
  have ce : Tryz.prog.cellsOf 223 = 5 := by kernel_rfl
  have hk11 : ∀ k : Nat, k < 11 → k = 0 ∨ k = 1 ∨ k = 2 ∨ k = 3 ∨ k = 4 ∨ k = 5 ∨ k = 6 ∨ k = 7 ∨ k = 8 ∨ k = 9 ∨ k = 10 := fun k h => by omega
  have a : ∀ k : Nat, k < 11 → W.cell? ⟨6, k * 5 + 0, none⟩ = some (.int .u8 (Vm.sqUp k)) := by
    intro k hk
    rcases hk11 k hk with rfl | rfl | rfl | rfl | rfl | rfl | rfl | rfl | rfl | rfl | rfl
    all_goals
      have c := tab_int (j := 0) Tryz.underlying231 Tryz.underlying223 hd hk rfl rfl rfl Tryz.underlying5
      rw [ce] at c
      exact hc _ _ c
  have b : ∀ k : Nat, k < 11 → W.cell? ⟨6, k * 5 + 1, none⟩ = some (.int .i64 (Vm.sqSize k)) := by
    intro k hk
    rcases hk11 k hk with rfl | rfl | rfl | rfl | rfl | rfl | rfl | rfl | rfl | rfl | rfl
    all_goals
      have c := tab_int (j := 1) Tryz.underlying231 Tryz.underlying223 hd hk rfl rfl rfl Tryz.underlying3
      rw [ce] at c
      exact hc _ _ c
  have c : ∀ k : Nat, k < 11 → W.cell? ⟨6, k * 5 + 2, none⟩ = some (.int .u8 (Vm.sqBits k)) := by
    intro k hk
    rcases hk11 k hk with rfl | rfl | rfl | rfl | rfl | rfl | rfl | rfl | rfl | rfl | rfl
    all_goals
      have c := tab_int (j := 2) Tryz.underlying231 Tryz.underlying223 hd hk rfl rfl rfl Tryz.underlying5
      rw [ce] at c
      exact hc _ _ c
  have d : ∀ k : Nat, k < 11 → W.cell? ⟨6, k * 5 + 3, none⟩ = some (.int .u8 (Vm.sqLeast k)) := by
    intro k hk
    rcases hk11 k hk with rfl | rfl | rfl | rfl | rfl | rfl | rfl | rfl | rfl | rfl | rfl
    all_goals
      have c := tab_int (j := 3) Tryz.underlying231 Tryz.underlying223 hd hk rfl rfl rfl Tryz.underlying5
      rw [ce] at c
      exact hc _ _ c
  have e : ∀ k : Nat, k < 11 → W.cell? ⟨6, k * 5 + 4, none⟩ = some (.int .u8 (Vm.sqMost k)) := by
    intro k hk
    rcases hk11 k hk with rfl | rfl | rfl | rfl | rfl | rfl | rfl | rfl | rfl | rfl | rfl
    all_goals
      have c := tab_int (j := 4) Tryz.underlying231 Tryz.underlying223 hd hk rfl rfl rfl Tryz.underlying5
      rw [ce] at c
      exact hc _ _ c
  exact ⟨a, b, c, d, e⟩
theorem tHalf : (Tryz.prog.globals[4]?).map (·.type) = some 221 := by kernel_rfl
theorem tSeq : (Tryz.prog.globals[6]?).map (·.type) = some 231 := by kernel_rfl
theorem tEnc : (Tryz.prog.globals[2]?).map (·.type) = some 178 := by kernel_rfl
end Go.Proofs.YtjbfgnhkgjigpaaGreatDoor
