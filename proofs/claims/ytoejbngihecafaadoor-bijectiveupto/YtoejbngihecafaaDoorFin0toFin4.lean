import Derived.Test.YtoejbngihecafaaDoorCards
import Derived.Test.YtoejbngihecafaaDoorTie
import Derived.ProofKit
import Derived.OpenShut
import Derived.Deep.DeepHandedRow
import Derived.Test.YtoejbngihecafaaDoorInts
import Derived.Test.YtoejbngihecafaaDoorTab
namespace Go.Proofs.YtoejbngihecafaaDoor.fin
open Go.ChangeShapes Go.WideShapes Go.ChangeAt Go.RowKit

/-- Where no argument holds a place: what is asked behind the call. -/
theorem post_light {H : Type} {enc : TypeId × Value → H} {P : Program} {f : Func} {s : ChangeSpec} {apart fresh handsOn again : Bool} {W W' : World} {args : Array Value} {v : Value} {ds gs : List (DataW H)}
    (hW : DataW.Whole enc P f.params.toList s.vars apart W args.toList ds gs [])
    (hres : ∀ (b : Nat) (sp : Nat → Bool) (hd : Bool), DataW.TrodAll enc P W' b sp hd f.resultTypes.toList (v.resultList f.resultTypes.size) (s.fn H (ds ++ gs)).results [])
    (hargs : ∀ sp : Nat → Bool, DataW.TrodAll enc P W' 0 sp true f.params.toList args.toList (s.fn H (ds ++ gs)).args [])
    (hvars : ∀ sp : Nat → Bool, DataW.TrodVars enc P W' sp s.vars (s.fn H (ds ++ gs)).vars [])
    (hb : Below W.heap.size W W')
    (hok : ∀ (j : Nat) (t : TypeId) (r : Value), f.resultTypes[j]? = some t → (v.resultList f.resultTypes.size)[j]? = some r → Value.okWide P W' .any 0 t r) :
    s.post enc P f apart fresh handsOn again W args v W' := by
  refine ⟨ds, gs, [], [], [], [], hW, hres _ _ _, hargs _, hvars _, hb.frame _, fun _ => ?_⟩
  exact ⟨hok, _, _, [], ⟨[], [], trodAll_append (hargs _) (hres _ _ _), hvars _, rfl, fun _ _ hp => (by cases hp), fun _ => List.nodup_nil⟩, fun _ hp _ => (by cases hp)⟩
/-- A string among the arguments is no longer than the bound. -/
theorem bulk_str {H : Type} {l : List (DataW H)} {s : List UInt8} (h : DataW.lit (.string s) ∈ l) : s.length ≤ Rows.uptoBulkAll l := by
  induction l with
  | nil => cases h
  | cons x r ih =>
    simp only [Rows.uptoBulkAll]
    cases List.mem_cons.1 h with
    | inl e => rw [← e]; simp only [Rows.uptoBulk]; omega
    | inr e => have := ih e; omega
theorem own : ownKnob Tryd.prog.godebug = none := by kernel_rfl

def putCells (cs : Array Value) : Obj → Obj
  | .cells _ t frozen => .cells cs t frozen
  | o => o
/-- A world for the witness: the settled one, the tables holding what their initialisers lay. -/
noncomputable def laidWorld (os : Os) : World :=
  { World.holding Tryd.prog os ⟨#[], #[], []⟩ with heap := (((World.holding Tryd.prog os ⟨#[], #[], []⟩).heap.modify 0 (putCells #[.string ⟨#[239, 187, 191]⟩, .int .i32 1114111, .int .i64 0, .int .i64 0, .string ⟨#[255, 254]⟩, .int .i32 1114111, .int .i64 0, .int .i64 1, .string ⟨#[254, 255]⟩, .int .i32 1114111, .int .i64 1, .int .i64 0, .string ⟨#[]⟩, .int .i32 255, .int .i64 0, .int .i64 0])).modify 3 (putCells #[.int .u8 127, .int .i64 1, .int .u8 127, .int .u8 0, .int .u8 0, .int .u8 193, .int .i64 2, .int .u8 0, .int .u8 255, .int .u8 0, .int .u8 223, .int .i64 2, .int .u8 31, .int .u8 128, .int .u8 191, .int .u8 224, .int .i64 3, .int .u8 15, .int .u8 160, .int .u8 191, .int .u8 236, .int .i64 3, .int .u8 15, .int .u8 128, .int .u8 191, .int .u8 237, .int .i64 3, .int .u8 15, .int .u8 128, .int .u8 159, .int .u8 239, .int .i64 3, .int .u8 15, .int .u8 128, .int .u8 191, .int .u8 240, .int .i64 4, .int .u8 7, .int .u8 144, .int .u8 191, .int .u8 243, .int .i64 4, .int .u8 7, .int .u8 128, .int .u8 191, .int .u8 244, .int .i64 4, .int .u8 7, .int .u8 128, .int .u8 143, .int .u8 255, .int .i64 2, .int .u8 0, .int .u8 255, .int .u8 0])).modify 2 (putCells #[.int .i32 55296, .int .i32 56319, .int .i32 56320, .int .i32 57343]) }
end Go.Proofs.YtoejbngihecafaaDoor.fin

namespace Go.Proofs.YtoejbngihecafaaDoor
open Go.ChangeShapes Go.WideShapes Go.ChangeAt Go.RowKit

theorem post_below {H : Type} {enc : TypeId × Value → H} {P : Program} {f : Func} {s : ChangeSpec} {apart fresh handsOn again : Bool} {W W' : World} {args : Array Value} {v : Value} {ds gs : List (DataW H)} {before pa pv : List MemPlace}
    (hW : DataW.Whole enc P f.params.toList s.vars apart W args.toList ds gs before)
    (hres : ∀ (b : Nat) (sp : Nat → Bool) (hd : Bool), DataW.TrodAll enc P W' b sp hd f.resultTypes.toList (v.resultList f.resultTypes.size) (s.fn H (ds ++ gs)).results [])
    (hargs : ∀ sp : Nat → Bool, (∀ p ∈ before, sp p.block = true) → DataW.TrodAll enc P W' 0 sp true f.params.toList args.toList (s.fn H (ds ++ gs)).args pa)
    (hvars : ∀ sp : Nat → Bool, (∀ p ∈ before, sp p.block = true) → DataW.TrodVars enc P W' sp s.vars (s.fn H (ds ++ gs)).vars pv)
    (hps : before = pa ++ pv) (hb : Below W.heap.size W W')
    (hok : ∀ (j : Nat) (t : TypeId) (r : Value), f.resultTypes[j]? = some t → (v.resultList f.resultTypes.size)[j]? = some r → Value.okWide P W' .any 0 t r) :
    s.post enc P f apart fresh handsOn again W args v W' := by
  have hlt := hW.lt
  have hold : ∀ p ∈ before, (fun b => decide (b < W.heap.size)) p.block = true := fun p hp => by simpa using hlt p hp
  refine ⟨ds, gs, before, [], pa, pv, hW, hres _ _ _, hargs _ hold, hvars _ hold, hb.frame _, fun _ => ?_⟩
  obtain ⟨_, _, _, _, _, hz, hn⟩ := hW
  refine ⟨hok, _, _, ([] ++ pa) ++ pv, ⟨[] ++ pa, pv, trodAll_append (hargs _ (fun _ _ => rfl)) (hres _ _ _), hvars _ (fun _ _ => rfl), rfl, ?_, ?_⟩, ?_⟩
  · intro b off hp
    have hm : MemPlace.cell b off ∈ before := by rw [hps]; simpa using hp
    rw [hb.frozen (p := ⟨b, off, none⟩) (hlt _ hm)]
    exact hz b off hm
  · intro ha
    have := hn ha
    rw [hps] at this
    simpa using this
  · intro p hp _
    rw [hps]
    simpa using hp
theorem bulk_lits {H : Type} (zs : List Int) : zs.length ≤ Rows.uptoBulkAll (lits (H := H) .i64 zs) := by
  induction zs with
  | nil => exact Nat.zero_le _
  | cons z r ih =>
    show r.length + 1 ≤ Rows.uptoBulk (DataW.lit (H := H) (.int .i64 z)) + Rows.uptoBulkAll (lits (H := H) .i64 r)
    have : Rows.uptoBulk (DataW.lit (H := H) (.int .i64 z)) = 1 := by simp only [Rows.uptoBulk]
    omega
theorem bulk_mem {H : Type} {l : List (DataW H)} {d : DataW H} (h : d ∈ l) : Rows.uptoBulk d ≤ Rows.uptoBulkAll l := by
  induction l with
  | nil => cases h
  | cons x r ih =>
    simp only [Rows.uptoBulkAll]
    cases List.mem_cons.1 h with
    | inl e => rw [← e]; omega
    | inr e => have := ih e; omega
theorem arg_ints {H : Type} {enc : TypeId × Value → H} {P : Program} {W : World} {base : Nat} {t e : TypeId} {v : Value} {d : DataW H} {ps : List MemPlace} (ht : P.underlying t = some (.slice e)) (he : P.underlying e = some (.int .i64)) (hc : P.cellsOf e = 1) (hval : Value.okWide P W .any base t v) (hd : DataW.Trod enc P W 0 (fun _ => true) true t v d ps) :
    ∃ zs : List Int, IntsAt W v zs ∧ (∀ z ∈ zs, (Lit.int .i64 z).wf = true) ∧ zs.length ≤ Rows.uptoBulk d ∧ (∀ W', Below W.heap.size W W' → ∀ sp : Nat → Bool, (∀ p ∈ ps, sp p.block = true) → DataW.Trod enc P W' 0 sp true t v d ps) := by
  obtain ⟨a0, len0, cap0, rfl⟩ := okWide_slice ht hval
  obtain ⟨fuel, hf⟩ := hd
  rcases open_ints ht he hc hf with ⟨hcs, hx⟩ | ⟨a, len, cap, zs, hcs, hb, hl, hm, hz, hx, hcell, hw⟩
  · simp [Value.cells] at hcs
    obtain ⟨rfl, rfl, rfl⟩ := hcs
    injection hx with hx1 hx2
    subst hx1 hx2
    refine ⟨[], .inl ⟨rfl, rfl⟩, fun z hz => (by cases hz), Nat.zero_le _, fun W' _ sp _ => ⟨1, ?_⟩⟩
    rw [DataW.trod_step]
    unfold DataW.trodStep
    simp [ht, Value.cells]
  · simp [Value.cells] at hcs
    obtain ⟨rfl, rfl, rfl⟩ := hcs
    injection hx with hx1 hx2
    subst hx1 hx2
    simp only [if_true] at hz
    have htl : (zs.take len0).length = len0 := by rw [List.length_take]; omega
    refine ⟨zs.take len0, .inr ⟨a, cap0, by rw [htl], fun i hi => ?_⟩, fun z hz' => hw z (List.mem_of_mem_take hz'), ?_, fun W' hbl sp hsp => ⟨2, ?_⟩⟩
    · rw [htl] at hi
      rw [hcell i (by omega)]
      simp [List.getD, hi]
    · simp only [Rows.uptoBulk]
      have := bulk_lits (H := H) (zs.take len0)
      omega
    · have hs : DataW.trod enc P W' 0 sp true (0 + 2) t [.slice (some a) len0 cap0] = some (.slice (lits .i64 (zs.take len0)) (lits .i64 (zs.drop len0)), MemPlace.row a zs.length) := by
        refine shut_ints 0 ht he hc hb hl hm ?_ (fun i hi => (hbl.cell (p := a.add i) (cell_lt (hcell i hi))).trans (hcell i hi)) hw
        by_cases h0 : zs.length = 0
        · have : cap0 = 0 := by omega
          split <;> omega
        · have hsa : sp a.block = true := hsp (.cell a.block (a.off + 0)) (List.mem_map.2 ⟨0, List.mem_range.2 (by omega), rfl⟩)
          rw [hsa]; simpa using hz
      simpa [Value.cells] using hs
end Go.Proofs.YtoejbngihecafaaDoor
