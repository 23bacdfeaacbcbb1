import Derived.Test.YtjbfgnhkgjigpaaGreatDoorCards
import Derived.Test.YtjbfgnhkgjigpaaGreatDoorTie
import Derived.ProofKit
import Derived.OpenShut
import Derived.Deep.DeepHandedRow
import Derived.Test.YtjbfgnhkgjigpaaGreatDoorGb1
namespace Go.Proofs.YtjbfgnhkgjigpaaGreatDoor
open Go.RowKit

/-- A slice of ints that was handed in. -/
def IntsAt (w : World) (v : Value) (zs : List Int) : Prop := (v = .slice none 0 0 ∧ zs = []) ∨ ∃ (a : Addr) (cap : Nat), v = .slice (some a) zs.length cap ∧ (∀ i, i < zs.length → w.cell? (a.add i) = some (.int .i64 (zs.getD i 0)))
theorem cell_lt {w : World} {a : Addr} {v : Value} (h : w.cell? a = some v) : a.block < w.heap.size := by
  unfold World.cell? at h
  by_cases hb : a.block < w.heap.size
  · exact hb
  · rw [Array.getElem?_eq_none (by omega)] at h; cases h
theorem IntsAt.val {w : World} {v : Value} {zs : List Int} (h : IntsAt w v zs) : ∃ p cap, v = .slice p zs.length cap := by
  rcases h with ⟨rfl, rfl⟩ | ⟨a, cap, rfl, _⟩
  · exact ⟨none, 0, rfl⟩
  · exact ⟨_, cap, rfl⟩
theorem IntsAt.at_ {w : World} {p : Option Addr} {n cap : Nat} {zs : List Int} (h : IntsAt w (.slice p n cap) zs) (i : Nat) (hi : i < zs.length) : ∃ a, p = some a ∧ w.cell? (a.add i) = some (.int .i64 (zs.getD i 0)) := by
  rcases h with ⟨hv, rfl⟩ | ⟨a, cap', hv, hc⟩
  · simp at hi
  · injection hv with h1 h2 h3
    exact ⟨a, h1, hc i hi⟩
theorem IntsAt.low {w w' : World} {v : Value} {zs : List Int} (h : IntsAt w v zs) (hb : Below w.heap.size w w') : IntsAt w' v zs := by
  rcases h with ⟨rfl, rfl⟩ | ⟨a, cap, rfl, hc⟩
  · exact .inl ⟨rfl, rfl⟩
  · exact .inr ⟨a, cap, rfl, fun i hi => (hb.cell (p := a.add i) (cell_lt (hc i hi))).trans (hc i hi)⟩

theorem ba_ext2 {a b : ByteArray} (h : a.data.toList = b.data.toList) : a = b := by
  cases a with | mk x => cases b with | mk y => congr; exact Array.toList_inj.1 h
theorem ext_take (r : ByteArray) (n : Nat) : (r.extract 0 n).data.toList = r.data.toList.take n := by
  rw [ByteArray.data_extract, Array.toList_extract, List.extract_eq_take_drop, List.drop_zero, Nat.sub_zero]
theorem ext_drop (r : ByteArray) (n : Nat) : (r.extract n r.size).data.toList = r.data.toList.drop n := by
  rw [ByteArray.data_extract, Array.toList_extract, List.extract_eq_take_drop]
  exact List.take_of_length_le (by rw [List.length_drop]; exact Nat.le_refl _)
end Go.Proofs.YtjbfgnhkgjigpaaGreatDoor

namespace Go.Proofs.YtjbfgnhkgjigpaaGreatDoor
open Go.ChangeShapes Go.WideShapes Go.ChangeAt Go.RowKit

theorem post_below {H : Type} {enc : TypeId × Value → H} {P : Program} {f : Func} {s : ChangeSpec} {apart fresh handsOn again : Bool} {W W' : World} {args : Array Value} {v : Value} {ds gs : List (DataW H)} {before pa pv : List MemPlace}
    (hW : DataW.Whole enc P f.params.toList s.vars apart W args.toList ds gs before)
    (hres : ∀ (b : Nat) (sp : Nat → Bool) (hd : Bool), DataW.TrodAll enc P W' b sp hd f.resultTypes.toList (v.resultList f.resultTypes.size) (s.fn H (ds ++ gs)).results [])
    (hargs : ∀ sp : Nat → Bool, (∀ p ∈ before, sp p.block = true) → DataW.TrodAll enc P W' 0 sp true f.params.toList args.toList (s.fn H (ds ++ gs)).args pa)
    (hvars : ∀ sp : Nat → Bool, (∀ p ∈ before, sp p.block = true) → DataW.TrodVars enc P W' sp s.vars (s.fn H (ds ++ gs)).vars pv)
    (hps : before = pa ++ pv) (hb : Below W.heap.size W W')
    (hok : ∀ (j : Nat) (t : TypeId) (r : Value), f.resultTypes[j]? = some t → (v.resultList f.resultTypes.size)[j]? = some r → Value.okWide P W' .any 0 t r) :
    s.post enc P f apart fresh handsOn again W args v W' := by
  have hlt := hW.lt
  have hold : ∀ p ∈ before, (fun b => decide (b < W.heap.size)) p.block = true := fun p hp => by simpa using hlt p hp
  refine ⟨ds, gs, before, [], pa, pv, hW, hres _ _ _, hargs _ hold, hvars _ hold, hb.frame _, fun _ => ?_⟩
  obtain ⟨_, _, _, _, _, hz, hn⟩ := hW
  refine ⟨hok, _, _, ([] ++ pa) ++ pv, ⟨[] ++ pa, pv, trodAll_append (hargs _ (fun _ _ => rfl)) (hres _ _ _), hvars _ (fun _ _ => rfl), rfl, ?_, ?_⟩, ?_⟩
  · intro b off hp
    have hm : MemPlace.cell b off ∈ before := by rw [hps]; simpa using hp
    rw [hb.frozen (p := ⟨b, off, none⟩) (hlt _ hm)]
    exact hz b off hm
  · intro ha
    have := hn ha
    rw [hps] at this
    simpa using this
  · intro p hp _
    rw [hps]
    simpa using hp
theorem bulk_lits {H : Type} (zs : List Int) : zs.length ≤ Rows.uptoBulkAll (lits (H := H) .i64 zs) := by
  induction zs with
  | nil => exact Nat.zero_le _
  | cons z r ih =>
    show r.length + 1 ≤ Rows.uptoBulk (DataW.lit (H := H) (.int .i64 z)) + Rows.uptoBulkAll (lits (H := H) .i64 r)
    have : Rows.uptoBulk (DataW.lit (H := H) (.int .i64 z)) = 1 := by simp only [Rows.uptoBulk]
    omega
theorem bulk_mem {H : Type} {l : List (DataW H)} {d : DataW H} (h : d ∈ l) : Rows.uptoBulk d ≤ Rows.uptoBulkAll l := by
  induction l with
  | nil => cases h
  | cons x r ih =>
    simp only [Rows.uptoBulkAll]
    cases List.mem_cons.1 h with
    | inl e => rw [← e]; omega
    | inr e => have := ih e; omega
theorem arg_ints {H : Type} {enc : TypeId × Value → H} {P : Program} {W : World} {base : Nat} {t e : TypeId} {v : Value} {d : DataW H} {ps : List MemPlace} (ht : P.underlying t = some (.slice e)) (he : P.underlying e = some (.int .i64)) (hc : P.cellsOf e = 1) (hval : Value.okWide P W .any base t v) (hd : DataW.Trod enc P W 0 (fun _ => true) true t v d ps) :
    ∃ zs : List Int, IntsAt W v zs ∧ (∀ z ∈ zs, (Lit.int .i64 z).wf = true) ∧ zs.length ≤ Rows.uptoBulk d ∧ (∀ W', Below W.heap.size W W' → ∀ sp : Nat → Bool, (∀ p ∈ ps, sp p.block = true) → DataW.Trod enc P W' 0 sp true t v d ps) := by
  obtain ⟨a0, len0, cap0, rfl⟩ := okWide_slice ht hval
  obtain ⟨fuel, hf⟩ := hd
  rcases open_ints ht he hc hf with ⟨hcs, hx⟩ | ⟨a, len, cap, zs, hcs, hb, hl, hm, hz, hx, hcell, hw⟩
  · simp [Value.cells] at hcs
    obtain ⟨rfl, rfl, rfl⟩ := hcs
    injection hx with hx1 hx2
    subst hx1 hx2
    refine ⟨[], .inl ⟨rfl, rfl⟩, fun z hz => (by cases hz), Nat.zero_le _, fun W' _ sp _ => ⟨1, ?_⟩⟩
    rw [DataW.trod_step]
    unfold DataW.trodStep
    simp [ht, Value.cells]
  · simp [Value.cells] at hcs
    obtain ⟨rfl, rfl, rfl⟩ := hcs
    injection hx with hx1 hx2
    subst hx1 hx2
    simp only [if_true] at hz
    have htl : (zs.take len0).length = len0 := by rw [List.length_take]; omega
    refine ⟨zs.take len0, .inr ⟨a, cap0, by rw [htl], fun i hi => ?_⟩, fun z hz' => hw z (List.mem_of_mem_take hz'), ?_, fun W' hbl sp hsp => ⟨2, ?_⟩⟩
    · rw [htl] at hi
      rw [hcell i (by omega)]
      simp [List.getD, hi]
    · simp only [Rows.uptoBulk]
      have := bulk_lits (H := H) (zs.take len0)
      omega
    · have hs : DataW.trod enc P W' 0 sp true (0 + 2) t [.slice (some a) len0 cap0] = some (.slice (lits .i64 (zs.take len0)) (lits .i64 (zs.drop len0)), MemPlace.row a zs.length) := by
        refine shut_ints 0 ht he hc hb hl hm ?_ (fun i hi => (hbl.cell (p := a.add i) (cell_lt (hcell i hi))).trans (hcell i hi)) hw
        by_cases h0 : zs.length = 0
        · have : cap0 = 0 := by omega
          split <;> omega
        · have hsa : sp a.block = true := hsp (.cell a.block (a.off + 0)) (List.mem_map.2 ⟨0, List.mem_range.2 (by omega), rfl⟩)
          rw [hsa]; simpa using hz
      simpa [Value.cells] using hs
end Go.Proofs.YtjbfgnhkgjigpaaGreatDoor
