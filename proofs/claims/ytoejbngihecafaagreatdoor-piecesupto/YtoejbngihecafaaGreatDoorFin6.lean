import Derived.Test.YtoejbngihecafaaGreatDoorFin0toFin4
import Derived.Test.YtoejbngihecafaaGreatDoorLaw4
import Derived.Test.YtoejbngihecafaaGreatDoorSv2
import Derived.Test.YtoejbngihecafaaGreatDoorTabP
namespace Go.Proofs.YtoejbngihecafaaGreatDoor.pieces
open Go.ChangeShapes Go.WideShapes Go.ChangeAt Go.RowKit
open Go.Proofs.YtoejbngihecafaaGreatDoor.fin (bulk_str own laidWorld)

set_option maxRecDepth 100000 in
theorem contract {D : World → Nat → Int → Bool → ByteArray → Prop} {L : World → World → Nat → Int → List UInt8 → Prop} {S : World → Nat → List UInt8 → Nat → Prop} (api : ApiS Tabs D L S) (H : Type) (enc : TypeId × Value → H) (W : World) (base : Nat) (args : Array Value) (ds gs : List (DataW H)) (before : List MemPlace)
    (hval : ∀ (j : Nat) t v, Tryz.f3.params[j]? = some t → args[j]? = some v → Value.okWide Tryz.prog W .any base t v)
    (hW : DataW.Whole enc Tryz.prog Tryz.f3.params.toList Rows.piecesSpec.vars false W args.toList ds gs before) (hL : laidMetH Tryz.prog Rows.piecesRow.laid W)
    (hB : ∀ s : List UInt8, DataW.lit (.string s) ∈ ds → s.length ≤ 1048576) (hS : ∀ d ∈ ds, Rows.uptoBulk d ≤ 1048576) :
    Calls Tryz.prog 3 args W fun e W' => ∃ v, e = .returned v ∧ Rows.piecesSpec.post enc Tryz.prog Tryz.f3 false true false false W args v W' := by
  have hW' := hW
  obtain ⟨p, q, hA0, hV, rfl, hfz, hnd⟩ := hW
  have hA : DataW.TrodAll enc Tryz.prog W 0 (fun _ => true) true Tryz.f3.params.toList args.toList ds p := hA0
  rw [Tryz.params3] at hA hval
  obtain ⟨v0, vs0, d0, ds0, p0, q0, hargs, rfl, rfl, h0, r0⟩ := trodAll_cons hA
  obtain ⟨v1, vs1, d1, ds1, p1, q1, hargs1, rfl, rfl, h1, r1⟩ := trodAll_cons r0
  obtain ⟨v2, vs2, d2, ds2, p2, q2, hargs2, rfl, rfl, h2, r2⟩ := trodAll_cons r1
  obtain ⟨v3, vs3, d3, ds3, p3, q3, hargs3, rfl, rfl, h3, r3⟩ := trodAll_cons r2
  obtain ⟨rfl, rfl, rfl⟩ := trodAll_nil r3
  obtain rfl : args = #[v0, v1, v2, v3] := by cases args; simp_all
  obtain ⟨rfl, rfl⟩ := trodVars_none hV
  obtain ⟨s, rfl, rfl, rfl, hs⟩ := Go.ChangeMaps.open_string Tryz.underlying9 (hval 0 9 v0 rfl rfl) h0
  obtain ⟨n, rfl, rfl, rfl, hn⟩ := open_int Tryz.underlying3 (hval 1 3 v1 rfl rfl) h1
  obtain ⟨cuts, hc1, hc2, hc3, hc4⟩ := arg_ints Tryz.underlying22 Tryz.underlying3 (by kernel_rfl) (hval 2 22 v2 rfl rfl) h2
  obtain ⟨fills, hf1, hf2, hf3, hf4⟩ := arg_ints Tryz.underlying22 Tryz.underlying3 (by kernel_rfl) (hval 3 22 v3 rfl rfl) h3
  clear hA0
  have hsz : s.size ≤ 1048576 := hB s.data.toList (by simp)
  have hrl : ∀ zs : List Int, (∀ z ∈ zs, (Lit.int .i64 z).wf = true) → ∀ i, -9223372036854775808 ≤ zs.getD i 0 ∧ zs.getD i 0 ≤ 9223372036854775807 := by
    intro zs hz i
    by_cases hi : i < zs.length
    · have h := hz (zs.getD i 0) (by simp [List.getD, List.getElem?_eq_getElem hi])
      simp only [Lit.wf, Bool.and_eq_true, decide_eq_true_eq] at h
      exact ⟨h.1, h.2⟩
    · have : zs.getD i 0 = 0 := by simp [List.getD, List.getElem?_eq_none (Nat.le_of_not_lt hi)]
      rw [this]; decide
  have hcall : Calls Tryz.prog 3 #[.string s, .int .i64 n, v2, v3] W fun e w' => e = .returned (.bool true) ∧ Below W.heap.size W w' := by
    by_cases hmo : 0 ≤ n ∧ n ≤ 7
    · exact pieces_ok api s n v2 v3 cuts fills W (tabs_of_laid hL) (by omega) hmo.1 hmo.2 hc1 hf1 (by have := hS d2 (by simp); omega) (by have := hS d3 (by simp); omega) (hrl _ hc2)
    · exact pieces_no api s n v2 v3 W (by omega)
  refine hcall.mono fun e W' ⟨he, hb⟩ => ?_
  subst he
  have hps : ∀ sp : Nat → Bool, (∀ p ∈ [] ++ ([] ++ (p2 ++ (p3 ++ []))) ++ [], sp p.block = true) → (∀ p ∈ p2, sp p.block = true) ∧ (∀ p ∈ p3, sp p.block = true) := fun sp h => ⟨fun p hp => h p (by simp [hp]), fun p hp => h p (by simp [hp])⟩
  exact ⟨_, rfl, post_below (pv := []) hW' (fun _ _ _ => trodAll_cons_mk (shut_bool Tryz.underlying4 _) trodAll_mk0)
    (fun sp hsp => trodAll_cons_mk (Go.ChangeMaps.shut_string Tryz.underlying9 hs) (trodAll_cons_mk (shut_int Tryz.underlying3 hn) (trodAll_cons_mk (hc4 W' hb sp (hps sp hsp).1) (trodAll_cons_mk (hf4 W' hb sp (hps sp hsp).2) trodAll_mk0)))) (fun _ _ => rfl) rfl hb
    (ok_one (by kernel_rfl) rfl (okWide_bool_mk Tryz.underlying4 _))⟩

theorem laid_met (os : Os) : laidMet Tryz.prog Rows.piecesRow.laid ((laidWorld os).forCall (fun _ _ => 0) ⟨#[], #[.string ⟨#[]⟩, .int .i64 0, .slice none 0 0, .slice none 0 0], []⟩).memory :=
  laidMet_of_run' 8 (by kernel_rfl) (by kernel_rfl)
theorem reads (os : Os) {H : Type} (enc : TypeId × Value → H) : ∃ places, DataW.whole enc Tryz.prog ((laidWorld os).forCall (fun _ _ => 0) ⟨#[], #[.string ⟨#[]⟩, .int .i64 0, .slice none 0 0, .slice none 0 0], []⟩).memory Tryz.f3.params.toList Rows.piecesSpec.vars false #[Value.string ⟨#[]⟩, .int .i64 0, .slice none 0 0, .slice none 0 0].toList 8 = some ([.lit (.string []), .lit (.int .i64 0), .nil, .nil], [], places) :=
  ⟨[], by kernel_rfl⟩

set_option maxRecDepth 100000 in
theorem liftedUpto {D : World → Nat → Int → Bool → ByteArray → Prop} {L : World → World → Nat → Int → List UInt8 → Prop} {S : World → Nat → List UInt8 → Nat → Prop} (api : ApiS Tabs D L S) (os : Os) (started : os.Started) (H : Type) (enc : TypeId × Value → H) (F : Stop.Interp) :
    ReturnsInHanded {} Tryz.checked os 3 .any ((Rows.OpenSpec.upto Rows.piecesSpec).preRow enc Tryz.prog Tryz.f3 Rows.piecesUptoRow.domain false Rows.piecesUptoRow.laid) (((Rows.OpenSpec.upto Rows.piecesSpec).at F).post enc Tryz.prog Tryz.f3 false true false false) := by
  obtain ⟨places, hx⟩ := reads os enc
  refine returnsInHanded_of_row (C := Tryz.checked) (s := Rows.OpenSpec.upto Rows.piecesSpec) own started (by kernel_rfl) Tryz.func3
    (witness_row_at (enc := enc) (C := Tryz.checked) false (laidWorld os) #[.string ⟨#[]⟩, .int .i64 0, .slice none 0 0, .slice none 0 0] rfl (by kernel_rfl) (by kernel_rfl) (by kernel_rfl)
      (OpenSpec.preRow_of_cond 8 hx (by kernel_rfl) (fun k hk => by cases hk; kernel_rfl) (by kernel_rfl) (laid_met os))) ?_
  intro W base args ds gs before hval hW _ hcond _ hL _ _
  have hk := hcond _ rfl
  have h1 : Rows.uptoBulkAll (ds ++ gs) ≤ 1048576 := by simpa [Rows.uptoSmall] using hk
  exact contract api H enc W base args ds gs before hval hW hL (fun s hs => Nat.le_trans (bulk_str (List.mem_append_left gs hs)) h1) (fun d hd => Nat.le_trans (bulk_mem (List.mem_append_left gs hd)) h1)
theorem saidUpto {D : World → Nat → Int → Bool → ByteArray → Prop} {L : World → World → Nat → Int → List UInt8 → Prop} {S : World → Nat → List UInt8 → Nat → Prop} (api : ApiS Tabs D L S) : Rows.PiecesUptoSaid :=
  OpenClaim.holds_of_cond 3 Tryz.f3 rfl rfl rfl rfl rfl rfl rfl ⟨rfl, rfl, rfl, rfl, rfl⟩ rfl rfl rfl rfl rfl (by kernel_rfl) Tryz.func3 (by kernel_rfl)
    (of_decide_eq_true (by kernel_rfl)) (by unfold Func.isWrapper; first | (rw [if_pos (by decide +kernel)]; kernel_rfl) | (rw [if_neg (by decide +kernel)]; exact ⟨rfl, rfl⟩))
    (fun os started H enc _ F => by rw [OpenClaim.pre_eq_preRow]; exact liftedUpto api os started H enc F)
/-- No parameter wants a stand-in; the program's own looks are off. -/
theorem plain (f : FuncId) (fn : Func) (hf : Tryz.pinned.checked.prog.funcNamed "vellum/vellumlaw.Pieces" = some f) (hfn : Tryz.pinned.checked.prog.funcs[f]? = some fn) :
    true = Tryz.pinned.checked.prog.looks [] ∧ ∀ (j : Nat) t, fn.params[j]? = some t → Tryz.pinned.checked.prog.wantsStandIn t = false := by
  obtain rfl : f = 3 := Option.some.inj ((show Tryz.prog.funcNamed "vellum/vellumlaw.Pieces" = some 3 by kernel_rfl).symm.trans hf) |>.symm
  obtain rfl : fn = Tryz.f3 := (Option.some.inj (Tryz.func3.symm.trans hfn)).symm
  refine ⟨by kernel_rfl, fun j t ht => ?_⟩
  rw [Tryz.params3] at ht
  have hm := Array.mem_of_getElem? ht
  have ht' : t = 9 ∨ t = 3 ∨ t = 22 := by simpa using hm
  rcases ht' with rfl | rfl | rfl
  · exact (show Tryz.prog.wantsStandIn 9 = false by kernel_rfl)
  · exact (show Tryz.prog.wantsStandIn 3 = false by kernel_rfl)
  · exact (show Tryz.prog.wantsStandIn 22 = false by kernel_rfl)
/-- The second form's card. -/
theorem cardUpto {D : World → Nat → Int → Bool → ByteArray → Prop} {L : World → World → Nat → Int → List UInt8 → Prop} {S : World → Nat → List UInt8 → Nat → Prop} (api : ApiS Tabs D L S) : Rows.PiecesUptoCardSaid :=
  Claim7.holds_tied_plain_at .later [] _ _ _ _ (saidUpto api) (fun _ h => by cases h) (by kernel_rfl) (fun _ h => by cases h) piecesUpto_row_tie rfl ⟨rfl, rfl⟩ (by kernel_rfl) rfl plain (by kernel_rfl)
end Go.Proofs.YtoejbngihecafaaGreatDoor.pieces
namespace Go.Proofs.YtoejbngihecafaaGreatDoor
theorem pieces_upto_holds : Rows.PiecesUptoCardSaid := pieces.cardUpto apiS
end Go.Proofs.YtoejbngihecafaaGreatDoor
