import Derived.Test.YtjbfgnhkgjigpaaGreatDoorCards
import Derived.Test.YtjbfgnhkgjigpaaGreatDoorTie
import Derived.ProofKit
import Derived.OpenShut
import Derived.Deep.DeepHandedRow
import Derived.Test.YtjbfgnhkgjigpaaGreatDoorGe2
namespace Go.Proofs.YtjbfgnhkgjigpaaGreatDoor
open Go.RowKit

/-- What every row's list gives. -/
theorem tabs_of_laid {W : World} (h : laidMetH Tryz.prog Rows.piecesRow.laid W) : Tabs W := by
  obtain ⟨ps, ⟨g1, t1, cs1, f1, p1, q1, hg1, ht1, hv1, hd1, ⟨g2, t2, cs2, f2, p2, q2, hg2, ht2, hv2, hd2, ⟨g3, t3, cs3, f3, p3, q3, hg3, ht3, hv3, hd3, _, _⟩, _⟩, _⟩, _⟩ := h
  obtain rfl := Option.some.inj (gEnc.symm.trans hg1)
  obtain rfl := Option.some.inj (gSeq.symm.trans hg2)
  obtain rfl := Option.some.inj (gHalf.symm.trans hg3)
  obtain rfl := Option.some.inj (tEnc.symm.trans ht1)
  obtain rfl := Option.some.inj (tSeq.symm.trans ht2)
  obtain rfl := Option.some.inj (tHalf.symm.trans ht3)
  exact ⟨seq_of hv2 hd2, half_of hv3 hd3, enc_of hv1 hd1⟩
end Go.Proofs.YtjbfgnhkgjigpaaGreatDoor

namespace Go.Proofs.YtjbfgnhkgjigpaaGreatDoor.fin
open Go.ChangeShapes Go.WideShapes Go.ChangeAt Go.RowKit

/-- Where no argument holds a place: what is asked behind the call. -/
theorem post_light {H : Type} {enc : TypeId × Value → H} {P : Program} {f : Func} {s : ChangeSpec} {apart fresh handsOn again : Bool} {W W' : World} {args : Array Value} {v : Value} {ds gs : List (DataW H)}
    (hW : DataW.Whole enc P f.params.toList s.vars apart W args.toList ds gs [])
    (hres : ∀ (b : Nat) (sp : Nat → Bool) (hd : Bool), DataW.TrodAll enc P W' b sp hd f.resultTypes.toList (v.resultList f.resultTypes.size) (s.fn H (ds ++ gs)).results [])
    (hargs : ∀ sp : Nat → Bool, DataW.TrodAll enc P W' 0 sp true f.params.toList args.toList (s.fn H (ds ++ gs)).args [])
    (hvars : ∀ sp : Nat → Bool, DataW.TrodVars enc P W' sp s.vars (s.fn H (ds ++ gs)).vars [])
    (hb : Below W.heap.size W W')
    (hok : ∀ (j : Nat) (t : TypeId) (r : Value), f.resultTypes[j]? = some t → (v.resultList f.resultTypes.size)[j]? = some r → Value.okWide P W' .any 0 t r) :
    s.post enc P f apart fresh handsOn again W args v W' := by
  refine ⟨ds, gs, [], [], [], [], hW, hres _ _ _, hargs _, hvars _, hb.frame _, fun _ => ?_⟩
  exact ⟨hok, _, _, [], ⟨[], [], trodAll_append (hargs _) (hres _ _ _), hvars _, rfl, fun _ _ hp => (by cases hp), fun _ => List.nodup_nil⟩, fun _ hp _ => (by cases hp)⟩
/-- A string among the arguments is no longer than the bound. -/
theorem bulk_str {H : Type} {l : List (DataW H)} {s : List UInt8} (h : DataW.lit (.string s) ∈ l) : s.length ≤ Rows.uptoBulkAll l := by
  induction l with
  | nil => cases h
  | cons x r ih =>
    simp only [Rows.uptoBulkAll]
    cases List.mem_cons.1 h with
    | inl e => rw [← e]; simp only [Rows.uptoBulk]; omega
    | inr e => have := ih e; omega
theorem own : ownKnob Tryz.prog.godebug = none := by kernel_rfl

def putCells (cs : Array Value) : Obj → Obj
  | .cells _ t frozen => .cells cs t frozen
  | o => o
/-- A world for the witness: the settled one, the tables holding what their initialisers lay. -/
noncomputable def laidWorld (os : Os) : World :=
  { World.holding Tryz.prog os ⟨#[], #[], []⟩ with heap := (((World.holding Tryz.prog os ⟨#[], #[], []⟩).heap.modify 2 (putCells #[.string ⟨#[239, 187, 191]⟩, .int .i32 1114111, .int .i64 0, .int .i64 0, .string ⟨#[255, 254]⟩, .int .i32 1114111, .int .i64 0, .int .i64 1, .string ⟨#[254, 255]⟩, .int .i32 1114111, .int .i64 1, .int .i64 0, .string ⟨#[]⟩, .int .i32 255, .int .i64 0, .int .i64 0])).modify 6 (putCells #[.int .u8 127, .int .i64 1, .int .u8 127, .int .u8 0, .int .u8 0, .int .u8 193, .int .i64 2, .int .u8 0, .int .u8 255, .int .u8 0, .int .u8 223, .int .i64 2, .int .u8 31, .int .u8 128, .int .u8 191, .int .u8 224, .int .i64 3, .int .u8 15, .int .u8 160, .int .u8 191, .int .u8 236, .int .i64 3, .int .u8 15, .int .u8 128, .int .u8 191, .int .u8 237, .int .i64 3, .int .u8 15, .int .u8 128, .int .u8 159, .int .u8 239, .int .i64 3, .int .u8 15, .int .u8 128, .int .u8 191, .int .u8 240, .int .i64 4, .int .u8 7, .int .u8 144, .int .u8 191, .int .u8 243, .int .i64 4, .int .u8 7, .int .u8 128, .int .u8 191, .int .u8 244, .int .i64 4, .int .u8 7, .int .u8 128, .int .u8 143, .int .u8 255, .int .i64 2, .int .u8 0, .int .u8 255, .int .u8 0])).modify 4 (putCells #[.int .i32 55296, .int .i32 56319, .int .i32 56320, .int .i32 57343]) }
end Go.Proofs.YtjbfgnhkgjigpaaGreatDoor.fin
