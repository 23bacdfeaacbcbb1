import Derived.Test.YtjbfgnhkgjigpaaGreatDoorGd6
namespace Go.Proofs.YtjbfgnhkgjigpaaGreatDoor
open Go.RowKit

/-- A node goes through whatever leaves leaves and inner nodes alone. -/
theorem Nd.kept_ty {w w' : World} (hk : ∀ (k : Nat) (c : Array Value) (t : TypeId), w.heap[k]? = some (Obj.cells c t) → t = 168 ∨ t = 198 → w'.heap[k]? = w.heap[k]?) : ∀ {n : Nd}, n.In w → n.In w'
  | .leaf _ _ _, h => (hk _ _ _ h (.inl rfl)).trans h
  | .inner _ _ _ _ _, h => ⟨(hk _ _ _ h.1 (.inr rfl)).trans h.1, Nd.kept_ty hk h.2.1, Nd.kept_ty hk h.2.2⟩
theorem TrAt.kept_ty {w w' : World} {enc : Int} {t : Option Nd} {R : List (Cn × ByteArray)} (h : TrAt w enc t R) (hk : ∀ (k : Nat) (c : Array Value) (t : TypeId), w.heap[k]? = some (Obj.cells c t) → t = 168 ∨ t = 198 → w'.heap[k]? = w.heap[k]?) : TrAt w' enc t R :=
  ⟨fun n hn => ⟨Nd.kept_ty hk (h.inn n hn).1, (h.inn n hn).2⟩, h.non, h.ok⟩
/-- The row of bytes turns: no node does. -/
theorem TrAt.wt {w w' : World} {B : Nat} {v : Value} {bs : List UInt8} {enc : Int} {t : Option Nd} {R : List (Cn × ByteArray)} (h : TrAt w enc t R) (hw : Wt w B v bs) (hs : WtStep v w w') : TrAt w' enc t R := by
  refine h.kept_ty (fun k c ty hk hty => hs.keep k (heap_lt hk) (fun e => ?_))
  rcases hw with ⟨rfl, rfl⟩ | ⟨g, o, cap, cur, rfl, hg, hh, r⟩
  · cases e
  · cases e
    rw [hk] at hh
    injection hh with hh
    injection hh with h1 h2 h3
    rcases hty with x | x
    · rw [x] at h2; exact absurd h2 (by decide)
    · rw [x] at h2; exact absurd h2 (by decide)
/-- A block of another type turns: no node does. -/
theorem TrAt.tn {w w' : World} {q : Nat} {c0 : Array Value} {ty0 : TypeId} {enc : Int} {t : Option Nd} {R : List (Cn × ByteArray)} (h : TrAt w enc t R) (hq : w.heap[q]? = some (.cells c0 ty0)) (hty0 : ty0 ≠ 168 ∧ ty0 ≠ 198) (hs : Tn q w w') : TrAt w' enc t R := by
  refine h.kept_ty (fun k c ty hk hty => hs.keep k (heap_lt hk) (fun e => ?_))
  subst e
  rw [hq] at hk
  injection hk with hk
  injection hk with h1 h2
  rcases hty with x | x
  · exact hty0.1 (h2.trans x)
  · exact hty0.2 (h2.trans x)

set_option maxRecDepth 100000 in
theorem wt_copy {w : World} {B : Nat} {p p' : Option Addr} {n cap : Nat} {bs : List UInt8} (ty : TypeId) (h : Wt w B (.slice p n cap) bs) (k : Nat) (hk : k ≤ bs.length) (hs : Wt w B (.slice p' (n - k) (cap - k)) (bs.drop k)) (hne : 0 < bs.length) :
    ∃ w', (Builtin.copy_ #[74, 74] ty #[.slice p n cap, .slice p' (n - k) (cap - k)]).run Tryz.prog w = .ok (goInt ((n - k : Nat) : Int)) w' ∧ Wt w' B (.slice p (n - k) cap) (bs.drop k) ∧ WtStep (.slice p n cap) w w' := by
  rcases h with ⟨hv, rfl⟩ | ⟨g, o, cap', cur, hv, hg, hh, hoc, hle, hcm, htk⟩
  · simp at hne
  · injection hv with h1 h2 h3
    subst h1 h2 h3
    have hcl : (Lib.byteCells (bs.drop k)).length = bs.length - k := by rw [Lib.byteCells_length, List.length_drop]
    have hone : ∀ v ∈ Lib.byteCells (bs.drop k), v.oneCell' = true := by
      intro v hv
      simp only [Lib.byteCells, List.mem_map] at hv
      obtain ⟨x, _, rfl⟩ := hv
      rfl
    have hsz : (Tryz.prog.info? 5).map (·.size) = some 1 := by kernel_rfl
    have hcz : cur.toList.length = cur.size := Array.length_toList
    rcases hs with ⟨hv2, hb2⟩ | ⟨g2, o2, cap2, cur2, hv2, hg2, hh2, hoc2, hle2, hcm2, htk2⟩
    · injection hv2 with h1 h2 h3
      subst h1
      have hz : bs.length - k = 0 := h2
      rw [hz]
      refine ⟨w, ?_, .inr ⟨g, o, cap, cur, by rw [hb2]; rfl, hg, hh, hoc, by rw [hb2]; exact Nat.zero_le _, hcm, by rw [hb2]; rfl⟩, ⟨rfl, rfl, rfl, Nat.le_refl _, fun _ _ _ => rfl⟩⟩
      rw [show cap - k = 0 from h3]
      exact run_copy_none w 74 74 ty 5 _ _ _ _ _ _ Tryz.underlying74 hsz (by simp)
    · injection hv2 with h1 h2 h3
      subst h1
      have hsrc : ∀ j v, (Lib.byteCells (bs.drop k))[j]? = some v → w.cell? ((⟨g2, o2, none⟩ : Addr).add j) = some v := by
        intro j u hj
        rw [Addr.add_lit, Lib.cell_of_heap hh2]
        rw [← htk2] at hj
        rw [List.getElem?_take] at hj
        split at hj
        · rw [List.getElem?_drop] at hj
          rw [← hj, Array.getElem?_toList]
        · cases hj
      have hr := run_copy_row (P := Tryz.prog) w 74 74 ty 5 g o bs.length cap ⟨g2, o2, none⟩ (bs.length - k) (cap - k) cur 5 (Lib.byteCells (bs.drop k)) Tryz.underlying74 hsz hh (by rw [hcl]; exact (Nat.min_eq_left (by omega)).symm) hsrc (by rw [hcl]; omega) hone
      rw [hcl] at hr
      refine ⟨_, hr, .inr ⟨g, o, cap, _, by rw [List.length_drop], hg, setRow_heap w g cur _ 5 _ hh, ?_, by rw [List.length_drop]; omega, hcm, ?_⟩, ⟨rfl, rfl, rfl, by simp, fun k' _ hk' => setRow_other w g k' _ (fun e => hk' (by simp [wblk, e]))⟩⟩
      · simp only [List.size_toArray, List.length_append, List.length_take, List.length_drop, Array.length_toList, hcl]
        omega
      · rw [List.length_drop]
        show ((cur.toList.take o ++ Lib.byteCells (bs.drop k) ++ cur.toList.drop (o + (bs.length - k))).drop o).take _ = _
        rw [List.append_assoc, List.drop_append_of_le_length (by rw [List.length_take]; omega), List.drop_take, Nat.sub_self, List.take_zero, List.nil_append, ← hcl]
        exact List.take_left
end Go.Proofs.YtjbfgnhkgjigpaaGreatDoor

namespace Go.Proofs.YtjbfgnhkgjigpaaGreatDoor
open Go.RowKit

theorem hdB_take (bs l : List UInt8) (hp : bs <+: l) (h : 3 ≤ bs.length ∨ bs = l) : (hdB bs).data.toList = l.take 3 := by
  show (bs.take (min 3 bs.length)).toArray.toList = _
  rw [List.toList_toArray]
  rcases h with h | rfl
  · obtain ⟨r, rfl⟩ := hp
    rw [Nat.min_eq_left h, List.take_append_of_le_length h]
  · by_cases g : 3 ≤ bs.length
    · rw [Nat.min_eq_left g]
    · rw [Nat.min_eq_right (by omega), List.take_of_length_le (Nat.le_refl _), List.take_of_length_le (by omega)]
theorem hdEnc_eq (b : ByteArray) (bs : List UInt8) (mode : Int) (hp : bs <+: b.data.toList) (h : 3 ≤ bs.length ∨ bs = b.data.toList) : hdEnc bs mode = encOf b mode ∧ hdMark bs mode = ofMark b (encOf b mode) := by
  have hh := hdB_take bs b.data.toList hp h
  have e1 : hdEnc bs mode = encOf b mode := by
    unfold hdEnc encOf
    rw [sniff_head b (hdB bs) (mode % 4) hh 3]
  refine ⟨e1, ?_⟩
  unfold hdMark
  rw [ofMark_head b (hdB bs) _ hh, e1]
/-- The mark, if there is one, and the body are all the bytes. -/
theorem mark_body (b : ByteArray) (E : Int) : b.data.toList = (mkB E (ofMark b E)).data.toList ++ (ofBody b E).data.toList := by
  unfold mkB ofBody
  cases h : ofMark b E
  · simp
  · simp only [if_true]
    have h1 : (markB E).data.toList.isPrefixOf b.data.toList = true := by
      unfold ofMark at h
      rw [Bool.and_eq_true] at h
      exact h.2
    obtain ⟨r, hr⟩ := List.isPrefixOf_iff_prefix.1 h1
    have hl : (markB E).data.toList.length = (markB E).size := rfl
    have hb : b.data.toList.length = b.size := rfl
    have h2 : (b.extract (markB E).size b.size).data.toList = b.data.toList.drop (markB E).size := by
      rw [ByteArray.data_extract, Array.toList_extract, List.extract_eq_take_drop]
      exact List.take_of_length_le (by rw [List.length_drop]; omega)
    rw [h2, ← hr, ← hl, List.drop_left]
end Go.Proofs.YtjbfgnhkgjigpaaGreatDoor
