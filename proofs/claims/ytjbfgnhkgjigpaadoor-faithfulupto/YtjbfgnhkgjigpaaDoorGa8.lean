import Derived.Deep.RegionLaw
import Derived.Test.YtjbfgnhkgjigpaaDoorGa3
import Derived.Test.YtjbfgnhkgjigpaaDoorGa5
import Derived.Test.YtjbfgnhkgjigpaaDoorGa7
namespace Go.Proofs.YtjbfgnhkgjigpaaDoor
open Go.RowKit

set_option maxHeartbeats 400000 in
theorem isMode_any (mode : Int) (w : World) :
    Calls Tryd.prog 36 #[.int .i64 mode] w fun e w' => e = .returned (.bool (decide (0 ≤ mode ∧ mode ≤ 7))) ∧ w' = w := by
  by_cases h : 0 ≤ mode
  · by_cases h7 : mode < 8
    · have hd : decide (0 ≤ mode ∧ mode ≤ 7) = true := by simp; omega
      rw [hd]
      go_enter Tryd.func36, Tryd.ntmps36
      go_wp2
      go_ret
      exact ⟨rfl, rfl⟩
    · have hd : decide (0 ≤ mode ∧ mode ≤ 7) = false := by simp; omega
      rw [hd]
      go_enter Tryd.func36, Tryd.ntmps36
      go_wp2
      go_ret
      exact ⟨rfl, rfl⟩
  · have hd : decide (0 ≤ mode ∧ mode ≤ 7) = false := by simp; omega
    rw [hd]
    go_enter Tryd.func36, Tryd.ntmps36
    go_wp2
    go_ret
    exact ⟨rfl, rfl⟩
set_option maxRecDepth 100000 in
set_option maxHeartbeats 400000 in
theorem begin_no (mode : Int) (w : World) (h : mode < 0 ∨ 7 < mode) :
    Calls Tryd.prog 12 #[.int .i64 mode] w fun e w' => e = .returned (.tuple #[.pointer none, .int .i64 1]) ∧ w' = w := by
  have HI := hide1 (fun W => isMode_any mode W)
  rw [show decide (0 ≤ mode ∧ mode ≤ 7) = false by simp; omega] at HI
  clear h
  go_enter Tryd.func12, Tryd.ntmps12
  go_wp2_with (go_at_call 36; refine (HI.out _).mono ?_; rintro e w' ⟨rfl, rfl⟩)
  go_ret2
  exact ⟨rfl, rfl⟩
set_option maxRecDepth 100000 in
set_option maxHeartbeats 400000 in
theorem begin_ok (mode : Int) (w : World) (h1 : 0 ≤ mode) (h2 : mode ≤ 7) :
    Calls Tryd.prog 12 #[.int .i64 mode] w fun e w' => e = .returned (.tuple #[.pointer (some ⟨w.heap.size, 0, none⟩), .int .i64 0]) ∧ w' = w.alloc (.cells #[.int .i64 mode, .bool false, .int .i64 0, .bool false, .nilIface, .string ⟨#[]⟩, .slice none 0 0] 74) := by
  have HI := hide1 (fun W => isMode_any mode W)
  rw [show decide (0 ≤ mode ∧ mode ≤ 7) = true by simp; omega] at HI
  go_enter Tryd.func12, Tryd.ntmps12
  go_wp2_with (go_at_call 36; refine (HI.out _).mono ?_; rintro e w' ⟨rfl, rfl⟩)
  go_ret2
  exact ⟨rfl, rfl⟩
set_option maxRecDepth 100000 in
set_option maxHeartbeats 400000 in
theorem load_no (b : ByteArray) (mode : Int) (w : World) (h : mode < 0 ∨ 7 < mode) :
    Calls Tryd.prog 26 #[.string b, .int .i64 mode] w fun e w' => e = .returned (.tuple #[.pointer none, .int .i64 1]) ∧ w' = w := by
  have HI := hide1 (fun W => begin_no mode W h)
  clear h
  go_enter Tryd.func26, Tryd.ntmps26
  go_wp2_with (go_at_call 12; refine (HI.out _).mono ?_; rintro e w' ⟨rfl, rfl⟩)
  go_ret2
  exact ⟨rfl, rfl⟩
end Go.Proofs.YtjbfgnhkgjigpaaDoor

namespace Go.Proofs.YtjbfgnhkgjigpaaDoor
open Go.RowKit

/-- A node goes through whatever leaves leaves and inner nodes alone. -/
theorem Nd.kept_ty {w w' : World} (hk : ∀ (k : Nat) (c : Array Value) (t : TypeId), w.heap[k]? = some (Obj.cells c t) → t = 139 ∨ t = 159 → w'.heap[k]? = w.heap[k]?) : ∀ {n : Nd}, n.In w → n.In w'
  | .leaf _ _ _, h => (hk _ _ _ h (.inl rfl)).trans h
  | .inner _ _ _ _ _, h => ⟨(hk _ _ _ h.1 (.inr rfl)).trans h.1, Nd.kept_ty hk h.2.1, Nd.kept_ty hk h.2.2⟩
theorem TrAt.kept_ty {w w' : World} {enc : Int} {t : Option Nd} {R : List (Cn × ByteArray)} (h : TrAt w enc t R) (hk : ∀ (k : Nat) (c : Array Value) (t : TypeId), w.heap[k]? = some (Obj.cells c t) → t = 139 ∨ t = 159 → w'.heap[k]? = w.heap[k]?) : TrAt w' enc t R :=
  ⟨fun n hn => ⟨Nd.kept_ty hk (h.inn n hn).1, (h.inn n hn).2⟩, h.non, h.ok⟩
/-- The row of bytes turns: no node does. -/
theorem TrAt.wt {w w' : World} {B : Nat} {v : Value} {bs : List UInt8} {enc : Int} {t : Option Nd} {R : List (Cn × ByteArray)} (h : TrAt w enc t R) (hw : Wt w B v bs) (hs : WtStep v w w') : TrAt w' enc t R := by
  refine h.kept_ty (fun k c ty hk hty => hs.keep k (heap_lt hk) (fun e => ?_))
  rcases hw with ⟨rfl, rfl⟩ | ⟨g, o, cap, cur, rfl, hg, hh, r⟩
  · cases e
  · cases e
    rw [hk] at hh
    injection hh with hh
    injection hh with h1 h2 h3
    rcases hty with x | x
    · rw [x] at h2; exact absurd h2 (by decide)
    · rw [x] at h2; exact absurd h2 (by decide)
/-- A block of another type turns: no node does. -/
theorem TrAt.tn {w w' : World} {q : Nat} {c0 : Array Value} {ty0 : TypeId} {enc : Int} {t : Option Nd} {R : List (Cn × ByteArray)} (h : TrAt w enc t R) (hq : w.heap[q]? = some (.cells c0 ty0)) (hty0 : ty0 ≠ 139 ∧ ty0 ≠ 159) (hs : Tn q w w') : TrAt w' enc t R := by
  refine h.kept_ty (fun k c ty hk hty => hs.keep k (heap_lt hk) (fun e => ?_))
  subst e
  rw [hq] at hk
  injection hk with hk
  injection hk with h1 h2
  rcases hty with x | x
  · exact hty0.1 (h2.trans x)
  · exact hty0.2 (h2.trans x)

set_option maxRecDepth 100000 in
theorem wt_copy {w : World} {B : Nat} {p p' : Option Addr} {n cap : Nat} {bs : List UInt8} (ty : TypeId) (h : Wt w B (.slice p n cap) bs) (k : Nat) (hk : k ≤ bs.length) (hs : Wt w B (.slice p' (n - k) (cap - k)) (bs.drop k)) (hne : 0 < bs.length) :
    ∃ w', (Builtin.copy_ #[70, 70] ty #[.slice p n cap, .slice p' (n - k) (cap - k)]).run Tryd.prog w = .ok (goInt ((n - k : Nat) : Int)) w' ∧ Wt w' B (.slice p (n - k) cap) (bs.drop k) ∧ WtStep (.slice p n cap) w w' := by
  rcases h with ⟨hv, rfl⟩ | ⟨g, o, cap', cur, hv, hg, hh, hoc, hle, hcm, htk⟩
  · simp at hne
  · injection hv with h1 h2 h3
    subst h1 h2 h3
    have hcl : (Lib.byteCells (bs.drop k)).length = bs.length - k := by rw [Lib.byteCells_length, List.length_drop]
    have hone : ∀ v ∈ Lib.byteCells (bs.drop k), v.oneCell' = true := by
      intro v hv
      simp only [Lib.byteCells, List.mem_map] at hv
      obtain ⟨x, _, rfl⟩ := hv
      rfl
    have hsz : (Tryd.prog.info? 5).map (·.size) = some 1 := by kernel_rfl
    have hcz : cur.toList.length = cur.size := Array.length_toList
    rcases hs with ⟨hv2, hb2⟩ | ⟨g2, o2, cap2, cur2, hv2, hg2, hh2, hoc2, hle2, hcm2, htk2⟩
    · injection hv2 with h1 h2 h3
      subst h1
      have hz : bs.length - k = 0 := h2
      rw [hz]
      refine ⟨w, ?_, .inr ⟨g, o, cap, cur, by rw [hb2]; rfl, hg, hh, hoc, by rw [hb2]; exact Nat.zero_le _, hcm, by rw [hb2]; rfl⟩, ⟨rfl, rfl, rfl, Nat.le_refl _, fun _ _ _ => rfl⟩⟩
      rw [show cap - k = 0 from h3]
      exact run_copy_none w 70 70 ty 5 _ _ _ _ _ _ Tryd.underlying70 hsz (by simp)
    · injection hv2 with h1 h2 h3
      subst h1
      have hsrc : ∀ j v, (Lib.byteCells (bs.drop k))[j]? = some v → w.cell? ((⟨g2, o2, none⟩ : Addr).add j) = some v := by
        intro j u hj
        rw [Addr.add_lit, Lib.cell_of_heap hh2]
        rw [← htk2] at hj
        rw [List.getElem?_take] at hj
        split at hj
        · rw [List.getElem?_drop] at hj
          rw [← hj, Array.getElem?_toList]
        · cases hj
      have hr := run_copy_row (P := Tryd.prog) w 70 70 ty 5 g o bs.length cap ⟨g2, o2, none⟩ (bs.length - k) (cap - k) cur 5 (Lib.byteCells (bs.drop k)) Tryd.underlying70 hsz hh (by rw [hcl]; exact (Nat.min_eq_left (by omega)).symm) hsrc (by rw [hcl]; omega) hone
      rw [hcl] at hr
      refine ⟨_, hr, .inr ⟨g, o, cap, _, by rw [List.length_drop], hg, setRow_heap w g cur _ 5 _ hh, ?_, by rw [List.length_drop]; omega, hcm, ?_⟩, ⟨rfl, rfl, rfl, by simp, fun k' _ hk' => setRow_other w g k' _ (fun e => hk' (by simp [wblk, e]))⟩⟩
      · simp only [List.size_toArray, List.length_append, List.length_take, List.length_drop, Array.length_toList, hcl]
        omega
      · rw [List.length_drop]
        show ((cur.toList.take o ++ Lib.byteCells (bs.drop k) ++ cur.toList.drop (o + (bs.length - k))).drop o).take _ = _
        rw [List.append_assoc, List.drop_append_of_le_length (by rw [List.length_take]; omega), List.drop_take, Nat.sub_self, List.take_zero, List.nil_append, ← hcl]
        exact List.take_left
end Go.Proofs.YtjbfgnhkgjigpaaDoor

namespace Go.Proofs.YtjbfgnhkgjigpaaDoor
open Go.RowKit

theorem hdB_take (bs l : List UInt8) (hp : bs <+: l) (h : 3 ≤ bs.length ∨ bs = l) : (hdB bs).data.toList = l.take 3 := by
  show (bs.take (min 3 bs.length)).toArray.toList = _
  rw [List.toList_toArray]
  rcases h with h | rfl
  · obtain ⟨r, rfl⟩ := hp
    rw [Nat.min_eq_left h, List.take_append_of_le_length h]
  · by_cases g : 3 ≤ bs.length
    · rw [Nat.min_eq_left g]
    · rw [Nat.min_eq_right (by omega), List.take_of_length_le (Nat.le_refl _), List.take_of_length_le (by omega)]
theorem hdEnc_eq (b : ByteArray) (bs : List UInt8) (mode : Int) (hp : bs <+: b.data.toList) (h : 3 ≤ bs.length ∨ bs = b.data.toList) : hdEnc bs mode = encOf b mode ∧ hdMark bs mode = ofMark b (encOf b mode) := by
  have hh := hdB_take bs b.data.toList hp h
  have e1 : hdEnc bs mode = encOf b mode := by
    unfold hdEnc encOf
    rw [sniff_head b (hdB bs) (mode % 4) hh 3]
  refine ⟨e1, ?_⟩
  unfold hdMark
  rw [ofMark_head b (hdB bs) _ hh, e1]
/-- The mark, if there is one, and the body are all the bytes. -/
theorem mark_body (b : ByteArray) (E : Int) : b.data.toList = (mkB E (ofMark b E)).data.toList ++ (ofBody b E).data.toList := by
  unfold mkB ofBody
  cases h : ofMark b E
  · simp
  · simp only [if_true]
    have h1 : (markB E).data.toList.isPrefixOf b.data.toList = true := by
      unfold ofMark at h
      rw [Bool.and_eq_true] at h
      exact h.2
    obtain ⟨r, hr⟩ := List.isPrefixOf_iff_prefix.1 h1
    have hl : (markB E).data.toList.length = (markB E).size := rfl
    have hb : b.data.toList.length = b.size := rfl
    have h2 : (b.extract (markB E).size b.size).data.toList = b.data.toList.drop (markB E).size := by
      rw [ByteArray.data_extract, Array.toList_extract, List.extract_eq_take_drop]
      exact List.take_of_length_le (by rw [List.length_drop]; omega)
    rw [h2, ← hr, ← hl, List.drop_left]
end Go.Proofs.YtjbfgnhkgjigpaaDoor

namespace Go.Proofs.YtjbfgnhkgjigpaaDoor
open Go.RowKit

theorem TrAt.tn2 {w w' : World} {q : Nat} {enc : Int} {t : Option Nd} {R : List (Cn × ByteArray)} (h : TrAt w enc t R) (hq : NoNd w q) (hs : Tn q w w') : TrAt w' enc t R := by
  refine h.kept_ty (fun k c ty hk hty => hs.keep k (heap_lt hk) (fun e => ?_))
  subst e
  have : tyAt w k = some ty := by unfold tyAt; rw [hk]
  rcases hty with x | x
  · exact hq.1 (by rw [this, x])
  · exact hq.2 (by rw [this, x])
/-- Only the loader's block and its row's turn; the row stays or is a new one. -/
structure Ps (q : Nat) (v : Value) (w : World) (v' : Value) (w' : World) : Prop where
  os : w'.os = w.os
  tape : w'.tape = w.tape
  output : w'.output = w.output
  size : w.heap.size ≤ w'.heap.size
  keep : ∀ k, k < w.heap.size → k ≠ q → wblk v ≠ some k → w'.heap[k]? = w.heap[k]?
  row : wblk v' = wblk v ∨ wblk v' = none ∨ ∃ k, wblk v' = some k ∧ w.heap.size ≤ k
theorem Ps.refl (q : Nat) (v : Value) (w : World) : Ps q v w v w := ⟨rfl, rfl, rfl, Nat.le_refl _, fun _ _ _ _ => rfl, .inl rfl⟩
theorem Ps.trans {q : Nat} {v v1 v2 : Value} {w w1 w2 : World} (h : Ps q v w v1 w1) (g : Ps q v1 w1 v2 w2) : Ps q v w v2 w2 := by
  refine ⟨g.os.trans h.os, g.tape.trans h.tape, g.output.trans h.output, Nat.le_trans h.size g.size, fun k hk hq hv => ?_, ?_⟩
  · have h1 := h.keep k hk hq hv
    refine (g.keep k (Nat.lt_of_lt_of_le hk h.size) hq (fun e => ?_)).trans h1
    rcases h.row with r | r | ⟨k', r, hk'⟩
    · exact hv (r.symm.trans e)
    · rw [r] at e; cases e
    · rw [r] at e; cases e; omega
  · rcases g.row with r | r | ⟨k', r, hk'⟩
    · rcases h.row with s | s | ⟨k', s, hk'⟩
      · exact .inl (r.trans s)
      · exact .inr (.inl (r.trans s))
      · exact .inr (.inr ⟨k', r.trans s, hk'⟩)
    · exact .inr (.inl r)
    · exact .inr (.inr ⟨k', r, Nat.le_trans h.size hk'⟩)
theorem Ps.of_tn {q : Nat} {v v' : Value} {w w' : World} (h : Tn q w w') (hv : wblk v' = wblk v) : Ps q v w v' w' := ⟨h.os, h.tape, h.output, h.size, fun k hk hq _ => h.keep k hk hq, .inl hv⟩
theorem Ps.of_low {q : Nat} {v v' : Value} {w w' : World} (h : Below w.heap.size w w') (hv : wblk v' = wblk v) : Ps q v w v' w' := ⟨h.os, h.tape, h.output, h.size, fun k hk _ _ => h.block k hk, .inl hv⟩
theorem Ps.of_wt {q : Nat} {v v' : Value} {w w' : World} (h : WtStep v w w') (hv : wblk v' = wblk v ∨ wblk v' = some w.heap.size ∨ wblk v' = none) : Ps q v w v' w' :=
  ⟨h.os, h.tape, h.output, h.size, fun k hk _ hk2 => h.keep k hk hk2, hv.elim .inl (fun r => r.elim (fun r => .inr (.inr ⟨_, r, Nat.le_refl _⟩)) (fun r => .inr (.inl r)))⟩

/-- A loader at block q in memory: its cells, what waits, its leaves. -/
structure LdS (B q : Nat) (mode : Int) (begun : Bool) (enc : Int) (mark : Bool) (t : Option Nd) (R : List (Cn × ByteArray)) (v : Value) (ws : List UInt8) (w : World) : Prop where
  ld : LdC w q mode begun enc mark (trv t) ⟨#[]⟩ v
  wt : Wt w B v ws
  nq : wblk v ≠ some q
  tr : TrAt w enc t R
section
variable {B q : Nat} {mode : Int} {begun : Bool} {enc : Int} {mark : Bool} {t : Option Nd} {R : List (Cn × ByteArray)} {v : Value} {ws : List UInt8} {w : World}
theorem LdS.low {w' : World} (h : LdS B q mode begun enc mark t R v ws w) (hb : Below w.heap.size w w') : LdS B q mode begun enc mark t R v ws w' :=
  ⟨h.ld.below hb, h.wt.low hb, h.nq, h.tr.low hb⟩
theorem LdC.lt (h : LdC w q mode begun enc mark (trv t) ⟨#[]⟩ v) : q < w.heap.size := block_lt h.c0
theorem LdC.wtstep {w' : World} (h : LdC w q mode begun enc mark (trv t) ⟨#[]⟩ v) (hs : WtStep v w w') (hq : wblk v ≠ some q) : LdC w' q mode begun enc mark (trv t) ⟨#[]⟩ v := by
  have hB := block_lt h.c0
  have hk := hs.keep q hB hq
  have g : ∀ o, w'.cell? ⟨q, o, none⟩ = w.cell? ⟨q, o, none⟩ := fun o => by simp only [World.cell?, hk]
  refine ⟨(g _).trans h.c0, (g _).trans h.c1, (g _).trans h.c2, (g _).trans h.c3, (g _).trans h.c4, (g _).trans h.c5, (g _).trans h.c6, fun j => ?_, ?_⟩
  · rw [← h.fr j]; simp only [World.frozen?, hk]
  · unfold NoNd tyAt; rw [hk]; exact h.nb
/-- The root's cell turns. -/
theorem LdS.root (h : LdS B q mode begun enc mark t R v ws w) (t' : Option Nd) (R' : List (Cn × ByteArray)) (h' : TrAt w enc t' R') : LdS B q mode begun enc mark t' R' v ws (w.setCell ⟨q, 4, none⟩ (trv t')) := by
  have t1 : Tn q w (w.setCell ⟨q, 4, none⟩ (trv t')) := (Tn.refl _ _).setCell _
  exact ⟨h.ld.set4 _, h.wt.tn t1 h.nq, h.nq, h'.tn2 h.ld.nb t1⟩
/-- What waits turns. -/
theorem LdS.wait {w' : World} (h : LdS B q mode begun enc mark t R v ws w) (v' : Value) (ws' : List UInt8) (hw : Wt w' B v' ws') (hs : WtStep v w w') (hv : wblk v' = wblk v ∨ wblk v' = some w.heap.size ∨ wblk v' = none) : LdS B q mode begun enc mark t R v' ws' (w'.setCell ⟨q, 6, none⟩ v') := by
  have hB := block_lt h.ld.c0
  have hn : wblk v' ≠ some q := by
    rcases hv with r | r | r
    · rw [r]; exact h.nq
    · rw [r]; intro e; cases e; omega
    · rw [r]; intro e; cases e
  have hl := h.ld.wtstep hs h.nq
  have t1 : Tn q w' (w'.setCell ⟨q, 6, none⟩ v') := (Tn.refl _ _).setCell _
  exact ⟨hl.set6 _, hw.tn t1 hn, hn, (h.tr.wt h.wt hs).tn2 hl.nb t1⟩
end
/-- What a loader says of all bytes that were pushed. -/
structure Said (mode : Int) (all : List UInt8) (enc : Int) (mark : Bool) (R : List (Cn × ByteArray)) (ws : List UInt8) : Prop where
  enc_ : enc = hdEnc all mode
  mark_ : mark = hdMark all mode
  bytes : all = (mkB enc mark).data.toList ++ (rowB R ++ ws)
  read : ∀ F, Vm.atoms enc (rowB R ++ (ws ++ F)) = rowA enc R ++ Vm.atoms enc (ws ++ F)
  len : R.length ≤ (rowB R).length
/-- Behind any pushes. -/
def Inv (mode : Int) (all : List UInt8) (begun : Bool) (enc : Int) (mark : Bool) (t : Option Nd) (R : List (Cn × ByteArray)) (ws : List UInt8) : Prop :=
  (begun = false ∧ t = none ∧ R = [] ∧ ws = all) ∨ (begun = true ∧ 3 ≤ all.length ∧ Said mode all enc mark R ws)
theorem hdB_pre (bs r : List UInt8) (h : 3 ≤ bs.length) : hdB (bs ++ r) = hdB bs := by
  unfold hdB
  congr 2
  rw [List.length_append, Nat.min_eq_left h, Nat.min_eq_left (by omega), List.take_append_of_le_length h]
theorem Said.more {mode : Int} {all : List UInt8} {enc : Int} {mark : Bool} {R : List (Cn × ByteArray)} {ws : List UInt8} (h : Said mode all enc mark R ws) (h3 : 3 ≤ all.length) (r : List UInt8) : Said mode (all ++ r) enc mark R (ws ++ r) := by
  have e1 : hdEnc (all ++ r) mode = hdEnc all mode := by unfold hdEnc; rw [hdB_pre _ _ h3]
  have e2 : hdMark (all ++ r) mode = hdMark all mode := by unfold hdMark; rw [hdB_pre _ _ h3, e1]
  exact ⟨h.enc_.trans e1.symm, h.mark_.trans e2.symm, by rw [h.bytes]; simp only [List.append_assoc], fun F => by have := h.read (r ++ F); simpa only [List.append_assoc] using this, h.len⟩
theorem Inv.more {mode : Int} {all : List UInt8} {begun : Bool} {enc : Int} {mark : Bool} {t : Option Nd} {R : List (Cn × ByteArray)} {ws : List UInt8} (h : Inv mode all begun enc mark t R ws) (r : List UInt8) : Inv mode (all ++ r) begun enc mark t R (ws ++ r) := by
  rcases h with ⟨h1, h2, h3, h4⟩ | ⟨h1, h2, h3⟩
  · exact .inl ⟨h1, h2, h3, by rw [h4]⟩
  · exact .inr ⟨h1, by rw [List.length_append]; omega, h3.more h2 r⟩
/-- What begin settles. -/
theorem said_begin (mode : Int) (all : List UInt8) : Said mode all (hdEnc all mode) (hdMark all mode) [] (all.drop (mkB (hdEnc all mode) (hdMark all mode)).size) := by
  refine ⟨rfl, rfl, ?_, fun F => by simp [rowB, rowA], Nat.le_refl _⟩
  show all = _ ++ ([] ++ _)
  rw [List.nil_append]
  have h := mark_body ⟨all.toArray⟩ (encOf ⟨all.toArray⟩ mode)
  have hh := hdEnc_eq ⟨all.toArray⟩ all mode (by simp) (.inr (by simp))
  rw [← hh.2, ← hh.1] at h
  have hl : (mkB (hdEnc all mode) (hdMark all mode)).data.toList.length = (mkB (hdEnc all mode) (hdMark all mode)).size := rfl
  have h2 : all = (mkB (hdEnc all mode) (hdMark all mode)).data.toList ++ (ofBody ⟨all.toArray⟩ (hdEnc all mode)).data.toList := by simpa using h
  generalize (mkB (hdEnc all mode) (hdMark all mode)) = M at h2 hl ⊢
  generalize (ofBody ⟨all.toArray⟩ (hdEnc all mode)).data.toList = X at h2
  rw [h2, ← hl, List.drop_left]
/-- One more leaf: the first bytes of those that wait. -/
theorem Said.leaf {mode : Int} {all : List UInt8} {enc : Int} {mark : Bool} {R R' : List (Cn × ByteArray)} {ws view : List UInt8} {A0 : List Vm.At} (h : Said mode all enc mark R ws) (hv : view = ws.take 1004) (hl : 1004 ≤ ws.length) (hA : A0 <+: Vm.atoms enc view) (hs : Vm.sizeA A0 ≤ 1000) (h1 : 1 ≤ Vm.sizeA A0)
    (eb : rowB R' = rowB R ++ ws.take (Vm.sizeA A0)) (ea : rowA enc R' = rowA enc R ++ A0) (el : R'.length ≤ R.length + 1) : Said mode all enc mark R' (ws.drop (Vm.sizeA A0)) := by
  subst hv
  have hvl : (ws.take 1004).length = 1004 := by rw [List.length_take]; omega
  refine ⟨h.enc_, h.mark_, ?_, fun F => ?_, ?_⟩
  · rw [eb, List.append_assoc (rowB R), List.take_append_drop]; exact h.bytes
  · have e1 := h.read F
    have e2 := Vm.atoms_more (r := ws.drop 1004 ++ F) hA (by omega)
    rw [← List.append_assoc, List.take_append_drop] at e2
    rw [eb, ea, List.append_assoc (rowB R), ← List.append_assoc (ws.take _), List.take_append_drop, e1, e2, List.append_assoc]
    rw [List.drop_append_of_le_length (by omega)]
  · rw [eb, List.length_append, List.length_take]
    have := h.len
    omega
/-- At the end: what waits is read to the end. -/
theorem Said.doc {mode : Int} {all : List UInt8} {enc : Int} {mark : Bool} {R R' : List (Cn × ByteArray)} {ws : List UInt8} (h : Said mode all enc mark R ws) (b : ByteArray) (hb : b.data.toList = all) (tail : ByteArray)
    (eb : rowB R' = rowB R ++ ws.take (Vm.sizeA (Vm.atoms enc ws))) (ea : rowA enc R' = rowA enc R ++ Vm.atoms enc ws) (et : tail.data.toList = ws.drop (Vm.sizeA (Vm.atoms enc ws))) :
    enc = encOf b mode ∧ mark = ofMark b (encOf b mode) ∧ (ofBody b (encOf b mode)).data.toList = rowB R' ++ tail.data.toList ∧ Vm.atoms enc (ofBody b (encOf b mode)).data.toList = rowA enc R' := by
  have hh := hdEnc_eq b all mode (by rw [hb]; exact List.prefix_refl _) (.inr hb.symm)
  have e1 : enc = encOf b mode := h.enc_.trans hh.1
  have e2 : mark = ofMark b (encOf b mode) := h.mark_.trans hh.2
  have h1 := mark_body b (encOf b mode)
  rw [hb, ← e2, ← e1] at h1
  have h2 : (ofBody b enc).data.toList = rowB R ++ ws := (List.append_cancel_left (h.bytes.symm.trans h1)).symm
  refine ⟨e1, e2, ?_, ?_⟩
  · rw [← e1, h2, eb, et, List.append_assoc, List.take_append_drop]
  · have := h.read []
    rw [List.append_nil] at this
    rw [← e1, h2, this, ea]
/-- A leaf as a tree. -/
theorem leaf_tr {w : World} {enc : Int} {b : ByteArray} {Bk : Nat} {A0 : List Vm.At} (hp : A0 <+: Vm.atoms enc b.data.toList) (hin : (Nd.leaf Bk (cnOf A0) (b.extract 0 (Vm.sizeA A0))).In w) :
    TrAt w enc (some (Nd.leaf Bk (cnOf A0) (b.extract 0 (Vm.sizeA A0)))) [(cnOf A0, b.extract 0 (Vm.sizeA A0))] ∧ rowB [(cnOf A0, b.extract 0 (Vm.sizeA A0))] = b.data.toList.take (Vm.sizeA A0) ∧ rowA enc [(cnOf A0, b.extract 0 (Vm.sizeA A0))] = A0 := by
  have hle := Vm.sizeA_le hp
  have hbl : b.data.toList.length = b.size := rfl
  have e1 : (b.extract 0 (Vm.sizeA A0)).data.toList = b.data.toList.take (Vm.sizeA A0) := by
    rw [ByteArray.data_extract, Array.toList_extract, List.extract_eq_take_drop, List.drop_zero, Nat.sub_zero]
  have e2 : Vm.atoms enc (b.extract 0 (Vm.sizeA A0)).data.toList = A0 := by rw [e1]; exact (Vm.atoms_cut hp).1
  have e3 : (b.extract 0 (Vm.sizeA A0)).size = Vm.sizeA A0 := by
    have : (b.extract 0 (Vm.sizeA A0)).data.toList.length = (b.extract 0 (Vm.sizeA A0)).size := rfl
    rw [← this, e1, List.length_take]; omega
  refine ⟨⟨fun n hn => ?_, fun h => (by cases h), fun x hx => ?_⟩, ?_, ?_⟩
  · cases hn
    exact ⟨hin, e3.symm, rfl⟩
  · rw [List.mem_singleton] at hx
    subst hx
    exact ⟨by rw [e2], by rw [e2, e3]⟩
  · show (b.extract 0 (Vm.sizeA A0)).data.toList ++ [] = _
    rw [List.append_nil, e1]
  · show Vm.atoms enc (b.extract 0 (Vm.sizeA A0)).data.toList ++ [] = _
    rw [List.append_nil, e2]
end Go.Proofs.YtjbfgnhkgjigpaaDoor

namespace Go.Proofs.YtjbfgnhkgjigpaaDoor
open Go.RowKit

/-- Behind begin, on the copy at block Z; the result's block is the next one. -/
structure AlI (B Z : Nat) (w0 : World) (mode E : Int) (mk : Bool) (t : Option Nd) (tail : ByteArray) (v : Value) (ws : List UInt8) (R : List (Cn × ByteArray)) (w : World) : Prop where
  ld : LdC w Z mode true E mk (trv t) tail v
  wt : Wt w B v ws
  nz : wblk v ≠ some Z
  tr : TrAt w E t R
  tabs0 : Tabs w0
  zle : w0.heap.size ≤ Z
  rs : w.heap[Z + 1]? = some (.cells #[.int .i64 0, .bool false, .nilIface, .string ⟨#[]⟩] 69)
  low : Below w0.heap.size w0 w
theorem AlI.step {B Z : Nat} {w0 : World} {mode E : Int} {mk : Bool} {t : Option Nd} {tail : ByteArray} {v : Value} {ws : List UInt8} {R : List (Cn × ByteArray)} {w w' : World} (h : AlI B Z w0 mode E mk t tail v ws R w) (hb : Below w.heap.size w w') : AlI B Z w0 mode E mk t tail v ws R w' :=
  ⟨h.ld.below hb, h.wt.low hb, h.nz, h.tr.low hb, h.tabs0, h.zle, (hb.block _ (heap_lt h.rs)).trans h.rs, h.low.trans (hb.mono h.low.size)⟩
theorem AlI.tabs {B Z : Nat} {w0 : World} {mode E : Int} {mk : Bool} {t : Option Nd} {tail : ByteArray} {v : Value} {ws : List UInt8} {R : List (Cn × ByteArray)} {w : World} (h : AlI B Z w0 mode E mk t tail v ws R w) : Tabs w := h.tabs0.below h.low
theorem low_tn {Z : Nat} {w0 w w' : World} (h : Below w0.heap.size w0 w) (hz : w0.heap.size ≤ Z) (ht : Tn Z w w') : Below w0.heap.size w0 w' :=
  h.trans ⟨ht.os, ht.tape, ht.output, ht.size, fun k hk => ht.keep k (Nat.lt_of_lt_of_le hk h.size) (by omega)⟩
theorem AlI.root {B Z : Nat} {w0 : World} {mode E : Int} {mk : Bool} {t : Option Nd} {tail : ByteArray} {v : Value} {ws : List UInt8} {R : List (Cn × ByteArray)} {w : World} (h : AlI B Z w0 mode E mk t tail v ws R w) (t' : Option Nd) (R' : List (Cn × ByteArray)) (h' : TrAt w E t' R') : AlI B Z w0 mode E mk t' tail v ws R' (w.setCell ⟨Z, 4, none⟩ (trv t')) := by
  have t1 : Tn Z w (w.setCell ⟨Z, 4, none⟩ (trv t')) := (Tn.refl _ _).setCell _
  exact ⟨h.ld.set4 _, h.wt.tn t1 h.nz, h.nz, h'.tn2 h.ld.nb t1, h.tabs0, h.zle, (t1.keep _ (heap_lt h.rs) (by omega)).trans h.rs, low_tn h.low h.zle t1⟩
theorem AlI.tail {B Z : Nat} {w0 : World} {mode E : Int} {mk : Bool} {t : Option Nd} {tail : ByteArray} {v : Value} {ws : List UInt8} {R : List (Cn × ByteArray)} {w : World} (h : AlI B Z w0 mode E mk t tail v ws R w) (s : ByteArray) : AlI B Z w0 mode E mk t s v ws R (w.setCell ⟨Z, 5, none⟩ (.string s)) := by
  have t1 : Tn Z w (w.setCell ⟨Z, 5, none⟩ (.string s)) := (Tn.refl _ _).setCell _
  exact ⟨h.ld.set5 _, h.wt.tn t1 h.nz, h.nz, h.tr.tn2 h.ld.nb t1, h.tabs0, h.zle, (t1.keep _ (heap_lt h.rs) (by omega)).trans h.rs, low_tn h.low h.zle t1⟩
/-- Four cells of a block are set: the block bears them, no other turns. -/
theorem four_put {W : World} {C : Nat} {u0 u1 u2 u3 : Value} (a b c d : Value) (h0 : W.cell? ⟨C, 0, none⟩ = some u0) (h1 : W.cell? ⟨C, 1, none⟩ = some u1) (h2 : W.cell? ⟨C, 2, none⟩ = some u2) (h3 : W.cell? ⟨C, 3, none⟩ = some u3) {X : World} (hX : X = (((W.setCell ⟨C, 0, none⟩ a).setCell ⟨C, 1, none⟩ b).setCell ⟨C, 2, none⟩ c).setCell ⟨C, 3, none⟩ d) :
    X.cell? ⟨C, 0, none⟩ = some a ∧ X.cell? ⟨C, 1, none⟩ = some b ∧ X.cell? ⟨C, 2, none⟩ = some c ∧ X.cell? ⟨C, 3, none⟩ = some d ∧ Tn C W X ∧ tyAt X C = tyAt W C := by
  subst hX
  refine ⟨?_, ?_, ?_, ?_, ((((Tn.refl _ _).setCell _).setCell _).setCell _).setCell _, by rw [tyAt_set, tyAt_set, tyAt_set, tyAt_set]⟩
  · rw [sc8_ne _ _ 3 0 _ (by decide), sc8_ne _ _ 2 0 _ (by decide), sc8_ne _ _ 1 0 _ (by decide)]; exact sc8_eq _ _ 0 _ _ h0
  · rw [sc8_ne _ _ 3 1 _ (by decide), sc8_ne _ _ 2 1 _ (by decide)]; refine sc8_eq _ _ 1 _ u1 ?_; rw [sc8_ne _ _ 0 1 _ (by decide)]; exact h1
  · rw [sc8_ne _ _ 3 2 _ (by decide)]; refine sc8_eq _ _ 2 _ u2 ?_; rw [sc8_ne _ _ 1 2 _ (by decide), sc8_ne _ _ 0 2 _ (by decide)]; exact h2
  · refine sc8_eq _ _ 3 _ u3 ?_; rw [sc8_ne _ _ 2 3 _ (by decide), sc8_ne _ _ 1 3 _ (by decide), sc8_ne _ _ 0 3 _ (by decide)]; exact h3
theorem trv_some (n : Nd) : trv (some n) = .iface n.ty (.pointer (some ⟨n.blk, 0, none⟩)) := rfl

set_option maxRecDepth 100000 in
set_option maxHeartbeats 2000000 in
theorem all_any (B : Nat) (mode enc E : Int) (begun mark mk : Bool) (t : Option Nd) (tail : ByteArray) (v : Value) (ws : List UInt8) (R : List (Cn × ByteArray)) (w : World) (h0 : 0 ≤ E) (h3 : E ≤ 3) (hws : ws.length ≤ 1099511627776) (hlen : (rowB R).length + ws.length ≤ 1099511627776) (hrl : R.length ≤ 1099511627776)
    (HBG : Calls Tryd.prog 59 #[.pointer (some ⟨w.heap.size, 0, none⟩)] ((w.alloc (.cells #[.int .i64 mode, .bool begun, .int .i64 enc, .bool mark, trv t, .string tail, v] 72)).alloc (.cells #[.int .i64 0, .bool false, .nilIface, .string ⟨#[]⟩] 69)) fun e w1 => e = .returned (.tuple #[]) ∧ ∃ v', AlI B w.heap.size w mode E mk t tail v' ws R w1) :
    Calls Tryd.prog 38 #[.agg #[.int .i64 mode, .bool begun, .int .i64 enc, .bool mark, trv t, .string tail, v]] w fun e w' => ∃ n R' tail', e = .returned (.agg #[.int .i64 E, .bool mk, trv (some n), .string tail']) ∧ TrAt w' E (some n) R' ∧
      rowB R' = rowB R ++ ws.take (Vm.sizeA (Vm.atoms E ws)) ∧ rowA E R' = rowA E R ++ Vm.atoms E ws ∧ tail'.data.toList = ws.drop (Vm.sizeA (Vm.atoms E ws)) ∧ Below w.heap.size w w' := by
  have HB := hide1 HBG
  clear HBG
  go_enter Tryd.func38, Tryd.ntmps38
  go_wp2_with fail
  refine HB.out.mono ?_
  rintro e w1 ⟨rfl, v', hA⟩
  obtain ⟨p, cap, rfl, hcap⟩ := hA.wt.val
  have c0 := hA.ld.c0
  have c2 := hA.ld.c2
  have c6 := hA.ld.c6
  have hcv := wt_conv hA.wt ws.length (Nat.le_refl _)
  have HA := hide1 hA
  clear hA HB
  go_wp2_with fail
  refine (leaf_any E ⟨ws.toArray⟩ ws.length w1 HA.out.tabs (by simpa [ByteArray.size] using hws) hws h0 h3).mono ?_
  rintro e w2 ⟨Bk, A0, rfl, hpre, hsz, hor, hin, hb2⟩
  have hwl : (⟨ws.toArray⟩ : ByteArray).data.toList = ws := by simp
  obtain ⟨htr, hrb, hra⟩ := leaf_tr hpre hin
  rw [hwl] at hpre hor hrb
  have hA0 : A0 = Vm.atoms E ws := by
    rcases hor with r | ⟨x, hx, hlt⟩
    · exact r
    · have := Vm.sizeA_le hx; omega
  have H2 := hide1 (HA.out.step hb2)
  have HTR := hide1 htr
  clear hor hin hb2 HA hpre htr c0 c2 c6 hcv
  have hsle : Vm.sizeA A0 ≤ ws.length := hsz
  generalize hlf : (⟨ws.toArray⟩ : ByteArray).extract 0 (Vm.sizeA A0) = lf at *
  have c4 := H2.out.ld.c4
  have f4 := H2.out.ld.fr 4
  have hz := block_lt c4
  go_wp2_with fail
  have hba := (Below.refl w2.heap.size w2).alloc (Nat.le_refl _) (.cells #[.iface 135 (.pointer (some ⟨Bk, 0, none⟩))] 67)
  have H2b := hide1 (H2.out.step hba)
  have HTRb := hide1 (HTR.out.low hba)
  have hLb := heap_alloc_new w2 (.cells #[.iface 135 (.pointer (some ⟨Bk, 0, none⟩))] 67)
  have hLz : w.heap.size < w2.heap.size := block_lt H2.out.ld.c0
  clear H2 HTR c4 f4 hz hba
  generalize w2.alloc (.cells #[.iface 135 (.pointer (some ⟨Bk, 0, none⟩))] 67) = w2b at *
  generalize w2.heap.size = L at *
  have HJ := hide1 (joinT_any E t (some (Nd.leaf Bk (cnOf A0) lf)) R [(cnOf A0, lf)] w2b H2b.out.tr HTRb.out (by rw [hrb, List.length_take]; omega) (by simp; omega))
  refine HJ.out.mono ?_
  rintro e w3 ⟨t', R', hJ⟩
  obtain ⟨n', rfl⟩ : ∃ n', t' = some n' := Option.isSome_iff_exists.1 (hJ.som rfl)
  obtain ⟨rfl, htr3, hat, hby, _, hb3, _⟩ := hJ
  have H3 := hide1 (H2b.out.step hb3)
  have HL3 := hide1 (HTRb.out.low hb3)
  have HT3 := hide1 htr3
  have hL3 := (hb3.block L (heap_lt hLb)).trans hLb
  have hne : L ≠ w.heap.size := by omega
  clear H2b HTRb HJ htr3 hb3 hLb
  have c4 := H3.out.ld.c4
  have f4 := H3.out.ld.fr 4
  have hz := block_lt c4
  have t1 : Tn w.heap.size w3 (w3.setCell ⟨w.heap.size, 4, none⟩ (trv (some n'))) := (Tn.refl _ _).setCell _
  have hL4 := (t1.keep L (heap_lt hL3) hne).trans hL3
  have cL : (w3.setCell ⟨w.heap.size, 4, none⟩ (trv (some n'))).cell? ⟨L, 0, none⟩ = some (.iface 135 (.pointer (some ⟨Bk, 0, none⟩))) := by rw [Lib.cell_of_heap hL4]; rfl
  have H4 := hide1 (H3.out.root (some n') R' HT3.out)
  have HL4 := hide1 (HL3.out.tn2 H3.out.ld.nb t1)
  clear H3 HL3 HT3 t1
  simp only [trv_some] at cL hL4 H4 HL4 ⊢
  go_wp2_with fail
  generalize w3.setCell ⟨w.heap.size, 4, none⟩ (.iface n'.ty (.pointer (some ⟨n'.blk, 0, none⟩))) = w4 at *
  refine HL4.out.counts.mono ?_
  rintro e w5 ⟨rfl, hb5⟩
  rw [hra]
  have H5 := hide1 (H4.out.step hb5)
  clear H4 HL4 cL hL4 c4 f4 hz hL3 hb5
  subst hA0
  have c5 := H5.out.ld.c5
  have f5 := H5.out.ld.fr 5
  have hz := block_lt c5
  have fb := field_body
  simp only [cnOf, Cn.val]
  have HBY := hide1 hby
  have HAT := hide1 hat
  have HRA := hide1 hra
  have HRB := hide1 hrb
  clear hby hat hra hrb hlf
  generalize hk : Vm.sizeA (Vm.atoms E ws) = k at *
  have hkI : (k : Int) ≤ (ws.length : Int) := by omega
  have hk0 : (0 : Int) ≤ (k : Int) := by omega
  have H6 := hide1 (H5.out.tail ((⟨ws.toArray⟩ : ByteArray).extract k ws.length))
  obtain ⟨d2, d3, d4, d5⟩ := four_at H6.out.ld
  simp only [trv_some] at d4
  have HK := hide1 hk
  have hr0 : (w5.setCell ⟨w.heap.size, 5, none⟩ (.string ((⟨ws.toArray⟩ : ByteArray).extract k ws.length))).cell? ⟨w.heap.size + 1, 0, none⟩ = some (.int .i64 0) := by rw [Lib.cell_of_heap H6.out.rs]; rfl
  have hr1 : (w5.setCell ⟨w.heap.size, 5, none⟩ (.string ((⟨ws.toArray⟩ : ByteArray).extract k ws.length))).cell? ⟨w.heap.size + 1, 1, none⟩ = some (.bool false) := by rw [Lib.cell_of_heap H6.out.rs]; rfl
  have hr2 : (w5.setCell ⟨w.heap.size, 5, none⟩ (.string ((⟨ws.toArray⟩ : ByteArray).extract k ws.length))).cell? ⟨w.heap.size + 1, 2, none⟩ = some (.nilIface) := by rw [Lib.cell_of_heap H6.out.rs]; rfl
  have hr3 : (w5.setCell ⟨w.heap.size, 5, none⟩ (.string ((⟨ws.toArray⟩ : ByteArray).extract k ws.length))).cell? ⟨w.heap.size + 1, 3, none⟩ = some (.string ⟨#[]⟩) := by rw [Lib.cell_of_heap H6.out.rs]; rfl
  have hf : ∀ j, w5.frozen? ⟨w.heap.size + 1, j, none⟩ = false := fun j => Lib.frozen_of_heap H5.out.rs j
  have hz1 : w.heap.size + 1 < w5.heap.size := heap_lt H5.out.rs
  clear H5 hk
  go_wp2_with fail
  clear d2 d3 d4 d5 hf hz1 c5 f5 hz
  generalize w5.setCell ⟨w.heap.size, 5, none⟩ (.string ((⟨ws.toArray⟩ : ByteArray).extract k ws.length)) = w6 at *
  have hfp := fun X hX => four_put (W := w6) (C := w.heap.size + 1) (.int .i64 E) (.bool mk) (.iface n'.ty (.pointer (some ⟨n'.blk, 0, none⟩))) (.string ((⟨ws.toArray⟩ : ByteArray).extract k ws.length)) hr0 hr1 hr2 hr3 (X := X) hX
  have hty : tyAt w6 (w.heap.size + 1) = some 69 := by unfold tyAt; rw [H6.out.rs]
  generalize hX : (((w6.setCell ⟨w.heap.size + 1, 0, none⟩ (.int .i64 E)).setCell ⟨w.heap.size + 1, 1, none⟩ (.bool mk)).setCell ⟨w.heap.size + 1, 2, none⟩ (.iface n'.ty (.pointer (some ⟨n'.blk, 0, none⟩)))).setCell ⟨w.heap.size + 1, 3, none⟩ (.string ((⟨ws.toArray⟩ : ByteArray).extract k ws.length)) = X
  obtain ⟨q0, q1, q2, q3, htn, _⟩ := hfp X hX.symm
  clear hfp hX hr0 hr1 hr2 hr3
  have hnn : NoNd w6 (w.heap.size + 1) := by unfold NoNd; rw [hty]; exact ⟨by decide, by decide⟩
  refine bodyPost_ret (v := .agg #[.int .i64 E, .bool mk, .iface n'.ty (.pointer (some ⟨n'.blk, 0, none⟩)), .string ((⟨ws.toArray⟩ : ByteArray).extract k ws.length)]) (by simp [results, Tryd.results38, go_sem, q0, q1, q2, q3]) rfl ⟨n', R', _, rfl, H6.out.tr.tn2 hnn htn, ?_, ?_, ?_, low_tn H6.out.low (by omega) htn⟩
  · rw [HBY.out, HRB.out, HK.out]
  · rw [HAT.out, HRA.out]
  · rw [HK.out, ByteArray.data_extract, Array.toList_extract, List.extract_eq_take_drop]
    show ((ws.toArray.toList).drop k).take (ws.length - k) = _
    rw [List.toList_toArray]
    exact List.take_of_length_le (by rw [List.length_drop]; omega)
end Go.Proofs.YtjbfgnhkgjigpaaDoor

namespace Vm
theorem atomsF_ne : ∀ (S : List Sg) (h : Nat), 0 < h → atomsF h S ≠ []
  | [], h, h0 => by simp [atomsF, h0]
  | x :: r, h, h0 => by
    simp only [atomsF]
    split
    · simp
    · exact List.append_ne_nil_of_left_ne_nil (by simp) _
theorem atoms_ne (enc : Int) (l : Bytes) (h : 2 ≤ l.length) : atoms enc l ≠ [] := by
  unfold atoms signs
  obtain ⟨f, hf⟩ : ∃ f, l.length = f + 1 := ⟨l.length - 1, by omega⟩
  rw [hf]
  have hx : ∃ x, headSg enc l = some x := by
    unfold headSg
    rw [if_neg (by omega)]
    split
    · exact ⟨_, rfl⟩
    · split
      · exact ⟨_, rfl⟩
      · rw [if_neg (by omega)]; exact ⟨_, rfl⟩
  obtain ⟨x, hx⟩ := hx
  have hb : 1 ≤ x.2 := by
    rw [← rd_head] at hx
    cases hr : rd enc l with
    | none => rw [hr] at hx; cases hx
    | some y =>
      rw [hr] at hx
      cases hx
      exact (rd_bd hr).1
  unfold signsF
  rw [hx]
  simp only [atomsF, Nat.lt_irrefl, false_and, if_false, List.nil_append]
  by_cases h13 : x.1 = 13
  · rw [if_pos h13]
    exact atomsF_ne (signsF enc f (l.drop x.2)) x.2 hb
  · rw [if_neg h13]
    simp
/-- The first atoms of a long view have a byte at the least. -/
theorem sizeA_pos {enc : Int} {l : Bytes} {A0 : List At} (hl : 2 ≤ l.length) (h : A0 = atoms enc l ∨ ∃ x, A0 ++ [x] <+: atoms enc l ∧ 1000 < sizeA (A0 ++ [x])) : 1 ≤ sizeA A0 := by
  rcases h with rfl | ⟨x, hx, hs⟩
  · have h1 := atoms_ne enc l hl
    cases hA : atoms enc l with
    | nil => exact absurd hA h1
    | cons a A =>
      have := (atoms_ok enc l a (by rw [hA]; simp)).2.2.2.2.2.2
      rw [sizeA_cons]; omega
  · have := (atoms_ok enc l x (hx.subset (by simp))).2.2.2.2.2.2
    rw [sizeA_snoc] at hs
    omega
end Vm

namespace Go.Proofs.YtjbfgnhkgjigpaaDoor
open Go.RowKit

theorem hdEnc_bd (bs : List UInt8) (mode : Int) : 0 ≤ hdEnc bs mode ∧ hdEnc bs mode ≤ 3 := by
  unfold hdEnc; split
  · exact sniffTo_bd _ _ (by omega) (by omega) 3 (Nat.le_refl _)
  · omega
theorem Said.bd {mode : Int} {all : List UInt8} {enc : Int} {mark : Bool} {R : List (Cn × ByteArray)} {ws : List UInt8} (h : Said mode all enc mark R ws) : 0 ≤ enc ∧ enc ≤ 3 := by
  rw [h.enc_]; exact hdEnc_bd _ _
theorem Said.sizes {mode : Int} {all : List UInt8} {enc : Int} {mark : Bool} {R : List (Cn × ByteArray)} {ws : List UInt8} (h : Said mode all enc mark R ws) : (rowB R).length + ws.length ≤ all.length := by
  have := congrArg List.length h.bytes
  simp only [List.length_append] at this
  omega
theorem Inv.sizes {mode : Int} {all : List UInt8} {begun : Bool} {enc : Int} {mark : Bool} {t : Option Nd} {R : List (Cn × ByteArray)} {ws : List UInt8} (h : Inv mode all begun enc mark t R ws) : ws.length ≤ all.length := by
  rcases h with ⟨_, _, _, h4⟩ | ⟨_, _, h3⟩
  · rw [h4]; exact Nat.le_refl _
  · have := h3.sizes; omega
theorem Ps.below {q B : Nat} {v v' : Value} {w00 w w' : World} {ws : List UInt8} (h : Ps q v w v' w') (hw : Wt w B v ws) (hq0 : w00.heap.size ≤ q) (hB0 : w00.heap.size ≤ B) (hb0 : Below w00.heap.size w00 w) : Below w00.heap.size w00 w' :=
  hb0.trans ⟨h.os, h.tape, h.output, h.size, fun k hk => h.keep k (Nat.lt_of_lt_of_le hk hb0.size) (by omega) (fun e => by have := (hw.blk_lt e).2; omega)⟩
/-- begin on a loader, whatever it has settled. -/
theorem begin_inv (B q : Nat) (mode enc : Int) (begun mark : Bool) (t : Option Nd) (R : List (Cn × ByteArray)) (v : Value) (ws all : List UInt8) (w00 w : World) (ht : Tabs w00) (hq0 : w00.heap.size ≤ q) (hb0 : Below w00.heap.size w00 w) (h : LdS B q mode begun enc mark t R v ws w) (hi : Inv mode all begun enc mark t R ws) (hl : all.length ≤ 1099511627776) (h0 : 0 ≤ mode) (h7 : mode ≤ 7) :
    Calls Tryd.prog 59 #[.pointer (some ⟨q, 0, none⟩)] w fun e w' => ∃ enc' mark' t' R' v' ws', e = .returned (.tuple #[]) ∧ LdS B q mode true enc' mark' t' R' v' ws' w' ∧ Said mode all enc' mark' R' ws' ∧ Ps q v w v' w' := by
  have hws := hi.sizes
  rcases hi with ⟨rfl, rfl, rfl, rfl⟩ | ⟨rfl, ha, hs⟩
  · refine (begin_any B q mode enc mark none ⟨#[]⟩ v ws w00 w ht hq0 hb0 h.ld h.wt h.nq (by omega) h0 h7).mono ?_
    rintro e w' ⟨v', rfl, hld, hwt, hwb, htn⟩
    exact ⟨_, _, none, [], v', _, rfl, ⟨hld, hwt, by rw [hwb]; exact h.nq, ⟨fun n hn => (by cases hn), fun _ => rfl, fun x hx => (by cases hx)⟩⟩, said_begin mode ws, Ps.of_tn htn hwb⟩
  · refine (begin_done q mode enc mark (trv t) ⟨#[]⟩ v w h.ld).mono ?_
    rintro e w' ⟨rfl, rfl⟩
    exact ⟨_, _, t, R, v, ws, rfl, h, hs, Ps.refl _ _ _⟩

set_option maxRecDepth 100000 in
set_option maxHeartbeats 400000 in
theorem settle_short (B q : Nat) (mode enc : Int) (begun mark : Bool) (t : Option Nd) (R : List (Cn × ByteArray)) (v : Value) (ws : List UInt8) (w : World) (h : LdS B q mode begun enc mark t R v ws w) (h3 : ws.length < 3) :
    Calls Tryd.prog 58 #[.pointer (some ⟨q, 0, none⟩)] w fun e w' => e = .returned (.tuple #[]) ∧ w' = w := by
  obtain ⟨p, cap, rfl, hcap⟩ := h.wt.val
  have c6 := h.ld.c6
  have hz := block_lt c6
  have h3I : (ws.length : Int) < 3 := by omega
  clear h
  go_enter Tryd.func58, Tryd.ntmps58
  go_wp2_with fail
  refine wp_loop_rounds 1 ?_
  rw [rounds_succ]
  go_wp2_with fail
  go_returns
  exact ⟨rfl, rfl⟩

/-- A leaf of the first bytes that wait has been made; its variable lies at block L. -/
structure StI (B q : Nat) (mode enc : Int) (mark : Bool) (t : Option Nd) (R : List (Cn × ByteArray)) (v : Value) (ws : List UInt8) (wr : World) (L Bk : Nat) (A0 : List Vm.At) (wx : World) : Prop where
  ls : LdS B q mode true enc mark t R v ws wx
  cell : wx.cell? ⟨L, 0, none⟩ = some (.iface 135 (.pointer (some ⟨Bk, 0, none⟩)))
  pre : A0 <+: Vm.atoms enc (ws.take 1004)
  sz : Vm.sizeA A0 ≤ 1000
  pos : 1 ≤ Vm.sizeA A0
  tr : TrAt wx enc (some (Nd.leaf Bk (cnOf A0) ((⟨(ws.take 1004).toArray⟩ : ByteArray).extract 0 (Vm.sizeA A0)))) [(cnOf A0, (⟨(ws.take 1004).toArray⟩ : ByteArray).extract 0 (Vm.sizeA A0))]
  low : Below wr.heap.size wr wx
  le : wr.heap.size ≤ L
section
variable {B q : Nat} {mode enc : Int} {mark : Bool} {t : Option Nd} {R : List (Cn × ByteArray)} {v : Value} {ws : List UInt8} {wr w5 : World} {Bk : Nat} {A0 : List Vm.At}
theorem StI.last (h : LdS B q mode true enc mark t R v ws wr) (hlt : 1004 ≤ ws.length) (hb : Below wr.heap.size wr w5) (hpre : A0 <+: Vm.atoms enc (⟨(ws.take 1004).toArray⟩ : ByteArray).data.toList) (hsz : Vm.sizeA A0 ≤ 1000) (hor : A0 = Vm.atoms enc (⟨(ws.take 1004).toArray⟩ : ByteArray).data.toList ∨ ∃ x, A0 ++ [x] <+: Vm.atoms enc (⟨(ws.take 1004).toArray⟩ : ByteArray).data.toList ∧ 1000 < Vm.sizeA (A0 ++ [x]))
    (hin : (Nd.leaf Bk (cnOf A0) ((⟨(ws.take 1004).toArray⟩ : ByteArray).extract 0 (Vm.sizeA A0))).In w5) : StI B q mode enc mark t R v ws wr w5.heap.size Bk A0 (w5.alloc (.cells #[.iface 135 (.pointer (some ⟨Bk, 0, none⟩))] 67)) := by
  have hwl : (⟨(ws.take 1004).toArray⟩ : ByteArray).data.toList = ws.take 1004 := by simp
  have hba := (Below.refl w5.heap.size w5).alloc (Nat.le_refl _) (.cells #[.iface 135 (.pointer (some ⟨Bk, 0, none⟩))] 67)
  have hb2 := hb.trans (hba.mono hb.size)
  have htr := (leaf_tr hpre hin).1.low hba
  rw [hwl] at hpre hor
  exact ⟨h.low hb2, by rw [Lib.cell_of_heap (heap_alloc_new w5 _)]; rfl, hpre, hsz, Vm.sizeA_pos (by rw [List.length_take]; omega) hor, htr, hb2, hb.size⟩
theorem StI.first (h : LdS B q mode true enc mark t R v ws wr) (hlt : 1004 ≤ ws.length) (hb : Below wr.heap.size wr w5) (hpre : A0 <+: Vm.atoms enc (⟨(ws.take 1004).toArray⟩ : ByteArray).data.toList) (hsz : Vm.sizeA A0 ≤ 1000) (hor : A0 = Vm.atoms enc (⟨(ws.take 1004).toArray⟩ : ByteArray).data.toList ∨ ∃ x, A0 ++ [x] <+: Vm.atoms enc (⟨(ws.take 1004).toArray⟩ : ByteArray).data.toList ∧ 1000 < Vm.sizeA (A0 ++ [x]))
    (hin : (Nd.leaf Bk (cnOf A0) ((⟨(ws.take 1004).toArray⟩ : ByteArray).extract 0 (Vm.sizeA A0))).In w5) (cz : w5.cell? ⟨wr.heap.size, 0, none⟩ = some .nilIface) (hb5 : Below (wr.alloc (.cells #[.nilIface] 67)).drew.heap.size (wr.alloc (.cells #[.nilIface] 67)).drew w5) : StI B q mode enc mark t R v ws wr wr.heap.size Bk A0 (w5.setCell ⟨wr.heap.size, 0, none⟩ (.iface 135 (.pointer (some ⟨Bk, 0, none⟩)))) := by
  have hwl : (⟨(ws.take 1004).toArray⟩ : ByteArray).data.toList = ws.take 1004 := by simp
  have hb2 := hb.setCell (p := ⟨wr.heap.size, 0, none⟩) (Nat.le_refl _) (.iface 135 (.pointer (some ⟨Bk, 0, none⟩)))
  have hty : tyAt w5 wr.heap.size = some 67 := by
    rw [tyAt_low (w := (wr.alloc (.cells #[.nilIface] 67)).drew) (by simp) hb5]
    show tyAt (wr.alloc (.cells #[.nilIface] 67)) wr.heap.size = _
    unfold tyAt; rw [heap_alloc_new wr _]
  have hnn : NoNd w5 wr.heap.size := by unfold NoNd; rw [hty]; exact ⟨by decide, by decide⟩
  have htr := (leaf_tr hpre hin).1.tn2 hnn ((Tn.refl _ _).setCell (j := 0) (.iface 135 (.pointer (some ⟨Bk, 0, none⟩))))
  rw [hwl] at hpre hor
  exact ⟨h.low hb2, sc8_eq _ _ 0 _ _ cz, hpre, hsz, Vm.sizeA_pos (by rw [List.length_take]; omega) hor, htr, hb2, Nat.le_refl _⟩
theorem StI.step {L : Nat} {w w' : World} (h : StI B q mode enc mark t R v ws wr L Bk A0 w) (hb : Below w.heap.size w w') : StI B q mode enc mark t R v ws wr L Bk A0 w' :=
  ⟨h.ls.low hb, (hb.cell (p := ⟨L, 0, none⟩) (block_lt h.cell)).trans h.cell, h.pre, h.sz, h.pos, h.tr.low hb, h.low.trans (hb.mono h.low.size), h.le⟩
/-- The leaf has been joined. -/
structure StJ (B q : Nat) (mode enc : Int) (mark : Bool) (R : List (Cn × ByteArray)) (v : Value) (ws : List UInt8) (wr : World) (L Bk : Nat) (A0 : List Vm.At) (n' : Nd) (R' : List (Cn × ByteArray)) (wx : World) : Prop where
  ls : LdS B q mode true enc mark (some n') R' v ws wx
  cell : wx.cell? ⟨L, 0, none⟩ = some (.iface 135 (.pointer (some ⟨Bk, 0, none⟩)))
  tr : TrAt wx enc (some (Nd.leaf Bk (cnOf A0) ((⟨(ws.take 1004).toArray⟩ : ByteArray).extract 0 (Vm.sizeA A0)))) [(cnOf A0, (⟨(ws.take 1004).toArray⟩ : ByteArray).extract 0 (Vm.sizeA A0))]
  ea : rowA enc R' = rowA enc R ++ A0
  eb : rowB R' = rowB R ++ ws.take (Vm.sizeA A0)
  el : R'.length ≤ R.length + 1
  ps : Ps q v wr v wx
  sz : Vm.sizeA A0 ≤ 1000
  pre : A0 <+: Vm.atoms enc (ws.take 1004)
theorem StI.rows {L : Nat} {w : World} (h : StI B q mode enc mark t R v ws wr L Bk A0 w) : rowB [(cnOf A0, (⟨(ws.take 1004).toArray⟩ : ByteArray).extract 0 (Vm.sizeA A0))] = ws.take (Vm.sizeA A0) ∧ rowA enc [(cnOf A0, (⟨(ws.take 1004).toArray⟩ : ByteArray).extract 0 (Vm.sizeA A0))] = A0 := by
  have hwl : (⟨(ws.take 1004).toArray⟩ : ByteArray).data.toList = ws.take 1004 := by simp
  have hp := h.pre
  rw [← hwl] at hp
  obtain ⟨_, h2, h3⟩ := leaf_tr hp (h.tr.inn _ rfl).1
  refine ⟨?_, h3⟩
  rw [h2, hwl, List.take_take, Nat.min_eq_left (by have := h.sz; omega)]
theorem StI.joined {L : Nat} {w : World} (h : StI B q mode enc mark t R v ws wr L Bk A0 w) (hq : q < wr.heap.size) {n' : Nd} {R' : List (Cn × ByteArray)} (htr : TrAt w enc (some n') R') (hat : rowA enc R' = rowA enc R ++ rowA enc [(cnOf A0, (⟨(ws.take 1004).toArray⟩ : ByteArray).extract 0 (Vm.sizeA A0))]) (hby : rowB R' = rowB R ++ rowB [(cnOf A0, (⟨(ws.take 1004).toArray⟩ : ByteArray).extract 0 (Vm.sizeA A0))]) (hlen : R'.length ≤ R.length + [(cnOf A0, (⟨(ws.take 1004).toArray⟩ : ByteArray).extract 0 (Vm.sizeA A0))].length) :
    StJ B q mode enc mark R v ws wr L Bk A0 n' R' (w.setCell ⟨q, 4, none⟩ (.iface n'.ty (.pointer (some ⟨n'.blk, 0, none⟩)))) := by
  have t1 : Tn q w (w.setCell ⟨q, 4, none⟩ (trv (some n'))) := (Tn.refl _ _).setCell _
  have hL : L ≠ q := by have := h.le; omega
  refine ⟨h.ls.root (some n') R' htr, ?_, h.tr.tn2 h.ls.ld.nb t1, by rw [hat, h.rows.2], by rw [hby, h.rows.1], hlen, ((Ps.of_low (q := q) (v := v) h.low rfl).trans (Ps.of_tn t1 rfl)), h.sz, h.pre⟩
  exact (World.cell?_of_block (w := w) (t1.keep L (block_lt h.cell) hL)).trans h.cell
theorem StJ.step {L : Nat} {n' : Nd} {R' : List (Cn × ByteArray)} {w w' : World} (h : StJ B q mode enc mark R v ws wr L Bk A0 n' R' w) (hb : Below w.heap.size w w') : StJ B q mode enc mark R v ws wr L Bk A0 n' R' w' :=
  ⟨h.ls.low hb, (hb.cell (p := ⟨L, 0, none⟩) (block_lt h.cell)).trans h.cell, h.tr.low hb, h.ea, h.eb, h.el, h.ps.trans (Ps.of_low hb rfl), h.sz, h.pre⟩
theorem StJ.le {L : Nat} {n' : Nd} {R' : List (Cn × ByteArray)} {w : World} (h : StJ B q mode enc mark R v ws wr L Bk A0 n' R' w) (hlt : 1004 ≤ ws.length) : Vm.sizeA A0 ≤ ws.length := by have := h.sz; omega
theorem StJ.counts {L : Nat} {n' : Nd} {R' : List (Cn × ByteArray)} {w : World} (h : StJ B q mode enc mark R v ws wr L Bk A0 n' R' w) :
    Calls Tryd.prog 41 #[.agg #[.iface 135 (.pointer (some ⟨Bk, 0, none⟩))]] w fun e w' => e = .returned (cnOf A0).val ∧ Below w.heap.size w w' := by
  have hwl : (⟨(ws.take 1004).toArray⟩ : ByteArray).data.toList = ws.take 1004 := by simp
  have hp := h.pre
  rw [← hwl] at hp
  have h1 := h.tr.counts
  rw [(leaf_tr hp (h.tr.inn _ rfl).1).2.2] at h1
  exact h1
/-- What is left has moved to the front. -/
structure StK (B q : Nat) (mode enc : Int) (mark : Bool) (v : Value) (ws : List UInt8) (wr : World) (n' : Nd) (R' : List (Cn × ByteArray)) (v' : Value) (ws' : List UInt8) (w8 wx : World) : Prop where
  ls : LdS B q mode true enc mark (some n') R' v ws w8
  ps : Ps q v wr v w8
  wt : Wt wx B v' ws'
  st : WtStep v w8 wx
theorem StK.cells {n' : Nd} {R' : List (Cn × ByteArray)} {v' : Value} {ws' : List UInt8} {w8 wx : World} (h : StK B q mode enc mark v ws wr n' R' v' ws' w8 wx) : LdC wx q mode true enc mark (trv (some n')) ⟨#[]⟩ v := h.ls.ld.wtstep h.st h.ls.nq
theorem StK.done {n' : Nd} {R' : List (Cn × ByteArray)} {v' : Value} {ws' : List UInt8} {w8 wx : World} (h : StK B q mode enc mark v ws wr n' R' v' ws' w8 wx) (hv : wblk v' = wblk v) : LdS B q mode true enc mark (some n') R' v' ws' (wx.setCell ⟨q, 6, none⟩ v') ∧ Ps q v wr v' (wx.setCell ⟨q, 6, none⟩ v') := by
  refine ⟨h.ls.wait v' ws' h.wt h.st (.inl hv), h.ps.trans ((Ps.of_wt h.st (.inl rfl)).trans (Ps.of_tn ?_ hv))⟩
  exact (Tn.refl _ _).setCell _
end
theorem wblk_slice (p : Option Addr) (n cap n' cap' : Nat) : wblk (.slice p n cap) = wblk (.slice p n' cap') := by cases p <;> rfl

set_option maxRecDepth 100000 in
set_option maxHeartbeats 2000000 in
theorem settle_any (B q : Nat) (mode enc : Int) (begun mark : Bool) (t : Option Nd) (R : List (Cn × ByteArray)) (v : Value) (ws all : List UInt8) (w00 w : World) (ht : Tabs w00) (hq0 : w00.heap.size ≤ q) (hB0 : w00.heap.size ≤ B) (hb0 : Below w00.heap.size w00 w) (h : LdS B q mode begun enc mark t R v ws w) (hi : Inv mode all begun enc mark t R ws) (hl : all.length ≤ 1099511627776) (h0 : 0 ≤ mode) (h7 : mode ≤ 7) :
    Calls Tryd.prog 58 #[.pointer (some ⟨q, 0, none⟩)] w fun e w' => ∃ begun' enc' mark' t' R' v' ws', e = .returned (.tuple #[]) ∧ LdS B q mode begun' enc' mark' t' R' v' ws' w' ∧ Inv mode all begun' enc' mark' t' R' ws' ∧ Ps q v w v' w' := by
  by_cases h3 : ws.length < 3
  · refine (settle_short B q mode enc begun mark t R v ws w h h3).mono ?_
    rintro e w' ⟨rfl, rfl⟩
    exact ⟨_, _, _, t, R, v, ws, rfl, h, hi, Ps.refl _ _ _⟩
  · have HBG := hide1 (begin_inv B q mode enc begun mark t R v ws all w00 w ht hq0 hb0 h hi hl h0 h7)
    have ha3 : 3 ≤ all.length := by have := hi.sizes; omega
    have hP := fun v' w' (hp : Ps q v w v' w') => hp.below h.wt hq0 hB0 hb0
    have HP := hide1 hP
    have HT := hide1 ht
    obtain ⟨p, cap, rfl, hcap⟩ := h.wt.val
    have c6 := h.ld.c6
    have hz := block_lt c6
    have h3I : ¬ (ws.length : Int) < 3 := by omega
    clear h hi ht hb0 hP
    go_enter Tryd.func58, Tryd.ntmps58
    go_wp2_with fail
    refine HBG.out.mono ?_
    rintro e w1 ⟨enc1, mark1, t1, R1, v1, ws1, rfl, hL1, hS1, hP1⟩
    have bd := hS1.bd
    clear c6 hz
    go_wp2_with fail
    go_loopg [] ws1.length (fun k wx => ∃ t2 R2 v2 ws2, k = ws2.length ∧ LdS B q mode true enc1 mark1 t2 R2 v2 ws2 wx ∧ Said mode all enc1 mark1 R2 ws2 ∧ Ps q (.slice p ws.length cap) w v2 wx)
    case atStart => exact ⟨t1, R1, v1, ws1, rfl, hL1, hS1, hP1⟩
    case round =>
      clear hL1 hS1 hP1 HBG
      obtain ⟨t2, R2, v2, ws2, rfl, hL2, hS2, hP2⟩ := hrel
      obtain ⟨p2, cap2, rfl, hcap2⟩ := hL2.wt.val
      have hsz := hS2.sizes
      have hrl := hS2.len
      have c2 := hL2.ld.c2
      have c6 := hL2.ld.c6
      have hz := block_lt c2
      by_cases hlt : 1004 ≤ ws2.length
      · have hltI : (1004 : Int) ≤ (ws2.length : Int) := by omega
        have hpre : ∀ W, (Instr.slice 70 (.slice p2 ws2.length cap2) none (some (.int .i64 1004)) none).run Tryd.prog W = .ok (.slice p2 1004 cap2) W := fun W => wt_pre hL2.wt 1004 hlt W
        have hcp : (1004 : Int) ≤ (cap2 : Int) := by omega
        have hcp' : 1004 ≤ cap2 := by omega
        have hcv := wt_conv hL2.wt 1004 hlt
        have HQ0 := hide1 (show q < wr.heap.size from block_lt hL2.ld.c0)
        have HRW := hide1 (fun k (hk : wblk (.slice p2 ws2.length cap2) = some k) => (hL2.wt.blk_lt hk).1)
        have H2 := hide1 hL2
        have S2 := hide1 hS2
        have P2 := hide1 hP2
        have T2 := hide1 (HT.out.below (HP.out _ _ hP2))
        clear hL2 hS2 hP2
        have hcd := wt_conv (H2.out.low ((Below.refl _ _).drew)).wt 1004 hlt
        have hca := wt_conv (H2.out.low (((Below.refl _ _).alloc (Nat.le_refl _) (.cells #[.nilIface] 67)).drew)).wt 1004 hlt
        have HLF := hide1 (fun W (h : Tabs W) => leaf_any enc1 ⟨(ws2.take 1004).toArray⟩ 1000 W h (by simp [ByteArray.size]; omega) (by decide) bd.1 bd.2)
        go_wp2_with fail
        go_cut [2] from 18 to 29 (fun s2 wx => ∃ L Bk A0, s2 = .pointer (some ⟨L, 0, none⟩) ∧ StI B q mode enc1 mark1 t2 R2 (.slice p2 ws2.length cap2) ws2 wr L Bk A0 wx)
        case first =>
          have hwz : (wr.alloc (.cells #[.nilIface] 67)).drew.cell? ⟨wr.heap.size, 0, none⟩ = some .nilIface := by show (wr.alloc (.cells #[.nilIface] 67)).cell? ⟨wr.heap.size, 0, none⟩ = _; rw [Lib.cell_of_heap (heap_alloc_new wr _)]; rfl
          have hwf : (wr.alloc (.cells #[.nilIface] 67)).drew.frozen? ⟨wr.heap.size, 0, none⟩ = false := Lib.frozen_of_heap (heap_alloc_new wr _) 0
          have HSS := hide1 (fun X (hX : Below wr.heap.size wr X) => (⟨(H2.out.low hX).ld.c2, (H2.out.low hX).ld.c6, wt_conv (H2.out.low hX).wt 1004 hlt⟩ : X.cell? ⟨q, 2, none⟩ = some (.int .i64 enc1) ∧ X.cell? ⟨q, 6, none⟩ = some (.slice p2 ws2.length cap2) ∧ (convert 70 9 (.slice p2 1004 cap2)).run Tryd.prog X = .ok (.string ⟨(ws2.take 1004).toArray⟩) X))
          have hSd := HSS.out _ ((Below.refl _ _).drew)
          have hSa := HSS.out _ (((Below.refl _ _).alloc (Nat.le_refl _) (.cells #[.nilIface] 67)).drew)
          go_region_held3 (fun w' => w'.cell? ⟨q, 2, none⟩ = some (.int .i64 enc1) ∧ w'.cell? ⟨q, 6, none⟩ = some (.slice p2 ws2.length cap2) ∧ (convert 70 9 (.slice p2 1004 cap2)).run Tryd.prog w' = .ok (.string ⟨(ws2.take 1004).toArray⟩) w')
            (first | assumption | exact HSS.out _ (hb15.alloc hb15.size _) | exact HSS.out _ (hb15.setCell (Nat.le_refl _) _))
            (first | (go_at_call 60; refine (HLF.out _ (by first | exact T2.out.below ((Below.refl _ _).drew) | exact T2.out.below (((Below.refl _ _).alloc (Nat.le_refl _) _).drew))).mono ?_; rintro e w5 ⟨Bk, A0, rfl, hpre5, hsz5, hor5, hin5, hb5⟩; have hb15 : Below wr.heap.size wr w5 := (by first | exact ((Below.refl _ _).drew).trans hb5 | exact ((Below.refl _ _).alloc (Nat.le_refl _) _).drew.trans (hb5.mono (by simp))); have hS5 := HSS.out _ hb15; try have cz : w5.cell? ⟨wr.heap.size, 0, none⟩ = some .nilIface := (hb5.cell (p := ⟨wr.heap.size, 0, none⟩) (by simp)).trans hwz; try have fz : w5.frozen? ⟨wr.heap.size, 0, none⟩ = false := (hb5.frozen (p := ⟨wr.heap.size, 0, none⟩) (by simp)).trans hwf; try have zz : wr.heap.size < w5.heap.size := Nat.lt_of_lt_of_le (by simp) hb5.size))
          · go_wp2_with fail
            go_meet
            exact ⟨_, Bk, A0, rfl, StI.last H2.out hlt hb15 hpre5 hsz5 hor5 hin5⟩
          · go_wp2_with fail
            go_meet
            exact ⟨_, Bk, A0, rfl, StI.first H2.out hlt hb15 hpre5 hsz5 hor5 hin5 cz hb5⟩
        case rest =>
          obtain ⟨L, Bk, A0, rfl, hst⟩ := hcut
          have I3 := hide1 hst
          clear hst H2 T2 hpre hcv hcd hca HLF c2 c6 hz
          have c4 := I3.out.ls.ld.c4
          have cL := I3.out.cell
          have hz := block_lt c4
          have hzL := block_lt cL
          have HQ := hide1 (show q < wr.heap.size from HQ0.out)
          have HJ := hide1 (fun W (hb : Below wc.heap.size wc W) => joinT_any enc1 t2 (some (Nd.leaf Bk (cnOf A0) ((⟨(ws2.take 1004).toArray⟩ : ByteArray).extract 0 (Vm.sizeA A0)))) R2 [(cnOf A0, (⟨(ws2.take 1004).toArray⟩ : ByteArray).extract 0 (Vm.sizeA A0))] W (I3.out.ls.tr.low hb) (I3.out.tr.low hb) (by rw [I3.out.rows.1, List.length_take]; omega) (by simp; omega))
          go_wp2_with fail
          go_cut [2] from 30 to 40 (fun s2 wx => ∃ n' R', s2 = .pointer (some ⟨L, 0, none⟩) ∧ StJ B q mode enc1 mark1 R2 (.slice p2 ws2.length cap2) ws2 wr L Bk A0 n' R' wx)
          case first =>
            go_region_with (go_at_call 61; refine (HJ.out _ ((Below.refl _ _).drew)).mono ?_; rintro e w6 ⟨t', R', hJ⟩; obtain ⟨n', rfl⟩ : ∃ n', t' = some n' := Option.isSome_iff_exists.1 (hJ.som rfl); obtain ⟨rfl, htr6, hat6, hby6, hlen6, hb6, _⟩ := hJ; simp only [trv_some]; have I6 := hide1 (I3.out.step (((Below.refl _ _).drew).trans hb6)); have d4 := I6.out.ls.ld.c4; have e4 := I6.out.ls.ld.fr 4; have z6 := block_lt d4)
            all_goals
              go_wp2_with fail
              go_meet
              exact ⟨n', R', rfl, I6.out.joined HQ.out htr6 hat6 hby6 hlen6⟩
          case rest =>
            obtain ⟨n', R', rfl, hst⟩ := hcut
            have hpos := I3.out.pos
            have hLR : wblk (.slice p2 ws2.length cap2) ≠ some L := fun e => by have h1 := HRW.out _ e; have h2 := I3.out.le; omega
            rename World => w7
            have I7 := hide1 hst
            clear hst I3 HJ c4 cL hz hzL
            have hkl := I7.out.le hlt
            generalize hk : Vm.sizeA A0 = k at hkl hpos
            have HK := hide1 hk
            obtain ⟨p', hsl, hwt', hwb⟩ := wt_suf I7.out.ls.wt k hkl
            have hpr2 := fun W => wt_pre I7.out.ls.wt (ws2.length - k) (by omega) W
            have HSS := hide1 (fun X (hX : Below w7.heap.size w7 X) => (⟨(I7.out.step hX).ls.ld.c6, (I7.out.step hX).cell⟩ : X.cell? ⟨q, 6, none⟩ = some (.slice p2 ws2.length cap2) ∧ X.cell? ⟨L, 0, none⟩ = some (.iface 135 (.pointer (some ⟨Bk, 0, none⟩)))))
            have hS0 := HSS.out _ (Below.refl _ _)
            have hSd := HSS.out _ ((Below.refl _ _).drew)
            have HW7 := hide1 hwt'
            have HC := hide1 (fun W (hb : Below w7.heap.size w7 W) => (I7.out.step hb).counts)
            simp only [cnOf, Cn.val, hk] at HC
            have fb := field_body
            clear hk hwb hwt'
            obtain ⟨c6, cL⟩ := id hS0
            have hz := block_lt c6
            have hzL := block_lt cL
            go_wp2_with fail
            go_cut [3] from 41 to 53 (fun s3 wx => ∃ w8, s3 = .int .i64 ((ws2.length - k : Nat) : Int) ∧ StK B q mode enc1 mark1 (.slice p2 ws2.length cap2) ws2 wr n' R' (.slice p2 (ws2.length - k) cap2) (ws2.drop k) w8 wx)
            case first =>
              go_region_held3 (fun w' => w'.cell? ⟨q, 6, none⟩ = some (.slice p2 ws2.length cap2) ∧ w'.cell? ⟨L, 0, none⟩ = some (.iface 135 (.pointer (some ⟨Bk, 0, none⟩))))
                (first | assumption)
                (first | (go_at_call 41; refine (HC.out _ ((Below.refl _ _).drew)).mono ?_; rintro e w8 ⟨rfl, hb8⟩; have hb18 : Below w7.heap.size w7 w8 := ((Below.refl _ _).drew).trans hb8; have hS8 := HSS.out _ hb18; have I8 := hide1 (I7.out.step hb18); obtain ⟨w9, hcr, hwt9, hst9⟩ := wt_copy 3 I8.out.ls.wt k hkl (HW7.out.low hb18) (by omega); have hS9 : w9.cell? ⟨q, 6, none⟩ = some (.slice p2 ws2.length cap2) ∧ w9.cell? ⟨L, 0, none⟩ = some (.iface 135 (.pointer (some ⟨Bk, 0, none⟩))) := ⟨(I8.out.ls.ld.wtstep hst9 I8.out.ls.nq).c6, (World.cell?_of_block (w := w8) (hst9.keep L (block_lt I8.out.cell) hLR)).trans I8.out.cell⟩))
              all_goals
                go_wp2_with fail
                go_meet
                exact ⟨w8, rfl, I8.out.ls, I8.out.ps, hwt9, hst9⟩
            case rest =>
              obtain ⟨w8, rfl, hst⟩ := hcut
              have d6 := hst.cells.c6
              have e6 := hst.cells.fr 6
              have hz9 := block_lt d6
              have J9 := hide1 (hst.done (wblk_slice _ _ _ _ _))
              have JS := hide1 (S2.out.leaf rfl hlt I7.out.pre I7.out.sz (by rw [HK.out]; exact hpos) I7.out.eb I7.out.ea I7.out.el)
              clear hst HC HSS hS0 hSd HW7 hsl c6 cL hz hzL fb
              go_wp2_with fail
              go_roundg (ws2.length - k)
              case measure => omega
              case rel =>
                have hpp := P2.out.trans J9.out.2
                have hs := JS.out
                rw [HK.out] at hs
                exact ⟨some n', R', _, ws2.drop k, by rw [List.length_drop], J9.out.1, hs, hpp⟩
      · have hltI : (ws2.length : Int) < 1004 := by omega
        go_wp2_with fail
        go_returns
        exact ⟨_, _, _, t2, R2, _, ws2, rfl, hL2, .inr ⟨rfl, ha3, hS2⟩, hP2⟩
end Go.Proofs.YtjbfgnhkgjigpaaDoor

namespace Go.Proofs.YtjbfgnhkgjigpaaDoor
open Go.RowKit

/-- append by its equation, as one step of a region that draws. -/
theorem step_append_run {P : Program} {ops : Array Oper} {o : Oper} {a : Act} {w : World} {K : Act → World → Prop} {Q : Exit → Act → World → Prop} {E : Prop}
    (hg : o.guard = none) (s x : Operand) (t1 t2 : TypeId) (hop : o.op = Op.call { callee := Callee.builtin Builtin.append, args := #[s, x], argTypes := #[t1, t2] })
    (u1 u2 : Value) (hs : a.eval s = u1) (hx : a.eval x = u2) (v : Value) (w' : World) (hrun : (Builtin.append_ #[t1, t2] o.type #[u1, u2]).run P w = .ok v w') (hK : K (a.put o.dst v) w') :
    if Region.wanted o (yielded ops a.tmps) = true then Oper.wp P o a w K Q else E := by
  have hw : Region.wanted o (yielded ops a.tmps) = true := by simp [Region.wanted, hg]
  rw [if_pos hw]
  unfold Oper.wp
  simp [execOp, hop, resolve, invoke, builtin, hs, hx, hrun, Result.andThen]
  exact hK
/-- Behind some of the bytes. -/
structure TkI (B q : Nat) (mode : Int) (all : List UInt8) (b : ByteArray) (v0 : Value) (w0 : World) (begun : Bool) (enc : Int) (mark : Bool) (t : Option Nd) (R : List (Cn × ByteArray)) (v : Value) (ws : List UInt8) (r : ByteArray) (w : World) : Prop where
  ls : LdS B q mode begun enc mark t R v ws w
  inv : ∃ done, done ++ r.data.toList = b.data.toList ∧ Inv mode (all ++ done) begun enc mark t R ws
  ps : Ps q v0 w0 v w

set_option maxRecDepth 100000 in
set_option maxHeartbeats 2000000 in
theorem take_any (B q : Nat) (mode enc : Int) (begun mark : Bool) (t : Option Nd) (R : List (Cn × ByteArray)) (v : Value) (ws all : List UInt8) (b : ByteArray) (w00 w : World) (ht : Tabs w00) (hq0 : w00.heap.size ≤ q) (hB0 : w00.heap.size ≤ B) (hBw : B ≤ w.heap.size) (hb0 : Below w00.heap.size w00 w) (h : LdS B q mode begun enc mark t R v ws w) (hi : Inv mode all begun enc mark t R ws) (hl : all.length + b.size ≤ 1099511627776) (h0 : 0 ≤ mode) (h7 : mode ≤ 7) :
    Calls Tryd.prog 37 #[.pointer (some ⟨q, 0, none⟩), .string b] w fun e w' => ∃ begun' enc' mark' t' R' v' ws', e = .returned (.tuple #[]) ∧ LdS B q mode begun' enc' mark' t' R' v' ws' w' ∧ Inv mode (all ++ b.data.toList) begun' enc' mark' t' R' ws' ∧ Ps q v w v' w' := by
  have HP := hide1 (fun v' w' (hp : Ps q v w v' w') => hp.below h.wt hq0 hB0 hb0)
  have hT0 : TkI B q mode all b v w begun enc mark t R v ws b w := ⟨h, ⟨[], rfl, by rw [List.append_nil]; exact hi⟩, Ps.refl _ _ _⟩
  have HT0 := hide1 hT0
  have HT := hide1 ht
  clear h hi ht hb0 hT0
  go_enter Tryd.func37, Tryd.ntmps37
  go_wp2_with fail
  go_loopg [1] b.size (fun k s1 wx => ∃ begun2 enc2 mark2 t2 R2 v2 ws2 r, s1 = .string r ∧ k = r.size ∧ TkI B q mode all b v w begun2 enc2 mark2 t2 R2 v2 ws2 r wx)
  case atStart => exact ⟨begun, enc, mark, t, R, v, ws, b, rfl, rfl, HT0.out⟩
  case round =>
    clear HT0
    obtain ⟨begun2, enc2, mark2, t2, R2, v2, ws2, r, rfl, rfl, hI⟩ := hrel
    obtain ⟨p2, cap2, rfl, hcap2⟩ := hI.ls.wt.val
    have c6 := hI.ls.ld.c6
    have hz := block_lt c6
    have I2 := hide1 hI
    clear hI
    by_cases hr : r.size = 0
    · obtain rfl : r = ⟨#[]⟩ := by
        cases r with | mk a => congr; exact Array.eq_empty_of_size_eq_zero hr
      go_wp2_with fail
      go_returns
      obtain ⟨done, hd, hv⟩ := I2.out.inv
      have hd2 : done = b.data.toList := by simpa using hd
      subst hd2
      exact ⟨_, _, _, _, _, _, _, rfl, I2.out.ls, hv, I2.out.ps⟩
    · have hre : r.toList.isEmpty = false := by
        cases hc : r.toList.isEmpty with
        | false => rfl
        | true =>
          rw [ByteArray.toList_eq, List.isEmpty_iff] at hc
          have : r.data.toList.length = r.size := rfl
          rw [hc] at this
          exact absurd this.symm hr
      have hsz : r.size ≤ b.size := by
        obtain ⟨done, hd, _⟩ := I2.out.inv
        have := congrArg List.length hd
        rw [List.length_append] at this
        have e1 : r.data.toList.length = r.size := rfl
        have e2 : b.data.toList.length = b.size := rfl
        omega
      have hwl : ws2.length + r.size ≤ 1099511627776 := by
        obtain ⟨done, hd, hv⟩ := I2.out.inv
        have h1 := hv.sizes
        have h2 := congrArg List.length hd
        rw [List.length_append] at h1 h2
        have e1 : r.data.toList.length = r.size := rfl
        have e2 : b.data.toList.length = b.size := rfl
        omega
      obtain ⟨n, hn⟩ : ∃ n, n = min r.size 1000 := ⟨_, rfl⟩
      have hmn : min (r.size : Int) 1000 = (n : Int) := by omega
      have hmn' : min (1000 : Int) (r.size : Int) = (n : Int) := by omega
      have hn0 : (0 : Int) ≤ (n : Int) := by omega
      have hn1 : (n : Int) ≤ (r.size : Int) := by omega
      have hn2 : n ≤ r.size := by omega
      have hn3 : 1 ≤ n := by omega
      have hes : (r.extract 0 n).size = n := by simp [ByteArray.size_extract]; omega
      clear hn
      obtain ⟨v3, w3, hap, hwt3, hst3, hvb3⟩ := wt_append 70 B (.slice p2 ws2.length cap2) ws2 (r.extract 0 n) wr.drew (I2.out.ls.low ((Below.refl _ _).drew)).wt (by rw [hes]; omega) (Nat.le_trans hBw I2.out.ps.size)
      obtain ⟨p3, cap3, rfl, hcap3⟩ := hwt3.val
      have hel : (r.extract 0 n).data.toList = r.data.toList.take n := by
        rw [ByteArray.data_extract, Array.toList_extract, List.extract_eq_take_drop, List.drop_zero, Nat.sub_zero]
      have her : (r.extract n r.size).data.toList = r.data.toList.drop n := by
        rw [ByteArray.data_extract, Array.toList_extract, List.extract_eq_take_drop]
        exact List.take_of_length_le (by rw [List.length_drop]; exact Nat.le_refl _)
      have hers : (r.extract n r.size).size = r.size - n := by
        have : (r.extract n r.size).data.toList.length = (r.extract n r.size).size := rfl
        rw [← this, her, List.length_drop]; rfl
      have hrl : r.data.toList.length = r.size := rfl
      have hlen : (ws2 ++ (r.extract 0 n).data.toList).length = ws2.length + n := by
        rw [List.length_append, hel, List.length_take]; omega
      rw [hlen] at hap hwt3 hvb3
      clear hcap3 hlen
      have HWT3 := hide1 hwt3
      have HST3 := hide1 hst3
      have HVB3 := hide1 hvb3
      have d6 := ((I2.out.ls.low ((Below.refl _ _).drew)).ld.wtstep hst3 I2.out.ls.nq).c6
      have e6 := ((I2.out.ls.low ((Below.refl _ _).drew)).ld.wtstep hst3 I2.out.ls.nq).fr 6
      have z3 := block_lt d6
      go_wp2_with fail
      go_region_law (refine step_append_run rfl _ _ _ _ rfl _ _ rfl rfl _ _ hap ?_)
      have H4 := hide1 ((I2.out.ls.low ((Below.refl _ _).drew)).wait _ _ HWT3.out HST3.out HVB3.out)
      have P4 := hide1 (I2.out.ps.trans ((Ps.of_low (v' := .slice p2 ws2.length cap2) ((Below.refl _ _).drew) rfl).trans ((Ps.of_wt HST3.out HVB3.out).trans (Ps.of_tn ((Tn.refl _ _).setCell (j := 6) (.slice p3 (ws2.length + n) cap3)) rfl))))
      clear hst3 hwt3 hvb3 hap d6 e6 z3 c6 hz HWT3 HST3 HVB3
      go_wp2_with fail
      generalize w3.setCell ⟨q, 6, none⟩ (.slice p3 (ws2.length + n) cap3) = w4 at *
      obtain ⟨done, hd, hv⟩ := I2.out.inv
      have hdl := congrArg List.length hd
      have hbl : b.data.toList.length = b.size := rfl
      rw [List.length_append] at hdl
      refine (settle_any B q mode enc2 begun2 mark2 t2 R2 _ _ ((all ++ done) ++ (r.extract 0 n).data.toList) w00 w4 HT.out hq0 hB0 (HP.out _ _ P4.out) H4.out (hv.more _) (by rw [List.length_append, List.length_append, hel, List.length_take]; omega) h0 h7).mono ?_
      rintro e w5 ⟨begun5, enc5, mark5, t5, R5, v5, ws5, rfl, hL5, hI5, hP5⟩
      go_wp2_with fail
      go_roundg (r.size - n)
      case measure => omega
      case rel =>
        refine ⟨begun5, enc5, mark5, t5, R5, v5, ws5, r.extract n r.size, rfl, hers.symm, hL5, ⟨done ++ r.data.toList.take n, ?_, ?_⟩, P4.out.trans hP5⟩
        · rw [her, List.append_assoc, List.take_append_drop, hd]
        · rw [← hel, ← List.append_assoc]; exact hI5

theorem push_any (B q : Nat) (mode enc : Int) (begun mark : Bool) (t : Option Nd) (R : List (Cn × ByteArray)) (v : Value) (ws all : List UInt8) (b : ByteArray) (w00 w : World) (ht : Tabs w00) (hq0 : w00.heap.size ≤ q) (hB0 : w00.heap.size ≤ B) (hBw : B ≤ w.heap.size) (hb0 : Below w00.heap.size w00 w) (h : LdS B q mode begun enc mark t R v ws w) (hi : Inv mode all begun enc mark t R ws) (hl : all.length + b.size ≤ 1099511627776) (h0 : 0 ≤ mode) (h7 : mode ≤ 7) :
    Calls Tryd.prog 14 #[.pointer (some ⟨q, 0, none⟩), .string b] w fun e w' => ∃ begun' enc' mark' t' R' v' ws', e = .returned (.tuple #[]) ∧ LdS B q mode begun' enc' mark' t' R' v' ws' w' ∧ Inv mode (all ++ b.data.toList) begun' enc' mark' t' R' ws' ∧ Ps q v w v' w' := by
  have HT := hide1 (take_any B q mode enc begun mark t R v ws all b w00 w ht hq0 hB0 hBw hb0 h hi hl h0 h7)
  have hz := block_lt h.ld.c0
  clear h hi ht hb0
  go_enter Tryd.func14, Tryd.ntmps14
  go_wp2_with fail
  refine HT.out.mono ?_
  rintro e w5 ⟨begun5, enc5, mark5, t5, R5, v5, ws5, rfl, hL5, hI5, hP5⟩
  go_wp2_with fail
  go_returns
  exact ⟨_, _, _, _, _, _, _, rfl, hL5, hI5, hP5⟩
end Go.Proofs.YtjbfgnhkgjigpaaDoor
