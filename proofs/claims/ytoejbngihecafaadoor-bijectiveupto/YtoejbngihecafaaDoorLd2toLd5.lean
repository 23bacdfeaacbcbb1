import Derived.Test.YtoejbngihecafaaDoorLd1
namespace Go.Proofs.YtoejbngihecafaaDoor
open Go.RowKit

set_option maxHeartbeats 400000 in
theorem isMode_any (mode : Int) (w : World) :
    Calls Tryd.prog 36 #[.int .i64 mode] w fun e w' => e = .returned (.bool (decide (0 ≤ mode ∧ mode ≤ 7))) ∧ w' = w := by
  by_cases h : 0 ≤ mode
  · by_cases h7 : mode < 8
    · have hd : decide (0 ≤ mode ∧ mode ≤ 7) = true := by simp; omega
      rw [hd]
      go_enter Tryd.func36, Tryd.ntmps36
      go_wp2
      go_ret
      exact ⟨rfl, rfl⟩
    · have hd : decide (0 ≤ mode ∧ mode ≤ 7) = false := by simp; omega
      rw [hd]
      go_enter Tryd.func36, Tryd.ntmps36
      go_wp2
      go_ret
      exact ⟨rfl, rfl⟩
  · have hd : decide (0 ≤ mode ∧ mode ≤ 7) = false := by simp; omega
    rw [hd]
    go_enter Tryd.func36, Tryd.ntmps36
    go_wp2
    go_ret
    exact ⟨rfl, rfl⟩
set_option maxRecDepth 100000 in
set_option maxHeartbeats 400000 in
theorem begin_no (mode : Int) (w : World) (h : mode < 0 ∨ 7 < mode) :
    Calls Tryd.prog 12 #[.int .i64 mode] w fun e w' => e = .returned (.tuple #[.pointer none, .int .i64 1]) ∧ w' = w := by
  have HI := hide1 (fun W => isMode_any mode W)
  rw [show decide (0 ≤ mode ∧ mode ≤ 7) = false by simp; omega] at HI
  clear h
  go_enter Tryd.func12, Tryd.ntmps12
  go_wp2_with (go_at_call 36; refine (HI.out _).mono ?_; rintro e w' ⟨rfl, rfl⟩)
  go_ret2
  exact ⟨rfl, rfl⟩
set_option maxRecDepth 100000 in
set_option maxHeartbeats 400000 in
theorem begin_ok (mode : Int) (w : World) (h1 : 0 ≤ mode) (h2 : mode ≤ 7) :
    Calls Tryd.prog 12 #[.int .i64 mode] w fun e w' => e = .returned (.tuple #[.pointer (some ⟨w.heap.size, 0, none⟩), .int .i64 0]) ∧ w' = w.alloc (.cells #[.int .i64 mode, .bool false, .int .i64 0, .bool false, .nilIface, .string ⟨#[]⟩, .slice none 0 0] 74) := by
  have HI := hide1 (fun W => isMode_any mode W)
  rw [show decide (0 ≤ mode ∧ mode ≤ 7) = true by simp; omega] at HI
  go_enter Tryd.func12, Tryd.ntmps12
  go_wp2_with (go_at_call 36; refine (HI.out _).mono ?_; rintro e w' ⟨rfl, rfl⟩)
  go_ret2
  exact ⟨rfl, rfl⟩
set_option maxRecDepth 100000 in
set_option maxHeartbeats 400000 in
theorem load_no (b : ByteArray) (mode : Int) (w : World) (h : mode < 0 ∨ 7 < mode) :
    Calls Tryd.prog 26 #[.string b, .int .i64 mode] w fun e w' => e = .returned (.tuple #[.pointer none, .int .i64 1]) ∧ w' = w := by
  have HI := hide1 (fun W => begin_no mode W h)
  clear h
  go_enter Tryd.func26, Tryd.ntmps26
  go_wp2_with (go_at_call 12; refine (HI.out _).mono ?_; rintro e w' ⟨rfl, rfl⟩)
  go_ret2
  exact ⟨rfl, rfl⟩
end Go.Proofs.YtoejbngihecafaaDoor

namespace Go.Proofs.YtoejbngihecafaaDoor
open Go.RowKit

/-- A node goes through whatever leaves leaves and inner nodes alone. -/
theorem Nd.kept_ty {w w' : World} (hk : ∀ (k : Nat) (c : Array Value) (t : TypeId), w.heap[k]? = some (Obj.cells c t) → t = 142 ∨ t = 162 → w'.heap[k]? = w.heap[k]?) : ∀ {n : Nd}, n.In w → n.In w'
  | .leaf _ _ _, h => (hk _ _ _ h (.inl rfl)).trans h
  | .inner _ _ _ _ _, h => ⟨(hk _ _ _ h.1 (.inr rfl)).trans h.1, Nd.kept_ty hk h.2.1, Nd.kept_ty hk h.2.2⟩
theorem TrAt.kept_ty {w w' : World} {enc : Int} {t : Option Nd} {R : List (Cn × ByteArray)} (h : TrAt w enc t R) (hk : ∀ (k : Nat) (c : Array Value) (t : TypeId), w.heap[k]? = some (Obj.cells c t) → t = 142 ∨ t = 162 → w'.heap[k]? = w.heap[k]?) : TrAt w' enc t R :=
  ⟨fun n hn => ⟨Nd.kept_ty hk (h.inn n hn).1, (h.inn n hn).2⟩, h.non, h.ok⟩
/-- The row of bytes turns: no node does. -/
theorem TrAt.wt {w w' : World} {B : Nat} {v : Value} {bs : List UInt8} {enc : Int} {t : Option Nd} {R : List (Cn × ByteArray)} (h : TrAt w enc t R) (hw : Wt w B v bs) (hs : WtStep v w w') : TrAt w' enc t R := by
  refine h.kept_ty (fun k c ty hk hty => hs.keep k (heap_lt hk) (fun e => ?_))
  rcases hw with ⟨rfl, rfl⟩ | ⟨g, o, cap, cur, rfl, hg, hh, r⟩
  · cases e
  · cases e
    rw [hk] at hh
    injection hh with hh
    injection hh with h1 h2 h3
    rcases hty with x | x
    · rw [x] at h2; exact absurd h2 (by decide)
    · rw [x] at h2; exact absurd h2 (by decide)
/-- A block of another type turns: no node does. -/
theorem TrAt.tn {w w' : World} {q : Nat} {c0 : Array Value} {ty0 : TypeId} {enc : Int} {t : Option Nd} {R : List (Cn × ByteArray)} (h : TrAt w enc t R) (hq : w.heap[q]? = some (.cells c0 ty0)) (hty0 : ty0 ≠ 142 ∧ ty0 ≠ 162) (hs : Tn q w w') : TrAt w' enc t R := by
  refine h.kept_ty (fun k c ty hk hty => hs.keep k (heap_lt hk) (fun e => ?_))
  subst e
  rw [hq] at hk
  injection hk with hk
  injection hk with h1 h2
  rcases hty with x | x
  · exact hty0.1 (h2.trans x)
  · exact hty0.2 (h2.trans x)

set_option maxRecDepth 100000 in
theorem wt_copy {w : World} {B : Nat} {p p' : Option Addr} {n cap : Nat} {bs : List UInt8} (ty : TypeId) (h : Wt w B (.slice p n cap) bs) (k : Nat) (hk : k ≤ bs.length) (hs : Wt w B (.slice p' (n - k) (cap - k)) (bs.drop k)) (hne : 0 < bs.length) :
    ∃ w', (Builtin.copy_ #[70, 70] ty #[.slice p n cap, .slice p' (n - k) (cap - k)]).run Tryd.prog w = .ok (goInt ((n - k : Nat) : Int)) w' ∧ Wt w' B (.slice p (n - k) cap) (bs.drop k) ∧ WtStep (.slice p n cap) w w' := by
  rcases h with ⟨hv, rfl⟩ | ⟨g, o, cap', cur, hv, hg, hh, hoc, hle, hcm, htk⟩
  · simp at hne
  · injection hv with h1 h2 h3
    subst h1 h2 h3
    have hcl : (Lib.byteCells (bs.drop k)).length = bs.length - k := by rw [Lib.byteCells_length, List.length_drop]
    have hone : ∀ v ∈ Lib.byteCells (bs.drop k), v.oneCell' = true := by
      intro v hv
      simp only [Lib.byteCells, List.mem_map] at hv
      obtain ⟨x, _, rfl⟩ := hv
      rfl
    have hsz : (Tryd.prog.info? 5).map (·.size) = some 1 := by kernel_rfl
    have hcz : cur.toList.length = cur.size := Array.length_toList
    rcases hs with ⟨hv2, hb2⟩ | ⟨g2, o2, cap2, cur2, hv2, hg2, hh2, hoc2, hle2, hcm2, htk2⟩
    · injection hv2 with h1 h2 h3
      subst h1
      have hz : bs.length - k = 0 := h2
      rw [hz]
      refine ⟨w, ?_, .inr ⟨g, o, cap, cur, by rw [hb2]; rfl, hg, hh, hoc, by rw [hb2]; exact Nat.zero_le _, hcm, by rw [hb2]; rfl⟩, ⟨rfl, rfl, rfl, Nat.le_refl _, fun _ _ _ => rfl⟩⟩
      rw [show cap - k = 0 from h3]
      exact run_copy_none w 70 70 ty 5 _ _ _ _ _ _ Tryd.underlying70 hsz (by simp)
    · injection hv2 with h1 h2 h3
      subst h1
      have hsrc : ∀ j v, (Lib.byteCells (bs.drop k))[j]? = some v → w.cell? ((⟨g2, o2, none⟩ : Addr).add j) = some v := by
        intro j u hj
        rw [Addr.add_lit, Lib.cell_of_heap hh2]
        rw [← htk2] at hj
        rw [List.getElem?_take] at hj
        split at hj
        · rw [List.getElem?_drop] at hj
          rw [← hj, Array.getElem?_toList]
        · cases hj
      have hr := run_copy_row (P := Tryd.prog) w 70 70 ty 5 g o bs.length cap ⟨g2, o2, none⟩ (bs.length - k) (cap - k) cur 5 (Lib.byteCells (bs.drop k)) Tryd.underlying70 hsz hh (by rw [hcl]; exact (Nat.min_eq_left (by omega)).symm) hsrc (by rw [hcl]; omega) hone
      rw [hcl] at hr
      refine ⟨_, hr, .inr ⟨g, o, cap, _, by rw [List.length_drop], hg, setRow_heap w g cur _ 5 _ hh, ?_, by rw [List.length_drop]; omega, hcm, ?_⟩, ⟨rfl, rfl, rfl, by simp, fun k' _ hk' => setRow_other w g k' _ (fun e => hk' (by simp [wblk, e]))⟩⟩
      · simp only [List.size_toArray, List.length_append, List.length_take, List.length_drop, Array.length_toList, hcl]
        omega
      · rw [List.length_drop]
        show ((cur.toList.take o ++ Lib.byteCells (bs.drop k) ++ cur.toList.drop (o + (bs.length - k))).drop o).take _ = _
        rw [List.append_assoc, List.drop_append_of_le_length (by rw [List.length_take]; omega), List.drop_take, Nat.sub_self, List.take_zero, List.nil_append, ← hcl]
        exact List.take_left
end Go.Proofs.YtoejbngihecafaaDoor

namespace Go.Proofs.YtoejbngihecafaaDoor
open Go.RowKit

theorem hdB_take (bs l : List UInt8) (hp : bs <+: l) (h : 3 ≤ bs.length ∨ bs = l) : (hdB bs).data.toList = l.take 3 := by
  show (bs.take (min 3 bs.length)).toArray.toList = _
  rw [List.toList_toArray]
  rcases h with h | rfl
  · obtain ⟨r, rfl⟩ := hp
    rw [Nat.min_eq_left h, List.take_append_of_le_length h]
  · by_cases g : 3 ≤ bs.length
    · rw [Nat.min_eq_left g]
    · rw [Nat.min_eq_right (by omega), List.take_of_length_le (Nat.le_refl _), List.take_of_length_le (by omega)]
theorem hdEnc_eq (b : ByteArray) (bs : List UInt8) (mode : Int) (hp : bs <+: b.data.toList) (h : 3 ≤ bs.length ∨ bs = b.data.toList) : hdEnc bs mode = encOf b mode ∧ hdMark bs mode = ofMark b (encOf b mode) := by
  have hh := hdB_take bs b.data.toList hp h
  have e1 : hdEnc bs mode = encOf b mode := by
    unfold hdEnc encOf
    rw [sniff_head b (hdB bs) (mode % 4) hh 3]
  refine ⟨e1, ?_⟩
  unfold hdMark
  rw [ofMark_head b (hdB bs) _ hh, e1]
/-- The mark, if there is one, and the body are all the bytes. -/
theorem mark_body (b : ByteArray) (E : Int) : b.data.toList = (mkB E (ofMark b E)).data.toList ++ (ofBody b E).data.toList := by
  unfold mkB ofBody
  cases h : ofMark b E
  · simp
  · simp only [if_true]
    have h1 : (markB E).data.toList.isPrefixOf b.data.toList = true := by
      unfold ofMark at h
      rw [Bool.and_eq_true] at h
      exact h.2
    obtain ⟨r, hr⟩ := List.isPrefixOf_iff_prefix.1 h1
    have hl : (markB E).data.toList.length = (markB E).size := rfl
    have hb : b.data.toList.length = b.size := rfl
    have h2 : (b.extract (markB E).size b.size).data.toList = b.data.toList.drop (markB E).size := by
      rw [ByteArray.data_extract, Array.toList_extract, List.extract_eq_take_drop]
      exact List.take_of_length_le (by rw [List.length_drop]; omega)
    rw [h2, ← hr, ← hl, List.drop_left]
end Go.Proofs.YtoejbngihecafaaDoor

namespace Go.Proofs.YtoejbngihecafaaDoor
open Go.RowKit

theorem TrAt.tn2 {w w' : World} {q : Nat} {enc : Int} {t : Option Nd} {R : List (Cn × ByteArray)} (h : TrAt w enc t R) (hq : NoNd w q) (hs : Tn q w w') : TrAt w' enc t R := by
  refine h.kept_ty (fun k c ty hk hty => hs.keep k (heap_lt hk) (fun e => ?_))
  subst e
  have : tyAt w k = some ty := by unfold tyAt; rw [hk]
  rcases hty with x | x
  · exact hq.1 (by rw [this, x])
  · exact hq.2 (by rw [this, x])
/-- Only the loader's block and its row's turn; the row stays or is a new one. -/
structure Ps (q : Nat) (v : Value) (w : World) (v' : Value) (w' : World) : Prop where
  os : w'.os = w.os
  tape : w'.tape = w.tape
  output : w'.output = w.output
  size : w.heap.size ≤ w'.heap.size
  keep : ∀ k, k < w.heap.size → k ≠ q → wblk v ≠ some k → w'.heap[k]? = w.heap[k]?
  row : wblk v' = wblk v ∨ wblk v' = none ∨ ∃ k, wblk v' = some k ∧ w.heap.size ≤ k
theorem Ps.refl (q : Nat) (v : Value) (w : World) : Ps q v w v w := ⟨rfl, rfl, rfl, Nat.le_refl _, fun _ _ _ _ => rfl, .inl rfl⟩
theorem Ps.trans {q : Nat} {v v1 v2 : Value} {w w1 w2 : World} (h : Ps q v w v1 w1) (g : Ps q v1 w1 v2 w2) : Ps q v w v2 w2 := by
  refine ⟨g.os.trans h.os, g.tape.trans h.tape, g.output.trans h.output, Nat.le_trans h.size g.size, fun k hk hq hv => ?_, ?_⟩
  · have h1 := h.keep k hk hq hv
    refine (g.keep k (Nat.lt_of_lt_of_le hk h.size) hq (fun e => ?_)).trans h1
    rcases h.row with r | r | ⟨k', r, hk'⟩
    · exact hv (r.symm.trans e)
    · rw [r] at e; cases e
    · rw [r] at e; cases e; omega
  · rcases g.row with r | r | ⟨k', r, hk'⟩
    · rcases h.row with s | s | ⟨k', s, hk'⟩
      · exact .inl (r.trans s)
      · exact .inr (.inl (r.trans s))
      · exact .inr (.inr ⟨k', r.trans s, hk'⟩)
    · exact .inr (.inl r)
    · exact .inr (.inr ⟨k', r, Nat.le_trans h.size hk'⟩)
theorem Ps.of_tn {q : Nat} {v v' : Value} {w w' : World} (h : Tn q w w') (hv : wblk v' = wblk v) : Ps q v w v' w' := ⟨h.os, h.tape, h.output, h.size, fun k hk hq _ => h.keep k hk hq, .inl hv⟩
theorem Ps.of_low {q : Nat} {v v' : Value} {w w' : World} (h : Below w.heap.size w w') (hv : wblk v' = wblk v) : Ps q v w v' w' := ⟨h.os, h.tape, h.output, h.size, fun k hk _ _ => h.block k hk, .inl hv⟩
theorem Ps.of_wt {q : Nat} {v v' : Value} {w w' : World} (h : WtStep v w w') (hv : wblk v' = wblk v ∨ wblk v' = some w.heap.size ∨ wblk v' = none) : Ps q v w v' w' :=
  ⟨h.os, h.tape, h.output, h.size, fun k hk _ hk2 => h.keep k hk hk2, hv.elim .inl (fun r => r.elim (fun r => .inr (.inr ⟨_, r, Nat.le_refl _⟩)) (fun r => .inr (.inl r)))⟩

/-- A loader at block q in memory: its cells, what waits, its leaves. -/
structure LdS (B q : Nat) (mode : Int) (begun : Bool) (enc : Int) (mark : Bool) (t : Option Nd) (R : List (Cn × ByteArray)) (v : Value) (ws : List UInt8) (w : World) : Prop where
  ld : LdC w q mode begun enc mark (trv t) ⟨#[]⟩ v
  wt : Wt w B v ws
  nq : wblk v ≠ some q
  tr : TrAt w enc t R
section
variable {B q : Nat} {mode : Int} {begun : Bool} {enc : Int} {mark : Bool} {t : Option Nd} {R : List (Cn × ByteArray)} {v : Value} {ws : List UInt8} {w : World}
theorem LdS.low {w' : World} (h : LdS B q mode begun enc mark t R v ws w) (hb : Below w.heap.size w w') : LdS B q mode begun enc mark t R v ws w' :=
  ⟨h.ld.below hb, h.wt.low hb, h.nq, h.tr.low hb⟩
theorem LdC.lt (h : LdC w q mode begun enc mark (trv t) ⟨#[]⟩ v) : q < w.heap.size := block_lt h.c0
theorem LdC.wtstep {w' : World} (h : LdC w q mode begun enc mark (trv t) ⟨#[]⟩ v) (hs : WtStep v w w') (hq : wblk v ≠ some q) : LdC w' q mode begun enc mark (trv t) ⟨#[]⟩ v := by
  have hB := block_lt h.c0
  have hk := hs.keep q hB hq
  have g : ∀ o, w'.cell? ⟨q, o, none⟩ = w.cell? ⟨q, o, none⟩ := fun o => by simp only [World.cell?, hk]
  refine ⟨(g _).trans h.c0, (g _).trans h.c1, (g _).trans h.c2, (g _).trans h.c3, (g _).trans h.c4, (g _).trans h.c5, (g _).trans h.c6, fun j => ?_, ?_⟩
  · rw [← h.fr j]; simp only [World.frozen?, hk]
  · unfold NoNd tyAt; rw [hk]; exact h.nb
/-- The root's cell turns. -/
theorem LdS.root (h : LdS B q mode begun enc mark t R v ws w) (t' : Option Nd) (R' : List (Cn × ByteArray)) (h' : TrAt w enc t' R') : LdS B q mode begun enc mark t' R' v ws (w.setCell ⟨q, 4, none⟩ (trv t')) := by
  have t1 : Tn q w (w.setCell ⟨q, 4, none⟩ (trv t')) := (Tn.refl _ _).setCell _
  exact ⟨h.ld.set4 _, h.wt.tn t1 h.nq, h.nq, h'.tn2 h.ld.nb t1⟩
/-- What waits turns. -/
theorem LdS.wait {w' : World} (h : LdS B q mode begun enc mark t R v ws w) (v' : Value) (ws' : List UInt8) (hw : Wt w' B v' ws') (hs : WtStep v w w') (hv : wblk v' = wblk v ∨ wblk v' = some w.heap.size ∨ wblk v' = none) : LdS B q mode begun enc mark t R v' ws' (w'.setCell ⟨q, 6, none⟩ v') := by
  have hB := block_lt h.ld.c0
  have hn : wblk v' ≠ some q := by
    rcases hv with r | r | r
    · rw [r]; exact h.nq
    · rw [r]; intro e; cases e; omega
    · rw [r]; intro e; cases e
  have hl := h.ld.wtstep hs h.nq
  have t1 : Tn q w' (w'.setCell ⟨q, 6, none⟩ v') := (Tn.refl _ _).setCell _
  exact ⟨hl.set6 _, hw.tn t1 hn, hn, (h.tr.wt h.wt hs).tn2 hl.nb t1⟩
end
/-- What a loader says of all bytes that were pushed. -/
structure Said (mode : Int) (all : List UInt8) (enc : Int) (mark : Bool) (R : List (Cn × ByteArray)) (ws : List UInt8) : Prop where
  enc_ : enc = hdEnc all mode
  mark_ : mark = hdMark all mode
  bytes : all = (mkB enc mark).data.toList ++ (rowB R ++ ws)
  read : ∀ F, Vm.atoms enc (rowB R ++ (ws ++ F)) = rowA enc R ++ Vm.atoms enc (ws ++ F)
  len : R.length ≤ (rowB R).length
/-- Behind any pushes. -/
def Inv (mode : Int) (all : List UInt8) (begun : Bool) (enc : Int) (mark : Bool) (t : Option Nd) (R : List (Cn × ByteArray)) (ws : List UInt8) : Prop :=
  (begun = false ∧ t = none ∧ R = [] ∧ ws = all) ∨ (begun = true ∧ 3 ≤ all.length ∧ Said mode all enc mark R ws)
theorem hdB_pre (bs r : List UInt8) (h : 3 ≤ bs.length) : hdB (bs ++ r) = hdB bs := by
  unfold hdB
  congr 2
  rw [List.length_append, Nat.min_eq_left h, Nat.min_eq_left (by omega), List.take_append_of_le_length h]
theorem Said.more {mode : Int} {all : List UInt8} {enc : Int} {mark : Bool} {R : List (Cn × ByteArray)} {ws : List UInt8} (h : Said mode all enc mark R ws) (h3 : 3 ≤ all.length) (r : List UInt8) : Said mode (all ++ r) enc mark R (ws ++ r) := by
  have e1 : hdEnc (all ++ r) mode = hdEnc all mode := by unfold hdEnc; rw [hdB_pre _ _ h3]
  have e2 : hdMark (all ++ r) mode = hdMark all mode := by unfold hdMark; rw [hdB_pre _ _ h3, e1]
  exact ⟨h.enc_.trans e1.symm, h.mark_.trans e2.symm, by rw [h.bytes]; simp only [List.append_assoc], fun F => by have := h.read (r ++ F); simpa only [List.append_assoc] using this, h.len⟩
theorem Inv.more {mode : Int} {all : List UInt8} {begun : Bool} {enc : Int} {mark : Bool} {t : Option Nd} {R : List (Cn × ByteArray)} {ws : List UInt8} (h : Inv mode all begun enc mark t R ws) (r : List UInt8) : Inv mode (all ++ r) begun enc mark t R (ws ++ r) := by
  rcases h with ⟨h1, h2, h3, h4⟩ | ⟨h1, h2, h3⟩
  · exact .inl ⟨h1, h2, h3, by rw [h4]⟩
  · exact .inr ⟨h1, by rw [List.length_append]; omega, h3.more h2 r⟩
/-- What begin settles. -/
theorem said_begin (mode : Int) (all : List UInt8) : Said mode all (hdEnc all mode) (hdMark all mode) [] (all.drop (mkB (hdEnc all mode) (hdMark all mode)).size) := by
  refine ⟨rfl, rfl, ?_, fun F => by simp [rowB, rowA], Nat.le_refl _⟩
  show all = _ ++ ([] ++ _)
  rw [List.nil_append]
  have h := mark_body ⟨all.toArray⟩ (encOf ⟨all.toArray⟩ mode)
  have hh := hdEnc_eq ⟨all.toArray⟩ all mode (by simp) (.inr (by simp))
  rw [← hh.2, ← hh.1] at h
  have hl : (mkB (hdEnc all mode) (hdMark all mode)).data.toList.length = (mkB (hdEnc all mode) (hdMark all mode)).size := rfl
  have h2 : all = (mkB (hdEnc all mode) (hdMark all mode)).data.toList ++ (ofBody ⟨all.toArray⟩ (hdEnc all mode)).data.toList := by simpa using h
  generalize (mkB (hdEnc all mode) (hdMark all mode)) = M at h2 hl ⊢
  generalize (ofBody ⟨all.toArray⟩ (hdEnc all mode)).data.toList = X at h2
  rw [h2, ← hl, List.drop_left]
/-- One more leaf: the first bytes of those that wait. -/
theorem Said.leaf {mode : Int} {all : List UInt8} {enc : Int} {mark : Bool} {R R' : List (Cn × ByteArray)} {ws view : List UInt8} {A0 : List Vm.At} (h : Said mode all enc mark R ws) (hv : view = ws.take 1004) (hl : 1004 ≤ ws.length) (hA : A0 <+: Vm.atoms enc view) (hs : Vm.sizeA A0 ≤ 1000) (h1 : 1 ≤ Vm.sizeA A0)
    (eb : rowB R' = rowB R ++ ws.take (Vm.sizeA A0)) (ea : rowA enc R' = rowA enc R ++ A0) (el : R'.length ≤ R.length + 1) : Said mode all enc mark R' (ws.drop (Vm.sizeA A0)) := by
  subst hv
  have hvl : (ws.take 1004).length = 1004 := by rw [List.length_take]; omega
  refine ⟨h.enc_, h.mark_, ?_, fun F => ?_, ?_⟩
  · rw [eb, List.append_assoc (rowB R), List.take_append_drop]; exact h.bytes
  · have e1 := h.read F
    have e2 := Vm.atoms_more (r := ws.drop 1004 ++ F) hA (by omega)
    rw [← List.append_assoc, List.take_append_drop] at e2
    rw [eb, ea, List.append_assoc (rowB R), ← List.append_assoc (ws.take _), List.take_append_drop, e1, e2, List.append_assoc]
    rw [List.drop_append_of_le_length (by omega)]
  · rw [eb, List.length_append, List.length_take]
    have := h.len
    omega
/-- At the end: what waits is read to the end. -/
theorem Said.doc {mode : Int} {all : List UInt8} {enc : Int} {mark : Bool} {R R' : List (Cn × ByteArray)} {ws : List UInt8} (h : Said mode all enc mark R ws) (b : ByteArray) (hb : b.data.toList = all) (tail : ByteArray)
    (eb : rowB R' = rowB R ++ ws.take (Vm.sizeA (Vm.atoms enc ws))) (ea : rowA enc R' = rowA enc R ++ Vm.atoms enc ws) (et : tail.data.toList = ws.drop (Vm.sizeA (Vm.atoms enc ws))) :
    enc = encOf b mode ∧ mark = ofMark b (encOf b mode) ∧ (ofBody b (encOf b mode)).data.toList = rowB R' ++ tail.data.toList ∧ Vm.atoms enc (ofBody b (encOf b mode)).data.toList = rowA enc R' := by
  have hh := hdEnc_eq b all mode (by rw [hb]; exact List.prefix_refl _) (.inr hb.symm)
  have e1 : enc = encOf b mode := h.enc_.trans hh.1
  have e2 : mark = ofMark b (encOf b mode) := h.mark_.trans hh.2
  have h1 := mark_body b (encOf b mode)
  rw [hb, ← e2, ← e1] at h1
  have h2 : (ofBody b enc).data.toList = rowB R ++ ws := (List.append_cancel_left (h.bytes.symm.trans h1)).symm
  refine ⟨e1, e2, ?_, ?_⟩
  · rw [← e1, h2, eb, et, List.append_assoc, List.take_append_drop]
  · have := h.read []
    rw [List.append_nil] at this
    rw [← e1, h2, this, ea]
/-- A leaf as a tree. -/
theorem leaf_tr {w : World} {enc : Int} {b : ByteArray} {Bk : Nat} {A0 : List Vm.At} (hp : A0 <+: Vm.atoms enc b.data.toList) (hin : (Nd.leaf Bk (cnOf A0) (b.extract 0 (Vm.sizeA A0))).In w) :
    TrAt w enc (some (Nd.leaf Bk (cnOf A0) (b.extract 0 (Vm.sizeA A0)))) [(cnOf A0, b.extract 0 (Vm.sizeA A0))] ∧ rowB [(cnOf A0, b.extract 0 (Vm.sizeA A0))] = b.data.toList.take (Vm.sizeA A0) ∧ rowA enc [(cnOf A0, b.extract 0 (Vm.sizeA A0))] = A0 := by
  have hle := Vm.sizeA_le hp
  have hbl : b.data.toList.length = b.size := rfl
  have e1 : (b.extract 0 (Vm.sizeA A0)).data.toList = b.data.toList.take (Vm.sizeA A0) := by
    rw [ByteArray.data_extract, Array.toList_extract, List.extract_eq_take_drop, List.drop_zero, Nat.sub_zero]
  have e2 : Vm.atoms enc (b.extract 0 (Vm.sizeA A0)).data.toList = A0 := by rw [e1]; exact (Vm.atoms_cut hp).1
  have e3 : (b.extract 0 (Vm.sizeA A0)).size = Vm.sizeA A0 := by
    have : (b.extract 0 (Vm.sizeA A0)).data.toList.length = (b.extract 0 (Vm.sizeA A0)).size := rfl
    rw [← this, e1, List.length_take]; omega
  refine ⟨⟨fun n hn => ?_, fun h => (by cases h), fun x hx => ?_⟩, ?_, ?_⟩
  · cases hn
    exact ⟨hin, e3.symm, rfl⟩
  · rw [List.mem_singleton] at hx
    subst hx
    exact ⟨by rw [e2], by rw [e2, e3]⟩
  · show (b.extract 0 (Vm.sizeA A0)).data.toList ++ [] = _
    rw [List.append_nil, e1]
  · show Vm.atoms enc (b.extract 0 (Vm.sizeA A0)).data.toList ++ [] = _
    rw [List.append_nil, e2]
end Go.Proofs.YtoejbngihecafaaDoor
