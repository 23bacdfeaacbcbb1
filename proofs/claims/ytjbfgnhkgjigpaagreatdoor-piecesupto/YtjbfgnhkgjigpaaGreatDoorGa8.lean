import Derived.Deep.Heap
import Derived.Test.YtjbfgnhkgjigpaaGreatDoorGa5
import Derived.Test.YtjbfgnhkgjigpaaGreatDoorGa7
namespace Go.Proofs.YtjbfgnhkgjigpaaGreatDoor
open Go.RowKit

/-- The encoding that sniffing finds among the first k. -/
def sniffTo (s : ByteArray) (e0 : Int) : Nat → Int
  | 0 => e0
  | k + 1 => if ofMark s k then k else sniffTo s e0 k
/-- The encoding of a load. -/
def encOf (s : ByteArray) (mode : Int) : Int := if 4 ≤ mode then sniffTo s (mode % 4) 3 else mode % 4
theorem sniffTo_bd (s : ByteArray) (e0 : Int) (h0 : 0 ≤ e0) (h3 : e0 ≤ 3) : ∀ k, k ≤ 3 → 0 ≤ sniffTo s e0 k ∧ sniffTo s e0 k ≤ 3
  | 0, _ => ⟨h0, h3⟩
  | k + 1, hk => by
    unfold sniffTo
    split
    · omega
    · exact sniffTo_bd s e0 h0 h3 k (by omega)
theorem encOf_bd (s : ByteArray) (mode : Int) : 0 ≤ encOf s mode ∧ encOf s mode ≤ 3 := by
  unfold encOf
  split
  · exact sniffTo_bd s _ (by omega) (by omega) 3 (Nat.le_refl _)
  · omega

/-- The type of a block's cells. -/
def tyAt (w : World) (q : Nat) : Option TypeId := match w.heap[q]? with
  | some (.cells _ t _) => some t
  | _ => none
theorem tyAt_set (w : World) (a : Addr) (v : Value) (q : Nat) : tyAt (w.setCell a v) q = tyAt w q := by
  unfold tyAt
  by_cases h : q = a.block
  · subst h
    simp only [World.setCell, Array.getElem?_modify, if_true]
    cases hh : w.heap[a.block]? with
    | none => rfl
    | some o => cases o <;> rfl
  · rw [Deep.blk_setCell_other w a v q h]
theorem tyAt_low {w w' : World} {q : Nat} (hq : q < w.heap.size) (hb : Below w.heap.size w w') : tyAt w' q = tyAt w q := by
  unfold tyAt; rw [hb.block q hq]
/-- A document of the reference, in memory. -/
structure RDoc (w : World) (B : Nat) (enc : Int) (mark : Bool) (body : ByteArray) : Prop where
  c0 : w.cell? ⟨B, 0, none⟩ = some (.int .i64 enc)
  c1 : w.cell? ⟨B, 1, none⟩ = some (.bool mark)
  c2 : w.cell? ⟨B, 2, none⟩ = some (.string body)
  ty : tyAt w B ≠ some 5
theorem RDoc.below {w w' : World} {B : Nat} {enc : Int} {mark : Bool} {body : ByteArray} (h : RDoc w B enc mark body) (hb : Below w.heap.size w w') : RDoc w' B enc mark body :=
  ⟨(hb.cell (p := ⟨B, 0, none⟩) (block_lt h.c0)).trans h.c0, (hb.cell (p := ⟨B, 1, none⟩) (block_lt h.c0)).trans h.c1, (hb.cell (p := ⟨B, 2, none⟩) (block_lt h.c0)).trans h.c2, by rw [tyAt_low (block_lt h.c0) hb]; exact h.ty⟩

set_option maxHeartbeats 400000 in
theorem rload_no (s : ByteArray) (mode : Int) (w : World) (h : mode < 0 ∨ 7 < mode) :
    Calls Tryz.prog 8 #[.string s, .int .i64 mode] w fun e w' => e = .returned (.tuple #[.pointer none, .int .i64 1]) ∧ w' = w := by
  rcases h with h | h
  · go_enter Tryz.func8, Tryz.ntmps8
    go_wp2
    go_ret2
    exact ⟨rfl, rfl⟩
  · have h' : ¬ mode < 0 := by omega
    go_enter Tryz.func8, Tryz.ntmps8
    go_wp2
    go_ret2
    exact ⟨rfl, rfl⟩

set_option maxHeartbeats 800000 in
theorem rload_ok (s : ByteArray) (mode : Int) (w : World) (hs : s.size ≤ 1099511627776) (h0 : 0 ≤ mode) (h7 : mode ≤ 7) :
    Calls Tryz.prog 8 #[.string s, .int .i64 mode] w fun e w' => ∃ B, e = .returned (.tuple #[.pointer (some ⟨B, 0, none⟩), .int .i64 0]) ∧ w.heap.size ≤ B ∧ RDoc w' B (encOf s mode) (ofMark s (encOf s mode)) (ofBody s (encOf s mode)) ∧ Below w.heap.size w w' := by
  have n0 : ¬ mode < 0 := by omega
  have n7 : ¬ 7 < mode := by omega
  by_cases h4 : 4 ≤ mode
  · have he : encOf s mode = sniffTo s (mode % 4) 3 := by unfold encOf; rw [if_pos h4]
    rw [he]
    clear he
    go_enter Tryz.func8, Tryz.ntmps8
    go_wp2
    go_loopw [6, 7] (fun e k wx => ∃ q : Nat, q ≤ 3 ∧ k = .int .i64 q ∧ e = .int .i64 (sniffTo s (mode % 4) q) ∧ Below w.heap.size w wx) (fun _ k _ => 3 - (intOf k).toNat)
    case atStart => exact ⟨0, Nat.zero_le _, rfl, rfl, Below.refl _ _⟩
    case round =>
      obtain ⟨q, hq, rfl, rfl, hbx⟩ := hrel
      by_cases hlt : q < 3
      · have hltI : (q : Int) ≤ 2 := by omega
        have hms := markB_size (q : Int)
        have hmd : (decide ((markB q).size ≠ 0) && (markB q).data.toList.isPrefixOf s.data.toList) = ofMark s q := rfl
        have hst : sniffTo s (mode % 4) (q + 1) = if ofMark s q then (q : Int) else sniffTo s (mode % 4) q := rfl
        have HM := hide2 hmd
        have HS := hide2 hst
        clear hmd hst
        cases hm : ofMark s q
        · go_wp2_with fail
          refine (rmark_any _ _ (by omega) (by omega)).mono ?_
          rintro e w1 ⟨rfl, hb1⟩
          go_wp2_with fail
          refine (rbegins_any s _ _ hs (by omega)).mono ?_
          rintro e w2 ⟨rfl, rfl⟩
          rw [HM.out, hm]
          go_wp2
          refine ⟨⟨q + 1, by omega, by go_num, ?_, hbx.trans (hb1.mono hbx.size)⟩, by simp [intOf]; omega⟩
          rw [HS.out, hm]; rfl
        · go_wp2_with fail
          refine (rmark_any _ _ (by omega) (by omega)).mono ?_
          rintro e w1 ⟨rfl, hb1⟩
          go_wp2_with fail
          refine (rbegins_any s _ _ hs (by omega)).mono ?_
          rintro e w2 ⟨rfl, rfl⟩
          rw [HM.out, hm]
          go_wp2
          refine ⟨⟨q + 1, by omega, by go_num, ?_, hbx.trans (hb1.mono hbx.size)⟩, by simp [intOf]; omega⟩
          rw [HS.out, hm]; rfl
      · obtain rfl : q = 3 := by omega
        obtain ⟨g0, g3⟩ := sniffTo_bd s (mode % 4) (by omega) (by omega) 3 (Nat.le_refl _)
        generalize hen : sniffTo s (mode % 4) 3 = en at *
        have HEN := hide2 hen
        clear hen
        go_wp2_with fail
        refine (rof_any s en _ hs g0 g3).mono ?_
        rintro e w1 ⟨rfl, hb1⟩
        have hbw := hbx.trans (hb1.mono hbx.size)
        go_wp2
        go_ret2
        refine ⟨w1.heap.size, rfl, hbw.size, ?_, hbw.alloc hbw.size _⟩
        rw [HEN.out]; exact ⟨by simp, by simp, by simp, by unfold tyAt; rw [Deep.blk_alloc_new]; intro e; injection e with e; exact absurd e (by decide)⟩
  · have he : encOf s mode = mode % 4 := by unfold encOf; rw [if_neg h4]
    rw [he]
    clear he
    go_enter Tryz.func8, Tryz.ntmps8
    go_wp2_with fail
    refine (rof_any s (mode % 4) _ hs (by omega) (by omega)).mono ?_
    rintro e w1 ⟨rfl, hbw⟩
    go_wp2
    go_ret2
    refine ⟨w1.heap.size, rfl, hbw.size, ?_, hbw.alloc hbw.size _⟩
    exact ⟨by simp, by simp, by simp, by unfold tyAt; rw [Deep.blk_alloc_new]; intro e; injection e with e; exact absurd e (by decide)⟩

set_option maxHeartbeats 400000 in
theorem rsave_any (B : Nat) (enc : Int) (mark : Bool) (body : ByteArray) (w : World) (hd : RDoc w B enc mark body) (hs : body.size ≤ 1099511627776) (h0 : 0 ≤ enc) (h3 : enc ≤ 3) :
    Calls Tryz.prog 36 #[.pointer (some ⟨B, 0, none⟩)] w fun e w' => e = .returned (.string (bytesOf enc mark body)) ∧ Below w.heap.size w w' := by
  obtain ⟨c0, c1, c2⟩ := hd
  go_enter Tryz.func36, Tryz.ntmps36
  go_wp2_with fail
  refine (rbytes_any _ _ _ _ hs h0 h3).mono ?_
  rintro e w1 ⟨rfl, hb1⟩
  go_wp2
  go_ret
  exact ⟨rfl, hb1⟩

theorem two_kept {w w' : World} {B i j : Nat} {u v : Value} (h : w.cell? ⟨B, i, none⟩ = some u ∧ w.cell? ⟨B, j, none⟩ = some v) (hb : Below w.heap.size w w') : w'.cell? ⟨B, i, none⟩ = some u ∧ w'.cell? ⟨B, j, none⟩ = some v :=
  ⟨(hb.cell (p := ⟨B, i, none⟩) (block_lt h.1)).trans h.1, (hb.cell (p := ⟨B, j, none⟩) (block_lt h.1)).trans h.2⟩
theorem below_drew0 {w w' : World} (h : Below w.heap.size w.drew w') : Below w.heap.size w w' := ⟨h.os, h.tape, h.output, h.size, h.block⟩

set_option maxHeartbeats 400000 in
theorem rdatoms_any (B : Nat) (enc : Int) (mark : Bool) (body : ByteArray) (w : World) (hd : RDoc w B enc mark body) (hs : body.size ≤ 1099511627776) (h0 : 0 ≤ enc) (h3 : enc ≤ 3) :
    Calls Tryz.prog 66 #[.pointer (some ⟨B, 0, none⟩)] w fun e w' => ∃ v L, e = .returned v ∧ Vm.Reads L (Vm.atoms enc body.data.toList) 0 ∧ L.length ≤ body.size ∧ Holds w' w.heap.size v L ∧ Below w.heap.size w w' := by
  obtain ⟨c0, c1, c2⟩ := hd
  go_enter Tryz.func66, Tryz.ntmps66
  go_wp2
  go_region_held3 (fun w' => w'.cell? ⟨B, 0, none⟩ = some (.int .i64 enc) ∧ w'.cell? ⟨B, 2, none⟩ = some (.string body)) (first | go_keep | exact two_kept (by assumption) (by assumption))
    (first | (go_at_call 100; refine (ratoms_any body enc _ hs h0 h3).mono ?_; rintro e w1 ⟨v, L, rfl, hr, hl, ho, hb1⟩))
  all_goals
    go_wp2
    go_ret
    exact ⟨v, L, rfl, hr, hl, ho, below_drew0 hb1⟩

theorem st_kept {w0 w w' : World} {B : Nat} {u : Value} (h : w.cell? ⟨B, 0, none⟩ = some u ∧ Hid (Below w0.heap.size w0 w)) (hb : Below w.heap.size w w') : w'.cell? ⟨B, 0, none⟩ = some u ∧ Hid (Below w0.heap.size w0 w') :=
  ⟨(hb.cell (p := ⟨B, 0, none⟩) (block_lt h.1)).trans h.1, h.2.out.trans (hb.mono h.2.out.size)⟩
theorem st_kept0 {w : World} {B : Nat} {u : Value} (h : w.cell? ⟨B, 0, none⟩ = some u) (hb : Below w.heap.size w w) : w.drew.cell? ⟨B, 0, none⟩ = some u ∧ Hid (Below w.heap.size w w.drew) := ⟨h, hb.drew⟩
theorem st_doc {w0 w : World} {B : Nat} {enc : Int} {mark : Bool} {body : ByteArray} {u : Value} (hd : Hid (RDoc w0 B enc mark body)) (h : w.cell? ⟨B, 0, none⟩ = some u ∧ Hid (Below w0.heap.size w0 w)) : RDoc w B enc mark body := hd.out.below h.2.out

/-- Would sniffing find the same encoding again? -/
def stableB (enc : Int) (mark : Bool) (body : ByteArray) : Bool := encOf (bytesOf enc mark body) (4 + enc) == enc

set_option maxHeartbeats 800000 in
theorem rstable_any (B : Nat) (enc : Int) (mark : Bool) (body : ByteArray) (w : World) (hd : RDoc w B enc mark body) (hs : body.size ≤ 1099511627000) (h0 : 0 ≤ enc) (h3 : enc ≤ 3) :
    Calls Tryz.prog 39 #[.pointer (some ⟨B, 0, none⟩)] w fun e w' => e = .returned (.bool (stableB enc mark body)) ∧ Below w.heap.size w w' := by
  have hbs : (bytesOf enc mark body).size ≤ 1099511627776 := by
    have := markB_size enc
    unfold bytesOf; split
    · rw [ByteArray.size_append]; omega
    · omega
  have c0 := hd.c0
  have hwr : IntKind.i64.wrap (4 + enc) = 4 + enc := by rw [IntKind.wrap_i64]; omega
  have HD := hide2 hd
  clear hd
  go_enter Tryz.func39, Tryz.ntmps39
  go_wp2
  go_region_held3 (fun w' => w'.cell? ⟨B, 0, none⟩ = some (.int .i64 enc) ∧ Hid (Below w.heap.size w w')) (first | exact st_kept0 c0 (Below.refl _ _) | exact st_kept (by assumption) (by assumption) | exact st_kept0 c0 (Below.refl _ _))
    (first | (go_at_call 36; refine (rsave_any B enc mark body _ (st_doc HD (by assumption)) (by omega) h0 h3).mono ?_; rintro e w1 ⟨rfl, hb1⟩) | (go_at_call 8; refine (rload_ok (bytesOf enc mark body) (4 + enc) _ hbs (by omega) (by omega)).mono ?_; rintro e w2 ⟨B2, rfl, hB2, hd2, hb2⟩))
  all_goals
    have hS : w2.cell? ⟨B, 0, none⟩ = some (.int .i64 enc) ∧ Hid (Below w.heap.size w w2) := by assumption
    obtain ⟨q0, q1⟩ := hS
    have q2 := hd2.c0
    go_wp2
    go_quiet (fail)
    go_wp2
    go_ret
    exact ⟨rfl, below_drewN q1.out _⟩
end Go.Proofs.YtjbfgnhkgjigpaaGreatDoor

namespace Vm
/-- An atom's character in the text. -/
def chA (x : At) : Int := x.2.1
/-- The text, as numbers of bytes. -/
def textL (A : List At) : List Int := A.flatMap (fun x => utfL (chA x))
def lenA (x : At) : Nat := utfLen (chA x)
def unA (x : At) : Nat := if 65535 < chA x then 2 else 1
/-- Atoms as they come of readings: an escape's character is 65533, a line end's 10, every character may be one. -/
def AtOk (x : At) : Prop := 0 ≤ x.1 ∧ x.1 ≤ 4 ∧ (x.1 = 4 → x.2.1 = 65533) ∧ (x.1 ≤ 2 → x.2.1 = 10) ∧ 0 ≤ x.2.1 ∧ x.2.1 ≤ 1114111 ∧ 1 ≤ x.2.2 ∧ x.2.2 ≤ 8
theorem atok_mk {x : At} (h1 : 0 ≤ x.1) (h2 : x.1 ≤ 4) (h3 : x.1 = 4 → x.2.1 = 65533) (h4 : x.1 ≤ 2 → x.2.1 = 10) (h5 : 0 ≤ x.2.1) (h6 : x.2.1 ≤ 1114111) (h7 : 1 ≤ x.2.2) (h8 : x.2.2 ≤ 8) : AtOk x := ⟨h1, h2, h3, h4, h5, h6, h7, h8⟩
theorem singleA_ok {x : Sg} (hc : -1 ≤ x.1 ∧ x.1 ≤ 1114111) (hn : 1 ≤ x.2 ∧ x.2 ≤ 4) : AtOk (singleA x) := by
  unfold singleA
  split
  · exact atok_mk (by simp) (by simp) (fun h => by first | rfl | simp at h) (fun h => by first | rfl | simp at h) (by simp only; omega) (by simp only; omega) (by simp only; omega) (by simp only; omega)
  · split
    · exact atok_mk (by simp) (by simp) (fun h => by first | rfl | simp at h) (fun h => by first | rfl | simp at h) (by simp only; omega) (by simp only; omega) (by simp only; omega) (by simp only; omega)
    · exact atok_mk (by simp) (by simp) (fun h => by first | rfl | simp at h) (fun h => by first | rfl | simp at h) (by simp only; omega) (by simp only; omega) (by simp only; omega) (by simp only; omega)
theorem atomsF_ok : ∀ (S : List Sg) (h : Nat), h ≤ 4 → (∀ x ∈ S, (-1 ≤ x.1 ∧ x.1 ≤ 1114111) ∧ 1 ≤ x.2 ∧ x.2 ≤ 4) → ∀ a ∈ atomsF h S, AtOk a
  | [], h, h4, _, a, ha => by
    simp only [atomsF] at ha
    split at ha
    · simp only [List.mem_singleton] at ha; subst ha; exact atok_mk (by simp) (by simp) (fun h => by first | rfl | simp at h) (fun h => by first | rfl | simp at h) (by simp only; omega) (by simp only; omega) (by simp only; omega) (by simp only; omega)
    · simp at ha
  | x :: r, h, h4, hS, a, ha => by
    have hx := hS x (by simp)
    have hr : ∀ y ∈ r, (-1 ≤ y.1 ∧ y.1 ≤ 1114111) ∧ 1 ≤ y.2 ∧ y.2 ≤ 4 := fun y hy => hS y (by simp [hy])
    simp only [atomsF] at ha
    split at ha
    · simp only [List.mem_cons] at ha
      rcases ha with rfl | ha
      · exact atok_mk (by simp) (by simp) (fun h => by first | rfl | simp at h) (fun h => by first | rfl | simp at h) (by simp only; omega) (by simp only; omega) (by simp only; omega) (by simp only; omega)
      · exact atomsF_ok r 0 (by omega) hr a ha
    · simp only [List.mem_append] at ha
      rcases ha with ha | ha
      · split at ha
        · simp only [List.mem_singleton] at ha; subst ha; exact atok_mk (by simp) (by simp) (fun h => by first | rfl | simp at h) (fun h => by first | rfl | simp at h) (by simp only; omega) (by simp only; omega) (by simp only; omega) (by simp only; omega)
        · simp at ha
      · split at ha
        · exact atomsF_ok r x.2 hx.2.2 hr a ha
        · simp only [List.mem_cons] at ha
          rcases ha with rfl | ha
          · exact singleA_ok hx.1 hx.2
          · exact atomsF_ok r 0 (by omega) hr a ha
theorem headSg_ch {enc : Int} {l : Bytes} {x : Sg} (h : headSg enc l = some x) : -1 ≤ x.1 ∧ x.1 ≤ 1114111 := by
  rw [← rd_head] at h
  cases hr : rd enc l with
  | none => rw [hr] at h; cases h
  | some y =>
    rw [hr] at h
    simp only [Option.map_some, Option.some.injEq] at h
    subst h
    unfold sgOf
    cases hy : y.2.1
    · have h0 := (rd_what hr).2 hy
      have h1 : y.1 ≤ 1114111 := rd_le hr hy
      simp only [Bool.false_eq_true, if_false]; omega
    · simp
theorem signsF_ch (enc : Int) : ∀ (f : Nat) (l : Bytes) (x : Sg), x ∈ signsF enc f l → -1 ≤ x.1 ∧ x.1 ≤ 1114111
  | 0, _, _, h => by simp [signsF] at h
  | f + 1, l, x, h => by
    simp only [signsF] at h
    cases hx : headSg enc l with
    | none => rw [hx] at h; simp at h
    | some y =>
      rw [hx] at h
      simp only [List.mem_cons] at h
      rcases h with rfl | h
      · exact headSg_ch hx
      · exact signsF_ch enc f _ x h
theorem atoms_ok (enc : Int) (l : Bytes) : ∀ a ∈ atoms enc l, AtOk a :=
  atomsF_ok _ 0 (by omega) (fun x hx => ⟨signsF_ch enc _ l x hx, signsF_le enc _ l x hx⟩)
end Vm
