import Derived.Test.YtoejbngihecafaaGreatDoorApiS
import Derived.Test.YtoejbngihecafaaGreatDoorInts
import Derived.Test.YtoejbngihecafaaGreatDoorLaw0
import Derived.Test.YtoejbngihecafaaGreatDoorLaw1toLaw2
import Derived.Test.YtoejbngihecafaaGreatDoorQb
namespace Go.Proofs.YtoejbngihecafaaGreatDoor
open Go.RowKit
variable {T : World → Prop} {D : World → Nat → Int → Bool → ByteArray → Prop} {L : World → World → Nat → Int → List UInt8 → Prop} {S : World → Nat → List UInt8 → Nat → Prop}

/-- At block x lies a pair: the program's document of these bytes and the reference's, at block r; both behind block q. -/
def PQ (D : World → Nat → Int → Bool → ByteArray → Prop) (w : World) (q x r : Nat) (b : ByteArray) (mode : Int) : Prop :=
  ∃ p, w.heap[x]? = some (.cells #[.pointer (some ⟨p, 0, none⟩), .pointer (some ⟨r, 0, none⟩)] 46) ∧ D w p (encOf b mode) (ofMark b (encOf b mode)) (ofBody b (encOf b mode)) ∧ RDoc w r (encOf b mode) (ofMark b (encOf b mode)) (ofBody b (encOf b mode)) ∧ q < x ∧ q < r
theorem blkl {w : World} {b : Nat} {o : Obj} (h : w.heap[b]? = some o) : b < w.heap.size := by
  by_cases hb : b < w.heap.size
  · exact hb
  · rw [Array.getElem?_eq_none (by omega)] at h; cases h
theorem PQ.low (api : Api T D) {w w' : World} {q x r : Nat} {b : ByteArray} {mode : Int} (h : PQ D w q x r b mode) (hb : Below w.heap.size w w') : PQ D w' q x r b mode := by
  obtain ⟨p, h1, h2, h3, h4⟩ := h
  exact ⟨p, (hb.block x (blkl h1)).trans h1, api.low h2 hb, h3.below hb, h4⟩
theorem RDoc.kept {w w' : World} {r : Nat} {enc : Int} {mark : Bool} {body : ByteArray} (h : RDoc w r enc mark body) (hk : w'.heap[r]? = w.heap[r]?) : RDoc w' r enc mark body := by
  have g : ∀ o, w'.cell? ⟨r, o, none⟩ = w.cell? ⟨r, o, none⟩ := fun o => World.cell?_of_block (w := w) (a := ⟨r, o, none⟩) hk
  exact ⟨(g _).trans h.c0, (g _).trans h.c1, (g _).trans h.c2, by unfold tyAt; rw [hk]; exact h.ty⟩
theorem PQ.push {w w' : World} {q x r : Nat} {b : ByteArray} {mode : Int} (h : PQ D w q x r b mode) (hd : ∀ p enc mark body, D w p enc mark body → D w' p enc mark body) (ho : ∀ k, k < w.heap.size → k ≠ q → tyAt w k ≠ some 5 → w'.heap[k]? = w.heap[k]?) : PQ D w' q x r b mode := by
  obtain ⟨p, h1, h2, h3, h4, h5⟩ := h
  have hx : tyAt w x ≠ some 5 := by unfold tyAt; rw [h1]; intro e; injection e with e; exact absurd e (by decide)
  exact ⟨p, (ho x (blkl h1) (by omega) hx).trans h1, hd _ _ _ _ h2, h3.kept (ho r (block_lt h3.c0) (by omega) h3.ty), h4, h5⟩
theorem enc_bd2 (b : ByteArray) (mode : Int) : 0 ≤ encOf b mode ∧ encOf b mode ≤ 3 := by
  unfold encOf; split
  · exact sniffTo_bd _ _ (by omega) (by omega) 3 (Nat.le_refl _)
  · omega
theorem PQ.looked (api : Api T D) {w : World} {q x r : Nat} {b : ByteArray} {mode : Int} (h : PQ D w q x r b mode) (ht : T w) (hs : b.size ≤ 1099511627000) :
    Calls Tryz.prog 15 #[.pointer (some ⟨x, 0, none⟩)] w fun e w' => e = .returned (.bool true) ∧ Below w.heap.size w w' := by
  obtain ⟨p, h1, h2, h3, h4, h5⟩ := h
  have hb := enc_bd2 b mode
  exact looked_any api x p r _ _ _ w ht (by rw [Lib.cell_of_heap h1]; rfl) (by rw [Lib.cell_of_heap h1]; rfl) h2 h3 (Nat.le_trans (ofBody_size b _) hs) hb.1 hb.2

set_option maxRecDepth 100000 in
set_option maxHeartbeats 1000000 in
theorem ended_any (api : ApiS T D L S) (w0 w : World) (q : Nat) (mode : Int) (b : ByteArray) (ht : T w0) (hL : L w0 w q mode b.data.toList) (h0 : 0 ≤ mode) (h7 : mode ≤ 7) (hs : b.size ≤ 1099511627000) :
    Calls Tryz.prog 14 #[.pointer (some ⟨q, 0, none⟩), .string b, .int .i64 mode] w fun e w' => ∃ x r, e = .returned (.tuple #[.pointer (some ⟨x, 0, none⟩), .bool true]) ∧ PQ D w' q x r b mode ∧ w.heap.size ≤ r ∧ Below w.heap.size w w' := by
  have hq := (api.lq hL).2
  have R := hide2 (rload_ok b mode w (by omega) h0 h7)
  go_enter Tryz.func14, Tryz.ntmps14
  go_wp2_with fail
  refine R.out.mono ?_
  rintro e w1 ⟨r, rfl, hr, hrd, hb1⟩
  have hL1 := api.llow hL hb1
  clear R hL
  go_wp2_with fail
  refine (api.end_ w0 w1 q mode b ht hL1 h0 h7 (by omega)).mono ?_
  rintro e w2 ⟨p, rfl, hd, hb2⟩
  have hrd2 := hrd.below hb2
  have hb12 := hb1.trans (hb2.mono hb1.size)
  have ht2 := api.base.tab ht ((api.lbelow hL1).trans (hb2.mono (api.lbelow hL1).size))
  clear hrd hL1
  have hba := (Below.refl w2.heap.size w2).alloc (Nat.le_refl _) (.cells #[.pointer (some ⟨p, 0, none⟩), .pointer (some ⟨r, 0, none⟩)] 46)
  have hPP : PQ D (w2.alloc (.cells #[.pointer (some ⟨p, 0, none⟩), .pointer (some ⟨r, 0, none⟩)] 46)) q w2.heap.size r b mode :=
    ⟨p, Deep.blk_alloc_new _ _, api.base.low hd hba, hrd2.below hba, by have := hb12.size; omega, by omega⟩
  have HLK := hide2 (hPP.looked api.base (api.base.tab ht2 hba) hs)
  have HPP := hide2 hPP
  have HB := hide2 (hb12.trans (hba.mono hb12.size))
  clear hPP hba hd hrd2 ht2 hb12 hb1 hb2
  go_wp2_with fail
  refine HLK.out.mono ?_
  rintro e w3 ⟨rfl, hb3⟩
  have hP3 := HPP.out.low api.base hb3
  have hB3 := HB.out.trans (hb3.mono HB.out.size)
  clear HLK HPP HB
  go_wp2_with fail
  go_ret2
  exact ⟨_, r, rfl, hP3, hr, hB3⟩

set_option maxRecDepth 100000 in
set_option maxHeartbeats 2000000 in
theorem filled_any (api : ApiS T D L S) (p : Nat) (enc : Int) (mark : Bool) (body : ByteArray) (b : ByteArray) (vf : Value) (fills : List Int) (w : World) (ht : T w) (hd : D w p enc mark body) (hby : bytesOf enc mark body = b) (hs : b.size ≤ 1073741824)
    (hvf : IntsAt w vf fills) (hfl : fills.length ≤ 1073741824) :
    Calls Tryz.prog 16 #[.pointer (some ⟨p, 0, none⟩), .string b, vf] w fun e w' => e = .returned (.bool true) ∧ Below w.heap.size w w' := by
  obtain ⟨pf, cf, rfl⟩ := hvf.val
  have SV := hide2 (api.saver p enc mark body w hd)
  have hbl : b.data.toList.length = b.size := rfl
  go_enter Tryz.func16, Tryz.ntmps16
  go_wp2_with fail
  refine SV.out.mono ?_
  rintro e w1 ⟨s, rfl, hs1, hS1, hb1⟩
  rw [hby] at hS1
  have HS1 := hide2 hS1
  have HB1 := hide2 hb1
  have HT1 := hide2 (api.base.tab ht hb1)
  have HVF := hide2 hvf
  clear hS1 hb1 hvf ht hd hby SV
  go_wp2_with fail
  go_loopg [1, 8] fills.length (fun k s1 s8 wx => ∃ (j g : Nat) (r : ByteArray), k = fills.length - j ∧ j ≤ fills.length ∧ s1 = .string r ∧ s8 = .int .i64 j ∧ r.data.toList = b.data.toList.drop g ∧ g ≤ b.size ∧ S wx s b.data.toList g ∧ T wx ∧ Below w.heap.size w wx)
  case atStart => exact ⟨0, 0, b, (by omega), Nat.zero_le _, rfl, rfl, rfl, Nat.zero_le _, HS1.out, HT1.out, HB1.out⟩
  case round =>
    clear HS1 HT1 HB1
    obtain ⟨j, g, r, rfl, hj, rfl, rfl, hr, hg, hS, hT, hB⟩ := hrel
    have hrs : r.size + g = b.size := by
      have e1 : r.data.toList.length = r.size := rfl
      rw [← e1, hr, List.length_drop, hbl]; omega
    have HR := hide2 hr
    have HS := hide2 hS
    have HT := hide2 hT
    have HB := hide2 hB
    clear hr hS hT hB
    by_cases hlt : j < fills.length
    · have hjI : (j : Int) < (fills.length : Int) := by omega
      obtain ⟨a, rfl, hca⟩ := (HVF.out.low HB.out).at_ j hlt
      have hz := cell_lt hca
      generalize fills.getD j 0 = z at *
      have F := api.fill s b.data.toList g z wr HT.out HS.out
      rw [← HR.out, hbl] at F
      by_cases hz1 : z < 1
      · have hz0 : z.toNat = 0 := by omega
        rw [hz0] at F
        simp only [List.take_zero, Nat.zero_min, Nat.add_zero] at F
        have HF := hide2 F
        clear F
        go_wp2_with (go_at_call 21; refine HF.out.mono ?_; rintro e w6 ⟨rfl, hS6, hT6, hk6, hlow6⟩)
        go_roundg (fills.length - (j + 1))
        case measure => omega
        case rel => exact ⟨j + 1, g, r, rfl, by omega, rfl, rfl, HR.out, hg, hS6, hT6, hlow6 w hs1 HB.out⟩
      · obtain ⟨m, rfl⟩ : ∃ m : Nat, z = m := ⟨z.toNat, by omega⟩
        rw [show ((m : Int)).toNat = m by omega] at F
        by_cases hmr : r.size < m
        · have hmI : (r.size : Int) < (m : Int) := by omega
          have hrm : (⟨(r.data.toList.take m).toArray⟩ : ByteArray) = r := ba_ext2 (by
            show (r.data.toList.take m).toArray.toList = _
            rw [List.toList_toArray]
            exact List.take_of_length_le (show r.size ≤ m by omega))
          rw [hrm, show min m (b.size - g) = b.size - g by omega, show g + (b.size - g) = b.size by omega] at F
          clear hrm
          have HF := hide2 F
          clear F
          go_wp2_with (go_at_call 21; refine HF.out.mono ?_; rintro e w6 ⟨rfl, hS6, hT6, hk6, hlow6⟩)
          go_roundg (fills.length - (j + 1))
          case measure => omega
          case rel =>
            refine ⟨j + 1, b.size, _, rfl, by omega, rfl, rfl, ?_, Nat.le_refl _, hS6, hT6, hlow6 w hs1 HB.out⟩
            rw [List.drop_of_length_le (by omega)]; rfl
        · have hmI : ¬ (r.size : Int) < (m : Int) := by omega
          have hrm : (⟨(r.data.toList.take m).toArray⟩ : ByteArray) = r.extract 0 m := ba_ext2 (by
            rw [ext_take])
          rw [hrm, show min m (b.size - g) = m by omega] at F
          have HF := hide2 F
          clear F
          go_wp2_with (go_at_call 21; refine HF.out.mono ?_; rintro e w6 ⟨rfl, hS6, hT6, hk6, hlow6⟩)
          go_roundg (fills.length - (j + 1))
          case measure => omega
          case rel =>
            refine ⟨j + 1, g + m, _, rfl, by omega, rfl, rfl, ?_, by omega, hS6, hT6, hlow6 w hs1 HB.out⟩
            rw [ext_drop, HR.out, List.drop_drop]
    · have hjI : ¬ (j : Int) < (fills.length : Int) := by omega
      obtain rfl : j = fills.length := by omega
      have F := api.fill s b.data.toList g 9223372036854775807 wr HT.out HS.out
      obtain ⟨N, hN, hNb⟩ : ∃ N : Nat, (9223372036854775807 : Int).toNat = N ∧ 1073741824 < N := ⟨_, rfl, by omega⟩
      rw [hN, ← HR.out, hbl] at F
      have hrN : (⟨(r.data.toList.take N).toArray⟩ : ByteArray) = r := ba_ext2 (by
        show (r.data.toList.take N).toArray.toList = _
        rw [List.toList_toArray]
        exact List.take_of_length_le (show r.size ≤ N by omega))
      rw [hrN, show min N (b.size - g) = b.size - g by omega, show g + (b.size - g) = b.size by omega] at F
      clear hN hNb hrN
      have HF := hide2 F
      clear F
      go_wp2_with fail
      refine HF.out.mono ?_
      rintro e w6 ⟨rfl, hS6, hT6, hk6, hlow6⟩
      have hB6 := hlow6 w hs1 HB.out
      have F2 := api.fill s b.data.toList b.size 1 w6 hT6 hS6
      rw [List.drop_of_length_le (by omega), List.take_nil] at F2
      have HF2 := hide2 F2
      clear F2 hS6 hT6 hk6 hlow6 HF HS HT HB
      go_wp2_with fail
      refine HF2.out.mono ?_
      rintro e w7 ⟨rfl, _, _, _, hlow7⟩
      have hB7 := hlow7 w hs1 hB6
      clear HF2 hlow7 hB6
      go_wp2
      go_ret
      exact ⟨rfl, hB7⟩
end Go.Proofs.YtoejbngihecafaaGreatDoor
