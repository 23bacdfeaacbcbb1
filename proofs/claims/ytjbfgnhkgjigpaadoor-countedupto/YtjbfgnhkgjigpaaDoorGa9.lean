import Derived.Test.YtjbfgnhkgjigpaaDoorRows
import Derived.OpenShut
import Derived.LaidLaws
import Derived.Lib.LaidTab
import Derived.Test.YtjbfgnhkgjigpaaDoorCards
import Derived.Test.YtjbfgnhkgjigpaaDoorTie
import Derived.ProofKit
import Derived.Deep.DeepHandedRow
import Derived.Test.YtjbfgnhkgjigpaaDoorGa4
import Derived.Test.YtjbfgnhkgjigpaaDoorGa7
import Derived.Test.YtjbfgnhkgjigpaaDoorGa8
namespace Go.Proofs.YtjbfgnhkgjigpaaDoor
open Go.RowKit

theorem LdC.of_heap {w : World} {q : Nat} {mode : Int} {begun : Bool} {enc : Int} {mark : Bool} {tv : Value} {tail : ByteArray} {v : Value} {ty : TypeId} (h : w.heap[q]? = some (.cells #[.int .i64 mode, .bool begun, .int .i64 enc, .bool mark, tv, .string tail, v] ty)) (h1 : ty ≠ 139) (h2 : ty ≠ 159) : LdC w q mode begun enc mark tv tail v := by
  refine ⟨by rw [Lib.cell_of_heap h]; rfl, by rw [Lib.cell_of_heap h]; rfl, by rw [Lib.cell_of_heap h]; rfl, by rw [Lib.cell_of_heap h]; rfl, by rw [Lib.cell_of_heap h]; rfl, by rw [Lib.cell_of_heap h]; rfl, by rw [Lib.cell_of_heap h]; rfl, fun j => Lib.frozen_of_heap h j, ?_⟩
  have ht : tyAt w q = some ty := by unfold tyAt; rw [h]
  unfold NoNd; rw [ht]
  exact ⟨fun e => h1 (Option.some.inj e), fun e => h2 (Option.some.inj e)⟩

theorem all_inv (B : Nat) (mode enc : Int) (begun mark : Bool) (t : Option Nd) (R : List (Cn × ByteArray)) (v : Value) (ws : List UInt8) (b : ByteArray) (w : World) (ht : Tabs w) (hw : Wt w B v ws) (htr : TrAt w enc t R) (hi : Inv mode b.data.toList begun enc mark t R ws) (hl : b.size ≤ 1099511627776) (h0 : 0 ≤ mode) (h7 : mode ≤ 7) :
    Calls Tryd.prog 38 #[.agg #[.int .i64 mode, .bool begun, .int .i64 enc, .bool mark, trv t, .string ⟨#[]⟩, v]] w fun e w' => ∃ n R' tail', e = .returned (.agg #[.int .i64 (encOf b mode), .bool (ofMark b (encOf b mode)), trv (some n), .string tail']) ∧ TrAt w' (encOf b mode) (some n) R' ∧
      (ofBody b (encOf b mode)).data.toList = rowB R' ++ tail'.data.toList ∧ Vm.atoms (encOf b mode) (ofBody b (encOf b mode)).data.toList = rowA (encOf b mode) R' ∧ Below w.heap.size w w' := by
  have hbl : b.data.toList.length = b.size := rfl
  have hba := (Below.refl w.heap.size w).alloc (Nat.le_refl _) (.cells #[.int .i64 mode, .bool begun, .int .i64 enc, .bool mark, trv t, .string ⟨#[]⟩, v] 72)
  have hbb := hba.alloc (by simp) (.cells #[.int .i64 0, .bool false, .nilIface, .string ⟨#[]⟩] 69)
  have hZ : ((w.alloc (.cells #[.int .i64 mode, .bool begun, .int .i64 enc, .bool mark, trv t, .string ⟨#[]⟩, v] 72)).alloc (.cells #[.int .i64 0, .bool false, .nilIface, .string ⟨#[]⟩] 69)).heap[w.heap.size]? = some (.cells #[.int .i64 mode, .bool begun, .int .i64 enc, .bool mark, trv t, .string ⟨#[]⟩, v] 72) := by
    rw [Below.heap_alloc _ _ _ (by simp)]; exact heap_alloc_new w _
  have hR : ((w.alloc (.cells #[.int .i64 mode, .bool begun, .int .i64 enc, .bool mark, trv t, .string ⟨#[]⟩, v] 72)).alloc (.cells #[.int .i64 0, .bool false, .nilIface, .string ⟨#[]⟩] 69)).heap[w.heap.size + 1]? = some (.cells #[.int .i64 0, .bool false, .nilIface, .string ⟨#[]⟩] 69) := by
    have := heap_alloc_new (w.alloc (.cells #[.int .i64 mode, .bool begun, .int .i64 enc, .bool mark, trv t, .string ⟨#[]⟩, v] 72)) (.cells #[.int .i64 0, .bool false, .nilIface, .string ⟨#[]⟩] 69)
    simpa using this
  have hld := LdC.of_heap hZ (by decide) (by decide)
  have hnz : wblk v ≠ some w.heap.size := fun e => by have := (hw.blk_lt e).1; omega
  -- what all answers once begin has come back
  have fin : ∀ (E : Int) (mk : Bool) (t1 : Option Nd) (R1 : List (Cn × ByteArray)) (ws1 : List UInt8), trv t1 = trv t → Said mode b.data.toList E mk R1 ws1 →
      (Calls Tryd.prog 59 #[.pointer (some ⟨w.heap.size, 0, none⟩)] ((w.alloc (.cells #[.int .i64 mode, .bool begun, .int .i64 enc, .bool mark, trv t, .string ⟨#[]⟩, v] 72)).alloc (.cells #[.int .i64 0, .bool false, .nilIface, .string ⟨#[]⟩] 69)) fun e w1 => e = .returned (.tuple #[]) ∧ ∃ v1, AlI B w.heap.size w mode E mk t1 ⟨#[]⟩ v1 ws1 R1 w1) →
      Calls Tryd.prog 38 #[.agg #[.int .i64 mode, .bool begun, .int .i64 enc, .bool mark, trv t, .string ⟨#[]⟩, v]] w fun e w' => ∃ n R' tail', e = .returned (.agg #[.int .i64 (encOf b mode), .bool (ofMark b (encOf b mode)), trv (some n), .string tail']) ∧ TrAt w' (encOf b mode) (some n) R' ∧
        (ofBody b (encOf b mode)).data.toList = rowB R' ++ tail'.data.toList ∧ Vm.atoms (encOf b mode) (ofBody b (encOf b mode)).data.toList = rowA (encOf b mode) R' ∧ Below w.heap.size w w' := by
    intro E mk t1 R1 ws1 het hS hB
    have hs := hS.sizes
    have hr := hS.len
    rw [← het] at hB ⊢
    refine (all_any B mode enc E begun mark mk t1 ⟨#[]⟩ v ws1 R1 w hS.bd.1 hS.bd.2 (by omega) (by omega) (by omega) hB).mono ?_
    rintro e w' ⟨n, R', tail', rfl, htr', hb', ha', htl', hbl'⟩
    obtain ⟨rfl, rfl, g3, g4⟩ := hS.doc b rfl tail' hb' ha' htl'
    exact ⟨n, R', tail', rfl, htr', g3, g4, hbl'⟩
  rcases hi with ⟨rfl, rfl, rfl, rfl⟩ | ⟨rfl, ha, hs⟩
  · refine fin _ _ none [] _ rfl (said_begin mode b.data.toList) ((begin_any B w.heap.size mode enc mark none ⟨#[]⟩ v b.data.toList w _ ht (Nat.le_refl _) hbb hld (hw.low hbb) hnz (by omega) h0 h7).mono ?_)
    rintro e w1 ⟨v1, rfl, g1, g2, g3, g4⟩
    exact ⟨rfl, v1, g1, g2, by rw [g3]; exact hnz, ⟨fun n hn => (by cases hn), fun _ => rfl, fun x hx => (by cases hx)⟩, ht, Nat.le_refl _, (g4.keep _ (heap_lt hR) (by omega)).trans hR, low_tn hbb (Nat.le_refl _) g4⟩
  · refine fin enc mark t R ws rfl hs ((begin_done _ mode enc mark (trv t) ⟨#[]⟩ v _ hld).mono ?_)
    rintro e w1 ⟨rfl, rfl⟩
    exact ⟨rfl, v, hld, hw.low hbb, hnz, htr.low hbb, ht, Nat.le_refl _, hR, hbb⟩

set_option maxRecDepth 100000 in
set_option maxHeartbeats 1000000 in
theorem end_any (B q : Nat) (mode enc : Int) (begun mark : Bool) (t : Option Nd) (R : List (Cn × ByteArray)) (v : Value) (ws : List UInt8) (b : ByteArray) (w : World) (ht : Tabs w) (h : LdS B q mode begun enc mark t R v ws w) (hi : Inv mode b.data.toList begun enc mark t R ws) (hl : b.size ≤ 1099511627776) (h0 : 0 ≤ mode) (h7 : mode ≤ 7) :
    Calls Tryd.prog 15 #[.pointer (some ⟨q, 0, none⟩)] w fun e w' => ∃ p, e = .returned (.pointer (some ⟨p, 0, none⟩)) ∧ w.heap.size ≤ p ∧ DD w' p (encOf b mode) (ofMark b (encOf b mode)) (ofBody b (encOf b mode)) ∧ Below w.heap.size w w' := by
  have HA := hide1 (all_inv B mode enc begun mark t R v ws b w ht h.wt h.tr hi hl h0 h7)
  obtain ⟨p, cap, rfl, hcap⟩ := h.wt.val
  have c0 := h.ld.c0
  have c1 := h.ld.c1
  have c2 := h.ld.c2
  have c3 := h.ld.c3
  have c4 := h.ld.c4
  have c5 := h.ld.c5
  have c6 := h.ld.c6
  have hz := block_lt c0
  clear h hi ht
  go_enter Tryd.func15, Tryd.ntmps15
  go_wp2_with fail
  refine HA.out.mono ?_
  rintro e w1 ⟨n, R', tail', rfl, htr, hby, hat, hb1⟩
  simp only [trv_some]
  have hbd : 0 ≤ encOf b mode ∧ encOf b mode ≤ 3 := by
    have := hdEnc_bd b.data.toList mode
    rw [(hdEnc_eq b b.data.toList mode (List.prefix_refl _) (.inr rfl)).1] at this
    exact this
  have hos := Nat.le_trans (ofBody_size b (encOf b mode)) hl
  have HTR := hide1 htr
  clear HA c0 c1 c2 c3 c4 c5 c6 hz htr
  go_wp2_with fail
  go_ret
  have hba := (Below.refl w1.heap.size w1).alloc (Nat.le_refl _) (.cells #[.int .i64 (encOf b mode), .bool (ofMark b (encOf b mode)), .iface n.ty (.pointer (some ⟨n.blk, 0, none⟩)), .string tail'] 77)
  exact ⟨_, rfl, hb1.size, ⟨n, R', tail', heap_alloc_new w1 _, HTR.out.low hba, hbd.1, hbd.2, hby, hat, hos⟩, hb1.trans (hba.mono hb1.size)⟩

set_option maxRecDepth 100000 in
set_option maxHeartbeats 1000000 in
theorem load_ok (b : ByteArray) (mode : Int) (w : World) (ht : Tabs w) (hl : b.size ≤ 1099511627776) (h0 : 0 ≤ mode) (h7 : mode ≤ 7) :
    Calls Tryd.prog 26 #[.string b, .int .i64 mode] w fun e w' => ∃ p, e = .returned (.tuple #[.pointer (some ⟨p, 0, none⟩), .int .i64 0]) ∧ DD w' p (encOf b mode) (ofMark b (encOf b mode)) (ofBody b (encOf b mode)) ∧ Below w.heap.size w w' := by
  have HB := hide1 (begin_ok mode w h0 h7)
  have hba := (Below.refl w.heap.size w).alloc (Nat.le_refl _) (.cells #[.int .i64 mode, .bool false, .int .i64 0, .bool false, .nilIface, .string ⟨#[]⟩, .slice none 0 0] 74)
  have hls : LdS w.heap.size w.heap.size mode false 0 false none [] (.slice none 0 0) [] (w.alloc (.cells #[.int .i64 mode, .bool false, .int .i64 0, .bool false, .nilIface, .string ⟨#[]⟩, .slice none 0 0] 74)) :=
    ⟨LdC.of_heap (heap_alloc_new w _) (by decide) (by decide), .inl ⟨rfl, rfl⟩, (by intro e; cases e), ⟨fun n hn => (by cases hn), fun _ => rfl, fun x hx => (by cases hx)⟩⟩
  have HP := hide1 (push_any w.heap.size w.heap.size mode 0 false false none [] (.slice none 0 0) [] [] b w _ ht (Nat.le_refl _) (Nat.le_refl _) hba.size hba hls (.inl ⟨rfl, rfl, rfl, rfl⟩) (by simpa using hl) h0 h7)
  have HW := hide1 (fun v' w' (hp : Ps w.heap.size (.slice none 0 0) _ v' w') => hp.below hls.wt (Nat.le_refl _) (Nat.le_refl _) hba)
  have HT := hide1 ht
  have hz := hls.ld.lt
  clear hls hba ht
  go_enter Tryd.func26, Tryd.ntmps26
  go_wp2_with (go_at_call 12; refine HB.out.mono ?_; rintro e w' ⟨rfl, rfl⟩)
  refine HP.out.mono ?_
  rintro e w2 ⟨begun2, enc2, mark2, t2, R2, v2, ws2, rfl, hL2, hI2, hP2⟩
  have hb2 := HW.out _ _ hP2
  have hz2 := hL2.ld.lt
  have HE := hide1 (end_any _ _ mode enc2 begun2 mark2 t2 R2 v2 ws2 b w2 (HT.out.below hb2) hL2 (by simpa using hI2) hl h0 h7)
  clear hL2 hI2 hP2 HP HW HB
  go_wp2_with fail
  refine HE.out.mono ?_
  rintro e w3 ⟨p, rfl, _, hd, hb3⟩
  go_wp2_with fail
  go_ret2
  exact ⟨p, rfl, hd, hb2.trans (hb3.mono hb2.size)⟩
end Go.Proofs.YtjbfgnhkgjigpaaDoor

namespace Go.Proofs.YtjbfgnhkgjigpaaDoor
open Go.RowKit
variable {T : World → Prop} {D : World → Nat → Int → Bool → ByteArray → Prop}

theorem rstate_any (B : Nat) (enc : Int) (mark : Bool) (body : ByteArray) (w : World) (hd : RDoc w B enc mark body) (hs : body.size ≤ 1099511627776) (h0 : 0 ≤ enc) (h3 : enc ≤ 3) :
    Calls Tryd.prog 31 #[.pointer (some ⟨B, 0, none⟩)] w fun e w' => e = .returned (shown enc mark body) ∧ Below w.heap.size w w' :=
  (rshow_any B enc mark body w hd hs h0 h3).mono (fun _ _ h => ⟨h.1 _ rfl, h.2⟩)
theorem shown_parts (enc : Int) (mark : Bool) (body : ByteArray) : ∃ n2 n3 n4 n5 n6 t7 n8, shown enc mark body = .agg #[.int .i64 enc, .bool mark, .int .i64 n2, .int .i64 n3, .int .i64 n4, .int .i64 n5, .int .i64 n6, .bool t7, .int .i64 n8] := ⟨_, _, _, _, _, _, _, rfl⟩

theorem looked_kept {W w w' : World} {q C r : Nat} {enc : Int} {mark : Bool} {body : ByteArray} {u v0 v1 v2 v3 v4 v5 v6 v7 v8 : Value} (h : w.cell? ⟨q, 1, none⟩ = some u ∧ w.cell? ⟨C, 0, none⟩ = some v0 ∧ w.cell? ⟨C, 1, none⟩ = some v1 ∧ w.cell? ⟨C, 2, none⟩ = some v2 ∧ w.cell? ⟨C, 3, none⟩ = some v3 ∧ w.cell? ⟨C, 4, none⟩ = some v4 ∧ w.cell? ⟨C, 5, none⟩ = some v5 ∧ w.cell? ⟨C, 6, none⟩ = some v6 ∧ w.cell? ⟨C, 7, none⟩ = some v7 ∧ w.cell? ⟨C, 8, none⟩ = some v8 ∧ RDoc w r enc mark body ∧ Below W.heap.size W w) (hb : Below w.heap.size w w') : w'.cell? ⟨q, 1, none⟩ = some u ∧ w'.cell? ⟨C, 0, none⟩ = some v0 ∧ w'.cell? ⟨C, 1, none⟩ = some v1 ∧ w'.cell? ⟨C, 2, none⟩ = some v2 ∧ w'.cell? ⟨C, 3, none⟩ = some v3 ∧ w'.cell? ⟨C, 4, none⟩ = some v4 ∧ w'.cell? ⟨C, 5, none⟩ = some v5 ∧ w'.cell? ⟨C, 6, none⟩ = some v6 ∧ w'.cell? ⟨C, 7, none⟩ = some v7 ∧ w'.cell? ⟨C, 8, none⟩ = some v8 ∧ RDoc w' r enc mark body ∧ Below W.heap.size W w' := by
  obtain ⟨h, c0, c1, c2, c3, c4, c5, c6, c7, c8, d, k⟩ := h
  have g : ∀ b o v, w.cell? ⟨b, o, none⟩ = some v → w'.cell? ⟨b, o, none⟩ = some v := fun b o v h => (hb.cell (p := ⟨b, o, none⟩) (block_lt h)).trans h
  exact ⟨g _ _ _ h, g _ _ _ c0, g _ _ _ c1, g _ _ _ c2, g _ _ _ c3, g _ _ _ c4, g _ _ _ c5, g _ _ _ c6, g _ _ _ c7, g _ _ _ c8, d.below hb, k.trans (hb.mono k.size)⟩
theorem looked_drew {W w : World} {q C r : Nat} {enc : Int} {mark : Bool} {body : ByteArray} {u v0 v1 v2 v3 v4 v5 v6 v7 v8 : Value} (h : w.cell? ⟨q, 1, none⟩ = some u ∧ w.cell? ⟨C, 0, none⟩ = some v0 ∧ w.cell? ⟨C, 1, none⟩ = some v1 ∧ w.cell? ⟨C, 2, none⟩ = some v2 ∧ w.cell? ⟨C, 3, none⟩ = some v3 ∧ w.cell? ⟨C, 4, none⟩ = some v4 ∧ w.cell? ⟨C, 5, none⟩ = some v5 ∧ w.cell? ⟨C, 6, none⟩ = some v6 ∧ w.cell? ⟨C, 7, none⟩ = some v7 ∧ w.cell? ⟨C, 8, none⟩ = some v8 ∧ RDoc w r enc mark body ∧ Below W.heap.size W w) : w.drew.cell? ⟨q, 1, none⟩ = some u ∧ w.drew.cell? ⟨C, 0, none⟩ = some v0 ∧ w.drew.cell? ⟨C, 1, none⟩ = some v1 ∧ w.drew.cell? ⟨C, 2, none⟩ = some v2 ∧ w.drew.cell? ⟨C, 3, none⟩ = some v3 ∧ w.drew.cell? ⟨C, 4, none⟩ = some v4 ∧ w.drew.cell? ⟨C, 5, none⟩ = some v5 ∧ w.drew.cell? ⟨C, 6, none⟩ = some v6 ∧ w.drew.cell? ⟨C, 7, none⟩ = some v7 ∧ w.drew.cell? ⟨C, 8, none⟩ = some v8 ∧ RDoc w.drew r enc mark body ∧ Below W.heap.size W w.drew := looked_kept h ((Below.refl _ _).drew)

set_option maxRecDepth 100000 in
set_option maxHeartbeats 4000000 in
theorem looked_any (api : Api T D) (q p r : Nat) (enc : Int) (mark : Bool) (body : ByteArray) (w : World) (ht : T w) (hp : w.cell? ⟨q, 0, none⟩ = some (.pointer (some ⟨p, 0, none⟩))) (hr : w.cell? ⟨q, 1, none⟩ = some (.pointer (some ⟨r, 0, none⟩)))
    (hd : D w p enc mark body) (hw : RDoc w r enc mark body) (hs : body.size ≤ 1099511627000) (h0 : 0 ≤ enc) (h3 : enc ≤ 3) :
    Calls Tryd.prog 9 #[.pointer (some ⟨q, 0, none⟩)] w fun e w' => e = .returned (.bool true) ∧ Below w.heap.size w w' := by
  have a1 := fun w => api.save p enc mark body w
  have a2 := fun w => api.text p enc mark body w
  have a3 := fun w => api.state p enc mark body w
  have a4 := fun w => api.stable p enc mark body w
  have b1 := fun w h => rsave_any r enc mark body w h (by omega) h0 h3
  have b2 := fun w h => rtext_any r enc mark body w h (by omega) h0 h3
  have b3 := fun w h => rstate_any r enc mark body w h (by omega) h0 h3
  have b4 := fun w h => rstable_any r enc mark body w h hs h0 h3
  obtain ⟨n2, n3, n4, n5, n6, t7, n8, hsh⟩ := shown_parts enc mark body
  rw [hsh] at a3 b3
  clear hsh
  generalize bytesOf enc mark body = X1 at *
  generalize strOfNums (Vm.textL (Vm.atoms enc body.data.toList)) = X2 at *
  generalize stableB enc mark body = X4 at *
  have A1 := hide2 a1
  have A2 := hide2 a2
  have A3 := hide2 a3
  have A4 := hide2 a4
  have B1 := hide2 b1
  have B2 := hide2 b2
  have B3 := hide2 b3
  have B4 := hide2 b4
  clear a1 a2 a3 a4 b1 b2 b3 b4
  go_enter Tryd.func9, Tryd.ntmps9
  go_wp2_with fail
  refine (A1.out w ht hd).mono ?_
  rintro e w1 ⟨rfl, hb1⟩
  have ht1 := api.tab ht hb1
  have hd1 := api.low hd hb1
  have hp1 := (hb1.cell (p := ⟨q, 0, none⟩) (block_lt hp)).trans hp
  have hr1 := (hb1.cell (p := ⟨q, 1, none⟩) (block_lt hp)).trans hr
  have hw1 := hw.below hb1
  go_wp2_with fail
  refine (A2.out w1 ht1 hd1).mono ?_
  rintro e w2 ⟨rfl, hb2⟩
  have ht2 := api.tab ht1 hb2
  have hd2 := api.low hd1 hb2
  have hp2 := (hb2.cell (p := ⟨q, 0, none⟩) (block_lt hp1)).trans hp1
  have hr2 := (hb2.cell (p := ⟨q, 1, none⟩) (block_lt hp1)).trans hr1
  have hw2 := hw1.below hb2
  go_wp2_with fail
  refine (A3.out w2 ht2 hd2).mono ?_
  rintro e w3 ⟨rfl, hb3⟩
  have hba := (Below.refl w3.heap.size w3).alloc (Nat.le_refl _) (.cells #[.int .i64 enc, .bool mark, .int .i64 n2, .int .i64 n3, .int .i64 n4, .int .i64 n5, .int .i64 n6, .bool t7, .int .i64 n8] 50)
  have hb3' := hb3.trans (hba.mono hb3.size)
  have ht3 := api.tab ht2 hb3'
  have hd3 := api.low hd2 hb3'
  have hp3 := (hb3'.cell (p := ⟨q, 0, none⟩) (block_lt hp2)).trans hp2
  have hr3 := (hb3'.cell (p := ⟨q, 1, none⟩) (block_lt hp2)).trans hr2
  have hw3 := hw2.below hb3'
  have bx := Bx9.new w3 50 (.int .i64 enc) (.bool mark) (.int .i64 n2) (.int .i64 n3) (.int .i64 n4) (.int .i64 n5) (.int .i64 n6) (.bool t7) (.int .i64 n8)
  have hqz := block_lt hp2
  have hqz3 : q < w3.heap.size := Nat.lt_of_lt_of_le hqz hb3.size
  have hp3' := (hb3.cell (p := ⟨q, 0, none⟩) (block_lt hp2)).trans hp2
  have hr3' := (hb3.cell (p := ⟨q, 1, none⟩) (block_lt hp2)).trans hr2
  have BX := hide2 bx
  clear bx
  go_wp2_with fail
  refine (A4.out _ ht3 hd3).mono ?_
  rintro e w4 ⟨rfl, hb4⟩
  have hp4 := (hb4.cell (p := ⟨q, 0, none⟩) (block_lt hp3)).trans hp3
  have hr4 := (hb4.cell (p := ⟨q, 1, none⟩) (block_lt hp3)).trans hr3
  have hw4 := hw3.below hb4
  have bx4 := BX.out.below hb4
  have hb04 : Below w.heap.size w w4 := ((hb1.trans (hb2.mono hb1.size)).trans (hb3'.mono (Nat.le_trans hb1.size hb2.size))).trans (hb4.mono (Nat.le_trans hb1.size (Nat.le_trans hb2.size hb3'.size)))
  clear hp hr hp1 hr1 hp2 hr2 hp3 hr3 hp3' hr3' ht hd hw ht1 hd1 hw1 ht2 hd2 hw2 ht3 hd3 hw3 hba hb3' hb1 hb2 hb3 hqz hqz3 A1 A2 A3 A4 BX hb4
  obtain ⟨c0, c1, c2, c3, c4, c5, c6, c7, c8, _⟩ := bx4
  generalize w3.heap.size = C at *
  have hS0 : w4.cell? ⟨q, 1, none⟩ = some (.pointer (some ⟨r, 0, none⟩)) ∧ w4.cell? ⟨C, 0, none⟩ = some (.int .i64 enc) ∧ w4.cell? ⟨C, 1, none⟩ = some (.bool mark) ∧ w4.cell? ⟨C, 2, none⟩ = some (.int .i64 n2) ∧ w4.cell? ⟨C, 3, none⟩ = some (.int .i64 n3) ∧ w4.cell? ⟨C, 4, none⟩ = some (.int .i64 n4) ∧ w4.cell? ⟨C, 5, none⟩ = some (.int .i64 n5) ∧ w4.cell? ⟨C, 6, none⟩ = some (.int .i64 n6) ∧ w4.cell? ⟨C, 7, none⟩ = some (.bool t7) ∧ w4.cell? ⟨C, 8, none⟩ = some (.int .i64 n8) ∧ RDoc w4 r enc mark body ∧ Below w4.heap.size w4 w4 := ⟨hr4, c0, c1, c2, c3, c4, c5, c6, c7, c8, hw4, Below.refl w4.heap.size w4⟩
  have hS := hide2 hS0
  clear hS0
  have hw4d : RDoc w4.drew r enc mark body := hw4.below ((Below.refl _ _).drew)
  have hSd := looked_drew hS.out
  go_wp2_with fail
  go_region_held3 (fun w' => w'.cell? ⟨q, 1, none⟩ = some (.pointer (some ⟨r, 0, none⟩)) ∧ w'.cell? ⟨C, 0, none⟩ = some (.int .i64 enc) ∧ w'.cell? ⟨C, 1, none⟩ = some (.bool mark) ∧ w'.cell? ⟨C, 2, none⟩ = some (.int .i64 n2) ∧ w'.cell? ⟨C, 3, none⟩ = some (.int .i64 n3) ∧ w'.cell? ⟨C, 4, none⟩ = some (.int .i64 n4) ∧ w'.cell? ⟨C, 5, none⟩ = some (.int .i64 n5) ∧ w'.cell? ⟨C, 6, none⟩ = some (.int .i64 n6) ∧ w'.cell? ⟨C, 7, none⟩ = some (.bool t7) ∧ w'.cell? ⟨C, 8, none⟩ = some (.int .i64 n8) ∧ RDoc w' r enc mark body ∧ Below w4.heap.size w4 w')
    (first | assumption | exact hS.out | exact looked_drew hS.out)
    (first
      | (go_at_call 29; refine (B1.out _ (by assumption)).mono ?_; rintro e w5 ⟨rfl, hb5⟩; have hw5 := RDoc.below (B := r) (enc := enc) (mark := mark) (body := body) (by assumption) hb5; have hS5 := looked_kept (by assumption) hb5)
      | (go_at_call 30; refine (B2.out _ (by assumption)).mono ?_; rintro e w6 ⟨rfl, hb6⟩; have hw6 := RDoc.below (B := r) (enc := enc) (mark := mark) (body := body) (by assumption) hb6; have hS6 := looked_kept (by assumption) hb6)
      | (go_at_call 31; refine (B3.out _ (by assumption)).mono ?_; rintro e w7 ⟨rfl, hb7⟩; have hw7 := RDoc.below (B := r) (enc := enc) (mark := mark) (body := body) (by assumption) hb7; have hS7 := looked_kept (by assumption) hb7)
      | (go_at_call 32; refine (B4.out _ (by assumption)).mono ?_; rintro e w8 ⟨rfl, hb8⟩; have hw8 := RDoc.below (B := r) (enc := enc) (mark := mark) (body := body) (by assumption) hb8; have hS8 := looked_kept (by assumption) hb8))
  have hb48 : Below w4.heap.size w4 w8 := hS8.2.2.2.2.2.2.2.2.2.2.2
  clear hS5 hS6 hS7 hS8
  go_wp2
  go_ret
  exact ⟨rfl, hb04.trans (hb48.mono hb04.size)⟩
end Go.Proofs.YtjbfgnhkgjigpaaDoor

namespace Go.Proofs.YtjbfgnhkgjigpaaDoor
open Go.RowKit
variable {T : World → Prop} {D : World → Nat → Int → Bool → ByteArray → Prop}

set_option maxRecDepth 100000 in
set_option maxHeartbeats 1000000 in
theorem loaded_ok (api : Api T D) (b : ByteArray) (mode : Int) (w : World) (ht : T w) (hs : b.size ≤ 1099511627000) (h0 : 0 ≤ mode) (h7 : mode ≤ 7) :
    Calls Tryd.prog 8 #[.string b, .int .i64 mode] w fun e w' => ∃ q p r, e = .returned (.tuple #[.pointer (some ⟨q, 0, none⟩), .bool true]) ∧ w'.cell? ⟨q, 0, none⟩ = some (.pointer (some ⟨p, 0, none⟩)) ∧ w'.cell? ⟨q, 1, none⟩ = some (.pointer (some ⟨r, 0, none⟩)) ∧
      D w' p (encOf b mode) (ofMark b (encOf b mode)) (ofBody b (encOf b mode)) ∧ RDoc w' r (encOf b mode) (ofMark b (encOf b mode)) (ofBody b (encOf b mode)) ∧ Below w.heap.size w w' := by
  have L := hide2 (fun w h => api.load b mode w h (by omega) h0 h7)
  have R := hide2 (fun w => rload_ok b mode w (by omega) h0 h7)
  go_enter Tryd.func8, Tryd.ntmps8
  go_wp2_with fail
  refine (L.out w ht).mono ?_
  rintro e w1 ⟨p, rfl, hd, hb1⟩
  go_wp2_with fail
  refine (R.out w1).mono ?_
  rintro e w2 ⟨r, rfl, hr1, hrd, hb2⟩
  have hd2 := api.low hd hb2
  have hb12 := hb1.trans (hb2.mono hb1.size)
  go_wp2_with fail
  have hba := (Below.refl w2.heap.size w2).alloc (Nat.le_refl _) (.cells #[.pointer (some ⟨p, 0, none⟩), .pointer (some ⟨r, 0, none⟩)] 28)
  go_ret2
  exact ⟨w2.heap.size, p, r, rfl, by simp, by simp, api.low hd2 hba, hrd.below hba, hb12.trans (hba.mono hb12.size)⟩

set_option maxRecDepth 100000 in
set_option maxHeartbeats 1000000 in
theorem loaded_no (api : Api T D) (b : ByteArray) (mode : Int) (w : World) (ht : T w) (h : mode < 0 ∨ 7 < mode) :
    Calls Tryd.prog 8 #[.string b, .int .i64 mode] w fun e w' => ∃ q, e = .returned (.tuple #[.pointer (some ⟨q, 0, none⟩), .bool true]) ∧ w'.cell? ⟨q, 0, none⟩ = some (.pointer none) ∧ Below w.heap.size w w' := by
  have L := hide2 (fun w k => api.load_no b mode w k h)
  have R := hide2 (fun w => rload_no b mode w h)
  go_enter Tryd.func8, Tryd.ntmps8
  go_wp2_with fail
  refine (L.out w ht).mono ?_
  rintro e w1 ⟨rfl, hb1⟩
  go_wp2_with fail
  refine (R.out w1).mono ?_
  rintro e w2 ⟨rfl, rfl⟩
  go_wp2_with fail
  have hba := (Below.refl w2.heap.size w2).alloc (Nat.le_refl _) (.cells #[.pointer none, .pointer none] 28)
  go_ret2
  exact ⟨w2.heap.size, rfl, by simp, hb1.trans (hba.mono hb1.size)⟩

set_option maxRecDepth 100000 in
set_option maxHeartbeats 1000000 in
theorem loads_any (api : Api T D) (b : ByteArray) (mode : Int) (w : World) (ht : T w) (hs : b.size ≤ 1099511627000) :
    Calls Tryd.prog 3 #[.string b, .int .i64 mode] w fun e w' => e = .returned (.bool true) ∧ Below w.heap.size w w' := by
  by_cases h : 0 ≤ mode ∧ mode ≤ 7
  · have L := hide2 (loaded_ok api b mode w ht hs h.1 h.2)
    have he := encOf_bd b mode
    have hbs := ofBody_size b (encOf b mode)
    go_enter Tryd.func3, Tryd.ntmps3
    go_wp2_with fail
    refine L.out.mono ?_
    rintro e w1 ⟨q, p, r, rfl, c0, c1, hd, hr, hb1⟩
    have K := hide2 (looked_any api q p r _ _ _ w1 (api.tab ht hb1) c0 c1 hd hr (by omega) he.1 he.2)
    go_wp2_with fail
    refine K.out.mono ?_
    rintro e w2 ⟨rfl, hb2⟩
    go_wp2
    go_ret
    exact ⟨rfl, hb1.trans (hb2.mono hb1.size)⟩
  · have L := hide2 (loaded_no api b mode w ht (by omega))
    go_enter Tryd.func3, Tryd.ntmps3
    go_wp2_with fail
    refine L.out.mono ?_
    rintro e w1 ⟨q, rfl, c0, hb1⟩
    go_wp2
    go_ret
    exact ⟨rfl, hb1⟩
end Go.Proofs.YtjbfgnhkgjigpaaDoor

namespace Go.Proofs.YtjbfgnhkgjigpaaDoor
open Go.RowKit

/-- The field j of the row i of a table of structs. -/
theorem tab_field {P : Program} {w : World} {base : Nat} {sp : Nat → Bool} {held : Bool} {fuel n i j : Nat} {t e : TypeId} {fs : Array Field} {f : Field} {cs : List Value} {rows flds : List (DataW Unit)} {d : DataW Unit} {p : List MemPlace}
    (ht : P.underlying t = some (.array n e)) (he : P.underlying e = some (.struct fs)) (h : DataW.trod (fun _ => ()) P w base sp held fuel t cs = some (.agg rows, p)) (hi : i < n) (hr : rows[i]? = some (.agg flds)) (hf : fs[j]? = some f) (hd : flds[j]? = some d) :
    ∃ m q, DataW.trod (fun _ => ()) P w base sp held m f.type ((((cs.drop (i * P.cellsOf e)).take (P.cellsOf e)).drop f.offset).take (P.cellsOf f.type)) = some (d, q) := by
  obtain ⟨xs, m, _, hx, _, hxl, hall⟩ := DataW.trod_array ht h
  have hx1 : rows = xs.map (fun y => y.1) := by
    have := congrArg Prod.fst hx
    injection this
  rw [hx1, List.getElem?_map] at hr
  obtain ⟨y, hy, hy2⟩ := Option.map_eq_some_iff.1 hr
  have h2 := hall i hi
  rw [hy] at h2
  obtain ⟨y1, y2⟩ := y
  simp only at hy2
  subst hy2
  obtain ⟨zs, m2, _, hz, _, hzl, hall2⟩ := DataW.trod_struct he h2
  have hz1 : flds = zs.map (fun y => y.1) := by
    have := congrArg Prod.fst hz
    injection this
  rw [hz1, List.getElem?_map] at hd
  obtain ⟨u, hu, hu2⟩ := Option.map_eq_some_iff.1 hd
  have h3 := hall2 j f hf
  rw [hu] at h3
  obtain ⟨u1, u2⟩ := u
  simp only at hu2
  subst hu2
  exact ⟨m2, u2, h3⟩
theorem cell_of_part {cs : List Value} {a b c d : Nat} {v : Value} (h : ((((cs.drop a).take b).drop c).take d) = [v]) : cs[a + c]? = some v := by
  have h1 := congrArg (fun l => l[0]?) h
  simp only [List.getElem?_take, List.getElem?_drop, List.getElem?_cons_zero] at h1
  split at h1
  · split at h1
    · simpa using h1
    · cases h1
  · cases h1
theorem tab_int {P : Program} {w : World} {base : Nat} {sp : Nat → Bool} {held : Bool} {fuel n i j : Nat} {t e : TypeId} {fs : Array Field} {f : Field} {cs : List Value} {rows flds : List (DataW Unit)} {k : IntKind} {z : Int} {p : List MemPlace}
    (ht : P.underlying t = some (.array n e)) (he : P.underlying e = some (.struct fs)) (h : DataW.trod (fun _ => ()) P w base sp held fuel t cs = some (.agg rows, p)) (hi : i < n) (hr : rows[i]? = some (.agg flds)) (hf : fs[j]? = some f) (hd : flds[j]? = some (.lit (.int k z))) (hu : P.underlying f.type = some (.int k)) :
    cs[i * P.cellsOf e + f.offset]? = some (.int k z) := by
  obtain ⟨m, q, h1⟩ := tab_field ht he h hi hr hf hd
  obtain ⟨z', hc, hx, _⟩ := DataW.trod_int hu h1
  have : z' = z := by
    have := congrArg Prod.fst hx
    simp only [DataW.lit.injEq, Lit.int.injEq, true_and] at this
    exact this.symm
  subst this
  exact cell_of_part hc
theorem tab_str {P : Program} {w : World} {base : Nat} {sp : Nat → Bool} {held : Bool} {fuel n i j : Nat} {t e : TypeId} {fs : Array Field} {f : Field} {cs : List Value} {rows flds : List (DataW Unit)} {l : List UInt8} {p : List MemPlace}
    (ht : P.underlying t = some (.array n e)) (he : P.underlying e = some (.struct fs)) (h : DataW.trod (fun _ => ()) P w base sp held fuel t cs = some (.agg rows, p)) (hi : i < n) (hr : rows[i]? = some (.agg flds)) (hf : fs[j]? = some f) (hd : flds[j]? = some (.lit (.string l))) (hu : P.underlying f.type = some .string) :
    cs[i * P.cellsOf e + f.offset]? = some (.string ⟨l.toArray⟩) := by
  obtain ⟨m, q, h1⟩ := tab_field ht he h hi hr hf hd
  obtain ⟨s, hc, hx, _⟩ := DataW.trod_string hu h1
  have : l = s.data.toList := by
    have := congrArg Prod.fst hx
    simp only [DataW.lit.injEq, Lit.string.injEq] at this
    exact this
  subst this
  simpa using cell_of_part hc

theorem gHalf : Tryd.prog.globalNamed "vellum/code.halves" = some 2 := by kernel_rfl
theorem gSeq : Tryd.prog.globalNamed "vellum/code.sequences" = some 3 := by kernel_rfl
theorem gEnc : Tryd.prog.globalNamed "vellum/code.encodings" = some 0 := by kernel_rfl
set_option maxRecDepth 100000 in
theorem half_of {W : World} {cs : Array Value} {fuel : Nat} {p : List MemPlace} (hv : W.var? Tryd.prog "vellum/code.halves" = some cs) (hd : DataW.trod (fun _ => ()) Tryd.prog W 0 (fun _ => true) false fuel 175 cs.toList = some (Rows.laid_vellum_code_halves, p)) : TabHalf W := by
  have hc : ∀ i v, cs.toList[i]? = some v → W.cell? ⟨2, i, none⟩ = some v := fun i v h => (World.var?_cell gHalf hv i).trans (by rw [← Array.getElem?_toList]; exact h)
  have ce : Tryd.prog.cellsOf 174 = 2 := by kernel_rfl
  have c0 := tab_int (i := 0) (j := 0) Tryd.underlying175 Tryd.underlying174 hd (by decide) rfl rfl rfl Tryd.underlying21
  have c1 := tab_int (i := 0) (j := 1) Tryd.underlying175 Tryd.underlying174 hd (by decide) rfl rfl rfl Tryd.underlying21
  have c2 := tab_int (i := 1) (j := 0) Tryd.underlying175 Tryd.underlying174 hd (by decide) rfl rfl rfl Tryd.underlying21
  have c3 := tab_int (i := 1) (j := 1) Tryd.underlying175 Tryd.underlying174 hd (by decide) rfl rfl rfl Tryd.underlying21
  rw [ce] at c0 c1 c2 c3
  exact ⟨hc 0 _ c0, hc 1 _ c1, hc 2 _ c2, hc 3 _ c3⟩
set_option maxRecDepth 100000 in
theorem enc_of {W : World} {cs : Array Value} {fuel : Nat} {p : List MemPlace} (hv : W.var? Tryd.prog "vellum/code.encodings" = some cs) (hd : DataW.trod (fun _ => ()) Tryd.prog W 0 (fun _ => true) false fuel 152 cs.toList = some (Rows.laid_vellum_code_encodings, p)) : TabEnc W := by
  have hc : ∀ i v, cs.toList[i]? = some v → W.cell? ⟨0, i, none⟩ = some v := fun i v h => (World.var?_cell gEnc hv i).trans (by rw [← Array.getElem?_toList]; exact h)
  have ce : Tryd.prog.cellsOf 151 = 4 := by kernel_rfl
  have m0 := tab_str (i := 0) (j := 0) Tryd.underlying152 Tryd.underlying151 hd (by decide) rfl rfl rfl Tryd.underlying9
  have g0 := tab_int (i := 0) (j := 1) Tryd.underlying152 Tryd.underlying151 hd (by decide) rfl rfl rfl Tryd.underlying21
  have l0 := tab_int (i := 0) (j := 2) Tryd.underlying152 Tryd.underlying151 hd (by decide) rfl rfl rfl Tryd.underlying3
  have h0 := tab_int (i := 0) (j := 3) Tryd.underlying152 Tryd.underlying151 hd (by decide) rfl rfl rfl Tryd.underlying3
  have m1 := tab_str (i := 1) (j := 0) Tryd.underlying152 Tryd.underlying151 hd (by decide) rfl rfl rfl Tryd.underlying9
  have g1 := tab_int (i := 1) (j := 1) Tryd.underlying152 Tryd.underlying151 hd (by decide) rfl rfl rfl Tryd.underlying21
  have l1 := tab_int (i := 1) (j := 2) Tryd.underlying152 Tryd.underlying151 hd (by decide) rfl rfl rfl Tryd.underlying3
  have h1 := tab_int (i := 1) (j := 3) Tryd.underlying152 Tryd.underlying151 hd (by decide) rfl rfl rfl Tryd.underlying3
  have m2 := tab_str (i := 2) (j := 0) Tryd.underlying152 Tryd.underlying151 hd (by decide) rfl rfl rfl Tryd.underlying9
  have g2 := tab_int (i := 2) (j := 1) Tryd.underlying152 Tryd.underlying151 hd (by decide) rfl rfl rfl Tryd.underlying21
  have l2 := tab_int (i := 2) (j := 2) Tryd.underlying152 Tryd.underlying151 hd (by decide) rfl rfl rfl Tryd.underlying3
  have h2 := tab_int (i := 2) (j := 3) Tryd.underlying152 Tryd.underlying151 hd (by decide) rfl rfl rfl Tryd.underlying3
  have m3 := tab_str (i := 3) (j := 0) Tryd.underlying152 Tryd.underlying151 hd (by decide) rfl rfl rfl Tryd.underlying9
  have g3 := tab_int (i := 3) (j := 1) Tryd.underlying152 Tryd.underlying151 hd (by decide) rfl rfl rfl Tryd.underlying21
  have l3 := tab_int (i := 3) (j := 2) Tryd.underlying152 Tryd.underlying151 hd (by decide) rfl rfl rfl Tryd.underlying3
  have h3 := tab_int (i := 3) (j := 3) Tryd.underlying152 Tryd.underlying151 hd (by decide) rfl rfl rfl Tryd.underlying3
  rw [ce] at m0 g0 l0 h0 m1 g1 l1 h1 m2 g2 l2 h2 m3 g3 l3 h3
  exact ⟨hc 0 _ m0, hc 1 _ g0, hc 2 _ l0, hc 3 _ h0, hc 4 _ m1, hc 5 _ g1, hc 6 _ l1, hc 7 _ h1, hc 8 _ m2, hc 9 _ g2, hc 10 _ l2, hc 11 _ h2, hc 12 _ m3, hc 13 _ g3, hc 14 _ l3, hc 15 _ h3⟩
set_option maxRecDepth 100000 in
theorem seq_of {W : World} {cs : Array Value} {fuel : Nat} {p : List MemPlace} (hv : W.var? Tryd.prog "vellum/code.sequences" = some cs) (hd : DataW.trod (fun _ => ()) Tryd.prog W 0 (fun _ => true) false fuel 178 cs.toList = some (Rows.laid_vellum_code_sequences, p)) : TabSeq W := by
  have hc : ∀ i v, cs.toList[i]? = some v → W.cell? ⟨3, i, none⟩ = some v := fun i v h => (World.var?_cell gSeq hv i).trans (by rw [← Array.getElem?_toList]; exact h)
  have ce : Tryd.prog.cellsOf 171 = 5 := by kernel_rfl
  have hk11 : ∀ k : Nat, k < 11 → k = 0 ∨ k = 1 ∨ k = 2 ∨ k = 3 ∨ k = 4 ∨ k = 5 ∨ k = 6 ∨ k = 7 ∨ k = 8 ∨ k = 9 ∨ k = 10 := fun k h => by omega
  have a : ∀ k : Nat, k < 11 → W.cell? ⟨3, k * 5 + 0, none⟩ = some (.int .u8 (Vm.sqUp k)) := by
    intro k hk
    rcases hk11 k hk with rfl | rfl | rfl | rfl | rfl | rfl | rfl | rfl | rfl | rfl | rfl
    all_goals
      have c := tab_int (j := 0) Tryd.underlying178 Tryd.underlying171 hd hk rfl rfl rfl Tryd.underlying5
      rw [ce] at c
      exact hc _ _ c
  have b : ∀ k : Nat, k < 11 → W.cell? ⟨3, k * 5 + 1, none⟩ = some (.int .i64 (Vm.sqSize k)) := by
    intro k hk
    rcases hk11 k hk with rfl | rfl | rfl | rfl | rfl | rfl | rfl | rfl | rfl | rfl | rfl
    all_goals
      have c := tab_int (j := 1) Tryd.underlying178 Tryd.underlying171 hd hk rfl rfl rfl Tryd.underlying3
      rw [ce] at c
      exact hc _ _ c
  have c : ∀ k : Nat, k < 11 → W.cell? ⟨3, k * 5 + 2, none⟩ = some (.int .u8 (Vm.sqBits k)) := by
    intro k hk
    rcases hk11 k hk with rfl | rfl | rfl | rfl | rfl | rfl | rfl | rfl | rfl | rfl | rfl
    all_goals
      have c := tab_int (j := 2) Tryd.underlying178 Tryd.underlying171 hd hk rfl rfl rfl Tryd.underlying5
      rw [ce] at c
      exact hc _ _ c
  have d : ∀ k : Nat, k < 11 → W.cell? ⟨3, k * 5 + 3, none⟩ = some (.int .u8 (Vm.sqLeast k)) := by
    intro k hk
    rcases hk11 k hk with rfl | rfl | rfl | rfl | rfl | rfl | rfl | rfl | rfl | rfl | rfl
    all_goals
      have c := tab_int (j := 3) Tryd.underlying178 Tryd.underlying171 hd hk rfl rfl rfl Tryd.underlying5
      rw [ce] at c
      exact hc _ _ c
  have e : ∀ k : Nat, k < 11 → W.cell? ⟨3, k * 5 + 4, none⟩ = some (.int .u8 (Vm.sqMost k)) := by
    intro k hk
    rcases hk11 k hk with rfl | rfl | rfl | rfl | rfl | rfl | rfl | rfl | rfl | rfl | rfl
    all_goals
      have c := tab_int (j := 4) Tryd.underlying178 Tryd.underlying171 hd hk rfl rfl rfl Tryd.underlying5
      rw [ce] at c
      exact hc _ _ c
  exact ⟨a, b, c, d, e⟩
theorem tHalf : (Tryd.prog.globals[2]?).map (·.type) = some 175 := by kernel_rfl
theorem tSeq : (Tryd.prog.globals[3]?).map (·.type) = some 178 := by kernel_rfl
theorem tEnc : (Tryd.prog.globals[0]?).map (·.type) = some 152 := by kernel_rfl
/-- What every row's list gives. -/
theorem tabs_of_laid {W : World} (h : laidMetH Tryd.prog Rows.loadsRow.laid W) : Tabs W := by
  obtain ⟨ps, ⟨g1, t1, cs1, f1, p1, q1, hg1, ht1, hv1, hd1, ⟨g2, t2, cs2, f2, p2, q2, hg2, ht2, hv2, hd2, ⟨g3, t3, cs3, f3, p3, q3, hg3, ht3, hv3, hd3, _, _⟩, _⟩, _⟩, _⟩ := h
  obtain rfl := Option.some.inj (gEnc.symm.trans hg1)
  obtain rfl := Option.some.inj (gSeq.symm.trans hg2)
  obtain rfl := Option.some.inj (gHalf.symm.trans hg3)
  obtain rfl := Option.some.inj (tEnc.symm.trans ht1)
  obtain rfl := Option.some.inj (tSeq.symm.trans ht2)
  obtain rfl := Option.some.inj (tHalf.symm.trans ht3)
  exact ⟨seq_of hv2 hd2, half_of hv3 hd3, enc_of hv1 hd1⟩
end Go.Proofs.YtjbfgnhkgjigpaaDoor

namespace Go.Proofs.YtjbfgnhkgjigpaaDoor.loads
open Go.ChangeShapes Go.WideShapes Go.ChangeAt Go.RowKit

/-- Where no argument holds a place: what is asked behind the call. -/
theorem post_light {H : Type} {enc : TypeId × Value → H} {P : Program} {f : Func} {s : ChangeSpec} {apart fresh handsOn again : Bool} {W W' : World} {args : Array Value} {v : Value} {ds gs : List (DataW H)}
    (hW : DataW.Whole enc P f.params.toList s.vars apart W args.toList ds gs [])
    (hres : ∀ (b : Nat) (sp : Nat → Bool) (hd : Bool), DataW.TrodAll enc P W' b sp hd f.resultTypes.toList (v.resultList f.resultTypes.size) (s.fn H (ds ++ gs)).results [])
    (hargs : ∀ sp : Nat → Bool, DataW.TrodAll enc P W' 0 sp true f.params.toList args.toList (s.fn H (ds ++ gs)).args [])
    (hvars : ∀ sp : Nat → Bool, DataW.TrodVars enc P W' sp s.vars (s.fn H (ds ++ gs)).vars [])
    (hb : Below W.heap.size W W')
    (hok : ∀ (j : Nat) (t : TypeId) (r : Value), f.resultTypes[j]? = some t → (v.resultList f.resultTypes.size)[j]? = some r → Value.okWide P W' .any 0 t r) :
    s.post enc P f apart fresh handsOn again W args v W' := by
  refine ⟨ds, gs, [], [], [], [], hW, hres _ _ _, hargs _, hvars _, hb.frame _, fun _ => ?_⟩
  exact ⟨hok, _, _, [], ⟨[], [], trodAll_append (hargs _) (hres _ _ _), hvars _, rfl, fun _ _ hp => (by cases hp), fun _ => List.nodup_nil⟩, fun _ hp _ => (by cases hp)⟩
/-- A string among the arguments is no longer than the bound. -/
theorem bulk_str {H : Type} {l : List (DataW H)} {s : List UInt8} (h : DataW.lit (.string s) ∈ l) : s.length ≤ Rows.uptoBulkAll l := by
  induction l with
  | nil => cases h
  | cons x r ih =>
    simp only [Rows.uptoBulkAll]
    cases List.mem_cons.1 h with
    | inl e => rw [← e]; simp only [Rows.uptoBulk]; omega
    | inr e => have := ih e; omega
theorem own : ownKnob Tryd.prog.godebug = none := by kernel_rfl

set_option maxRecDepth 100000 in
theorem contract {D : World → Nat → Int → Bool → ByteArray → Prop} (api : Api Tabs D) (H : Type) (enc : TypeId × Value → H) (W : World) (base : Nat) (args : Array Value) (ds gs : List (DataW H)) (before : List MemPlace)
    (hval : ∀ (j : Nat) t v, Tryd.f3.params[j]? = some t → args[j]? = some v → Value.okWide Tryd.prog W .any base t v)
    (hW : DataW.Whole enc Tryd.prog Tryd.f3.params.toList Rows.loadsSpec.vars false W args.toList ds gs before) (hL : laidMetH Tryd.prog Rows.loadsRow.laid W)
    (hB : ∀ s : List UInt8, DataW.lit (.string s) ∈ ds → s.length ≤ 1048576) :
    Calls Tryd.prog 3 args W fun e W' => ∃ v, e = .returned v ∧ Rows.loadsSpec.post enc Tryd.prog Tryd.f3 false true false false W args v W' := by
  have hW' := hW
  obtain ⟨p, q, hA0, hV, rfl, hfz, hnd⟩ := hW
  have hA : DataW.TrodAll enc Tryd.prog W 0 (fun _ => true) true Tryd.f3.params.toList args.toList ds p := hA0
  rw [Tryd.params3] at hA hval
  obtain ⟨v0, vs0, d0, ds0, p0, q0, hargs, rfl, rfl, h0, r0⟩ := trodAll_cons hA
  obtain ⟨v1, vs1, d1, ds1, p1, q1, hargs1, rfl, rfl, h1, r1⟩ := trodAll_cons r0
  obtain ⟨rfl, rfl, rfl⟩ := trodAll_nil r1
  obtain rfl : args = #[v0, v1] := by cases args; simp_all
  obtain ⟨rfl, rfl⟩ := trodVars_none hV
  obtain ⟨s, rfl, rfl, rfl, hs⟩ := Go.ChangeMaps.open_string Tryd.underlying9 (hval 0 9 v0 rfl rfl) h0
  obtain ⟨n, rfl, rfl, rfl, hn⟩ := open_int Tryd.underlying3 (hval 1 3 v1 rfl rfl) h1
  clear hA0
  simp only [List.append_nil] at hW'
  have hsz : s.size ≤ 1048576 := hB s.data.toList (by simp)
  refine (loads_any api s n W (tabs_of_laid hL) (by omega)).mono fun e W' ⟨he, hb⟩ => ?_
  subst he
  exact ⟨_, rfl, post_light hW' (fun _ _ _ => trodAll_cons_mk (shut_bool Tryd.underlying4 _) trodAll_mk0)
    (fun _ => trodAll_cons_mk (Go.ChangeMaps.shut_string Tryd.underlying9 hs) (trodAll_cons_mk (shut_int Tryd.underlying3 hn) trodAll_mk0)) (fun _ => rfl) hb
    (ok_one (by kernel_rfl) rfl (okWide_bool_mk Tryd.underlying4 _))⟩

def putCells (cs : Array Value) : Obj → Obj
  | .cells _ t frozen => .cells cs t frozen
  | o => o
/-- A world for the witness: the settled one, the tables holding what their initialisers lay. -/
noncomputable def laidWorld (os : Os) : World :=
  { World.holding Tryd.prog os ⟨#[], #[], []⟩ with heap := (((World.holding Tryd.prog os ⟨#[], #[], []⟩).heap.modify 0 (putCells #[.string ⟨#[239, 187, 191]⟩, .int .i32 1114111, .int .i64 0, .int .i64 0, .string ⟨#[255, 254]⟩, .int .i32 1114111, .int .i64 0, .int .i64 1, .string ⟨#[254, 255]⟩, .int .i32 1114111, .int .i64 1, .int .i64 0, .string ⟨#[]⟩, .int .i32 255, .int .i64 0, .int .i64 0])).modify 3 (putCells #[.int .u8 127, .int .i64 1, .int .u8 127, .int .u8 0, .int .u8 0, .int .u8 193, .int .i64 2, .int .u8 0, .int .u8 255, .int .u8 0, .int .u8 223, .int .i64 2, .int .u8 31, .int .u8 128, .int .u8 191, .int .u8 224, .int .i64 3, .int .u8 15, .int .u8 160, .int .u8 191, .int .u8 236, .int .i64 3, .int .u8 15, .int .u8 128, .int .u8 191, .int .u8 237, .int .i64 3, .int .u8 15, .int .u8 128, .int .u8 159, .int .u8 239, .int .i64 3, .int .u8 15, .int .u8 128, .int .u8 191, .int .u8 240, .int .i64 4, .int .u8 7, .int .u8 144, .int .u8 191, .int .u8 243, .int .i64 4, .int .u8 7, .int .u8 128, .int .u8 191, .int .u8 244, .int .i64 4, .int .u8 7, .int .u8 128, .int .u8 143, .int .u8 255, .int .i64 2, .int .u8 0, .int .u8 255, .int .u8 0])).modify 2 (putCells #[.int .i32 55296, .int .i32 56319, .int .i32 56320, .int .i32 57343]) }
theorem laid_met (os : Os) : laidMet Tryd.prog Rows.loadsRow.laid ((laidWorld os).forCall (fun _ _ => 0) ⟨#[], #[.string ⟨#[]⟩, .int .i64 0], []⟩).memory :=
  laidMet_of_run' 8 (by kernel_rfl) (by kernel_rfl)
theorem reads (os : Os) {H : Type} (enc : TypeId × Value → H) : ∃ places, DataW.whole enc Tryd.prog ((laidWorld os).forCall (fun _ _ => 0) ⟨#[], #[.string ⟨#[]⟩, .int .i64 0], []⟩).memory Tryd.f3.params.toList Rows.loadsSpec.vars false #[Value.string ⟨#[]⟩, .int .i64 0].toList 8 = some ([.lit (.string []), .lit (.int .i64 0)], [], places) :=
  ⟨[], by kernel_rfl⟩

set_option maxRecDepth 100000 in
theorem liftedUpto {D : World → Nat → Int → Bool → ByteArray → Prop} (api : Api Tabs D) (os : Os) (started : os.Started) (H : Type) (enc : TypeId × Value → H) (F : Stop.Interp) :
    ReturnsInHanded {} Tryd.checked os 3 .any ((Rows.OpenSpec.upto Rows.loadsSpec).preRow enc Tryd.prog Tryd.f3 Rows.loadsUptoRow.domain false Rows.loadsUptoRow.laid) (((Rows.OpenSpec.upto Rows.loadsSpec).at F).post enc Tryd.prog Tryd.f3 false true false false) := by
  obtain ⟨places, hx⟩ := reads os enc
  refine returnsInHanded_of_row (C := Tryd.checked) (s := Rows.OpenSpec.upto Rows.loadsSpec) own started (by kernel_rfl) Tryd.func3
    (witness_row_at (enc := enc) (C := Tryd.checked) false (laidWorld os) #[.string ⟨#[]⟩, .int .i64 0] rfl (by kernel_rfl) (by kernel_rfl) (by kernel_rfl)
      (OpenSpec.preRow_of_cond 8 hx (by kernel_rfl) (fun k hk => by cases hk; kernel_rfl) (by kernel_rfl) (laid_met os))) ?_
  intro W base args ds gs before hval hW _ hcond _ hL _ _
  refine contract api H enc W base args ds gs before hval hW hL ?_
  intro s hs
  have hk := hcond _ rfl
  have h1 : Rows.uptoBulkAll (ds ++ gs) ≤ 1048576 := by simpa [Rows.uptoSmall] using hk
  exact Nat.le_trans (bulk_str (List.mem_append_left gs hs)) h1
theorem saidUpto {D : World → Nat → Int → Bool → ByteArray → Prop} (api : Api Tabs D) : Rows.LoadsUptoSaid :=
  OpenClaim.holds_of_cond 3 Tryd.f3 rfl rfl rfl rfl rfl rfl rfl ⟨rfl, rfl, rfl, rfl, rfl⟩ rfl rfl rfl rfl rfl (by kernel_rfl) Tryd.func3 (by kernel_rfl)
    (of_decide_eq_true (by kernel_rfl)) (by unfold Func.isWrapper; first | (rw [if_pos (by decide +kernel)]; kernel_rfl) | (rw [if_neg (by decide +kernel)]; exact ⟨rfl, rfl⟩))
    (fun os started H enc _ F => by rw [OpenClaim.pre_eq_preRow]; exact liftedUpto api os started H enc F)
/-- No parameter wants a stand-in; the program's own looks are off. -/
theorem plain (f : FuncId) (fn : Func) (hf : Tryd.pinned.checked.prog.funcNamed "vellum/vellumlaw.Loads" = some f) (hfn : Tryd.pinned.checked.prog.funcs[f]? = some fn) :
    true = Tryd.pinned.checked.prog.looks [] ∧ ∀ (j : Nat) t, fn.params[j]? = some t → Tryd.pinned.checked.prog.wantsStandIn t = false := by
  obtain rfl : f = 3 := Option.some.inj ((show Tryd.prog.funcNamed "vellum/vellumlaw.Loads" = some 3 by kernel_rfl).symm.trans hf) |>.symm
  obtain rfl : fn = Tryd.f3 := (Option.some.inj (Tryd.func3.symm.trans hfn)).symm
  refine ⟨by kernel_rfl, fun j t ht => ?_⟩
  rw [Tryd.params3] at ht
  have hm := Array.mem_of_getElem? ht
  have ht' : t = 9 ∨ t = 3 := by simpa using hm
  rcases ht' with rfl | rfl
  · exact (show Tryd.prog.wantsStandIn 9 = false by kernel_rfl)
  · exact (show Tryd.prog.wantsStandIn 3 = false by kernel_rfl)
/-- The second form's card. -/
theorem cardUpto {D : World → Nat → Int → Bool → ByteArray → Prop} (api : Api Tabs D) : Rows.LoadsUptoCardSaid :=
  Claim7.holds_tied_plain_at .later [] _ _ _ _ (saidUpto api) (fun _ h => by cases h) (by kernel_rfl) (fun _ h => by cases h) loadsUpto_row_tie rfl ⟨rfl, rfl⟩ (by kernel_rfl) rfl plain (by kernel_rfl)
end Go.Proofs.YtjbfgnhkgjigpaaDoor.loads

namespace Go.Proofs.YtjbfgnhkgjigpaaDoor
open Go.RowKit

/-- What the program's calls answer. -/
theorem api : Api Tabs DD where
  tab := fun h hb => h.below hb
  low := fun ⟨n, R, tail, h⟩ hb => ⟨n, R, tail, h.low hb⟩
  load := load_ok
  load_no := fun b mode w _ h => (load_no b mode w h).mono fun e w1 ⟨he, hw⟩ => ⟨he, by rw [hw]; exact Below.refl _ _⟩
  text := docText
  state := docShow
  save := docSave
  stable := docStable
theorem loads_upto_holds : Rows.LoadsUptoCardSaid := loads.cardUpto api
end Go.Proofs.YtjbfgnhkgjigpaaDoor
