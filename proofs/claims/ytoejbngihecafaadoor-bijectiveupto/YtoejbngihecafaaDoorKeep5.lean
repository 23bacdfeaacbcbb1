import Derived.OwnWalk
import Derived.Maps.AppendAt
import Derived.Test.YtoejbngihecafaaDoorKeep2
import Derived.Test.YtoejbngihecafaaDoorLaw5
import Derived.Test.YtoejbngihecafaaDoorQb
namespace Vm
open Go.Proofs.YtoejbngihecafaaDoor
/-- The first k offsets that are not inside. -/
def offL (A : List At) (k : Nat) : List Int := (List.range k).map (fun j => (bytesA (A.take j) : Int))
theorem offL_len (A : List At) (k : Nat) : (offL A k).length = k := by simp [offL]
theorem offL_succ (A : List At) (k : Nat) : offL A (k + 1) = offL A k ++ [(bytesA (A.take k) : Int)] := by simp [offL, List.range_succ]
theorem offL_at (A : List At) (n k : Nat) (h : k < n) : (offL A n)[k]? = some (bytesA (A.take k) : Int) := by simp [offL, h]
end Vm
namespace Go.Proofs.YtoejbngihecafaaDoor
open Go.RowKit
variable {T : World → Prop} {D : World → Nat → Int → Bool → ByteArray → Prop}

theorem Tryd.infoInt : (Tryd.prog.info? 3).map (fun i => (i.zero, i.size, i.bytes)) = some (some (.int .i64 0), 1, 8) := by kernel_rfl
def cellsI (zs : List Int) : List Value := zs.map (fun z => .int .i64 z)
/-- A list of ints in memory of the callee's own. -/
def OwnI (w : World) (base : Nat) (v : Value) (zs : List Int) : Prop := w.ownsRow base 3 1 v zs.length (cellsI zs)
theorem OwnI.below {w w' : World} {base : Nat} {v : Value} {zs : List Int} (h : OwnI w base v zs) (hb : Below w.heap.size w w') : OwnI w' base v zs := by
  refine ⟨h.1, ?_⟩
  rcases h.2 with x | ⟨g, cap, cur, e1, e2, e3, r⟩
  · exact .inl x
  · exact .inr ⟨g, cap, cur, e1, e2, (hb.block g (Array.getElem?_eq_some_iff.1 e3).1).trans e3, r⟩
theorem OwnI.lt {w : World} {base : Nat} {v : Value} {zs : List Int} (h : OwnI w base v zs) : ∀ k, v.ownBlock = some k → base ≤ k ∧ k < w.heap.size := World.ownsRow.lt h
theorem OwnI.cellAt {w : World} {base g n cap : Nat} {zs : List Int} (h : OwnI w base (.slice (some ⟨g, 0, none⟩) n cap) zs) (j : Nat) (z : Int) (hj : zs[j]? = some z) : w.cell? ⟨g, j, none⟩ = some (.int .i64 z) := by
  obtain rfl : n = zs.length := by
    rcases h.2 with ⟨x, _⟩ | ⟨_, _, _, x, _⟩
    · cases x
    · cases x; rfl
  have hl : j < zs.length := (List.getElem?_eq_some_iff.1 hj).1
  have := World.ownsRow.cellAt h j (by omega)
  rw [this]; simp [cellsI, hj]
theorem one_newI (w : World) (t : TypeId) (v0 : Value) : ∀ (j : Nat) (u : Value), [v0][j]? = some u → (w.alloc (.cells #[v0] t)).cell? ((⟨w.heap.size, 0, none⟩ : Addr).add j) = some u := by
  intro j u h
  have hp : (⟨w.heap.size, 0, none⟩ : Addr).add j = ⟨w.heap.size, j, none⟩ := by unfold Addr.add; split <;> simp_all
  rw [hp]
  have : j = 0 := by
    have := (List.getElem?_eq_some_iff.1 h).1
    simp at this; omega
  subst this
  simp at h; subst h; simp

set_option maxRecDepth 100000 in
set_option maxHeartbeats 2000000 in
theorem offsets_any (api : ApiL T D) (p : Nat) (enc : Int) (mark : Bool) (body : ByteArray) (w : World) (ht : T w) (hd : D w p enc mark body) (hs : (Vm.atoms enc body.data.toList).length ≤ 1073741824) :
    Calls Tryd.prog 21 #[.pointer (some ⟨p, 0, none⟩), .int .i64 (Vm.bytesA (Vm.atoms enc body.data.toList))] w fun e w' => ∃ g cap, e = .returned (.tuple #[.slice (some ⟨g, 0, none⟩) ((Vm.atoms enc body.data.toList).length + 1) cap, .bool true]) ∧ OwnI w' w.heap.size (.slice (some ⟨g, 0, none⟩) ((Vm.atoms enc body.data.toList).length + 1) cap) (Vm.offL (Vm.atoms enc body.data.toList) ((Vm.atoms enc body.data.toList).length + 1)) ∧ Below w.heap.size w w' := by
  have P1 := hide2 (fun o w1 (hb : Below w.heap.size w w1) => api.position p enc mark body o w1 (api.tab ht hb) (api.low hd hb))
  obtain ⟨i0, hi, hz0, hz1, hz2⟩ := info_parts Tryd.infoInt
  generalize Vm.atoms enc body.data.toList = A at *
  clear ht hd
  have hbl := Vm.bytesA_le A
  go_enter Tryd.func21, Tryd.ntmps21
  go_wp2_with fail
  obtain ⟨bs, hbs⟩ : ∃ bs, bs = Vm.bytesA A := ⟨_, rfl⟩
  rw [← hbs] at hbl ⊢
  have HBS := hide2 hbs
  clear hbs
  go_loopw [6, 7] (fun out o wx => ∃ (k n : Nat) (q : Option Addr) (cap : Nat), n ≤ bs + 1 ∧ o = .int .i64 n ∧ k ≤ A.length + 1 ∧ (∀ j, j < k → Vm.bytesA (A.take j) < n) ∧ (k ≤ A.length → n ≤ Vm.bytesA (A.take k)) ∧ out = .slice q k cap ∧ OwnI wx w.heap.size (.slice q k cap) (Vm.offL A k) ∧ Below w.heap.size w wx) (fun _ o _ => bs + 1 - (intOf o).toNat)
  case atStart => exact ⟨0, 0, none, 0, Nat.zero_le _, rfl, Nat.zero_le _, fun j hj => absurd hj (Nat.not_lt_zero j), fun _ => Nat.zero_le _, rfl, World.ownsRow_nil _ _ _ _, Below.refl _ _⟩
  case round =>
    obtain ⟨k, n, q, cap, hn, rfl, hk, hlo, hhi, rfl, hown, hbx⟩ := hrel
    have HO := hide2 hown
    have HLO := hide2 hlo
    have HHI := hide2 hhi
    clear hown hlo hhi
    by_cases hlt : n ≤ bs
    · have hltI : (n : Int) ≤ (bs : Int) := by omega
      have hkA : k ≤ A.length := by
        rcases Nat.lt_or_ge A.length k with h | h
        · have h1 := HLO.out A.length h
          rw [List.take_length, ← HBS.out] at h1; omega
        · exact h
      have hnk := HHI.out hkA
      by_cases heq : n = Vm.bytesA (A.take k)
      · have hV := Vm.posV_at (A := A) hkA
        rw [← heq] at hV
        have PX := hide2 (P1.out n)
        rw [hV] at PX
        simp only at PX
        have HV2 := hide2 heq
        clear hV heq
        go_wp2_with fail
        refine (PX.out _ hbx).mono ?_
        rintro e w1 ⟨rfl, hb1⟩
        have hbw := hbx.trans (hb1.mono hbx.size)
        have HO1 := hide2 (HO.out.below hb1)
        have hsz := hbw.size
        clear hb1 PX
        go_wp2_with (at_builtin; refine wpList_append_own _ rfl _ _ 33 rfl w.heap.size 3 i0 _ 1 8 Tryd.underlying33 hi hz0 hz1 hz2 rfl (by decide) _ k (cellsI (Vm.offL A k)) rfl ?hown ⟨w1.heap.size, 0, none⟩ 1 1 [.int .i64 n] rfl rfl ?hnews ?h1 ?h63 ?hby ?hbase ?hrest)
        case hown =>
          have h := HO1.out
          unfold OwnI at h
          rw [Vm.offL_len] at h
          exact World.ownsRow.alloc h _
        case hnews => exact one_newI _ _ _
        case h1 => simp [Value.oneCell']
        case h63 => unfold maxLen; omega
        case hby => omega
        case hbase => simp; omega
        case hrest =>
          intro v' w2 hown2 hgrow2 _
          obtain ⟨g', cap', rfl⟩ := ownsRow_succ hown2
          have hb2 : Below w.heap.size w w2 := (hbw.alloc hsz _).grown hgrow2 (by simp; omega) (fun k' hk' => (HO1.out.lt k' hk').1)
          have HO2 : Hid (OwnI w2 w.heap.size (.slice (some ⟨g', 0, none⟩) (k + 1) cap') (Vm.offL A (k + 1))) := by
            show OwnI _ _ _ _
            unfold OwnI
            rw [Vm.offL_len, Vm.offL_succ, ← HV2.out]
            simpa [cellsI] using hown2
          clear hown2 hgrow2
          go_wp2_with fail
          go_roundw
          case measure => simp [intOf]; omega
          case rel =>
            refine ⟨k + 1, n + 1, _, _, by omega, by go_num, by omega, fun j hj => ?_, fun hk1 => ?_, rfl, HO2.out, hb2⟩
            · by_cases hjk : j = k
              · subst hjk; rw [← HV2.out]; omega
              · have := HLO.out j (by omega); omega
            · have := Vm.bytesA_lt A k (k + 1) (by omega) hk1
              rw [← HV2.out] at this; omega
      · obtain ⟨k', rfl⟩ : ∃ k', k = k' + 1 := ⟨k - 1, by
          rcases Nat.eq_zero_or_pos k with h | h
          · subst h; simp [Vm.bytesA] at hnk heq; omega
          · omega⟩
        have hV := Vm.posV_in (A := A) (k := k') (o := n) (by omega) (by have := HLO.out k' (by omega); omega) (by omega)
        have PX := hide2 (P1.out n)
        rw [hV] at PX
        simp only at PX
        have HNE := hide2 (show n + 1 ≤ Vm.bytesA (A.take (k' + 1)) by omega)
        clear hV heq hnk
        go_wp2_with fail
        refine (PX.out _ hbx).mono ?_
        rintro e w1 ⟨rfl, hb1⟩
        have hbw := hbx.trans (hb1.mono hbx.size)
        have HO1 := hide2 (HO.out.below hb1)
        clear hb1 PX
        go_wp2_with fail
        go_roundw
        case measure => simp [intOf]; omega
        case rel =>
          refine ⟨k' + 1, n + 1, _, _, by omega, by go_num, by omega, fun j hj => ?_, fun hk1 => HNE.out, rfl, HO1.out, hbw⟩
          have := HLO.out j hj; omega
    · obtain rfl : n = bs + 1 := by omega
      have hkA : A.length + 1 ≤ k := by
        rcases Nat.lt_or_ge A.length k with h | h
        · exact h
        · have h1 := HHI.out h
          have h2 := Vm.bytesA_mono A k A.length h
          rw [List.take_length, ← HBS.out] at h2
          omega
      obtain rfl : k = A.length + 1 := by omega
      have ho := HO.out
      unfold OwnI at ho
      rw [Vm.offL_len] at ho
      obtain ⟨g, cap2, hg⟩ := ownsRow_succ ho
      injection hg with hg1 hg2 hg3
      subst hg1
      clear ho hg2 hkA
      have q0 := HO.out.cellAt 0 (Vm.bytesA (A.take 0)) (Vm.offL_at A _ 0 (by omega))
      have q1 := HO.out.cellAt A.length (Vm.bytesA (A.take A.length)) (Vm.offL_at A _ A.length (by omega))
      rw [List.take_length, ← HBS.out] at q1
      simp only [List.take_zero, Vm.bytesA, List.map_nil, List.sum_nil] at q0
      have hz := block_lt q0
      clear P1
      have hmo : Tryd.prog.follows Departure.mixedOrders = true := by kernel_rfl
      have x0 : ∀ x : Bl wr, x.val.cell? ⟨g, 0, none⟩ = some (.int .i64 ((0 : Nat) : Int)) := fun x => (x.2.cell (p := ⟨g, 0, none⟩) hz).trans q0
      have x1 : ∀ x : Bl wr, x.val.cell? ⟨g, A.length, none⟩ = some (.int .i64 bs) := fun x => (x.2.cell (p := ⟨g, A.length, none⟩) hz).trans q1
      have hzx : ∀ x : Bl wr, g < x.val.heap.size := fun x => block_lt (x0 x)
      have hl1 : (0 : Int) < ((A.length + 1 : Nat) : Int) := by omega
      have hw1 : IntKind.i64.wrap (((A.length + 1 : Nat) : Int) - 1) = (A.length : Int) := by rw [IntKind.wrap_i64]; omega
      go_wp2_with fail
      refine wp_region_bl hmo (by kernel_rfl) ?_
      repeat (go_big_quiet_step (fail))
      refine wpQuiet_nil ?_
      intro _ hw'
      obtain ⟨x5, hx5⟩ := hw'
      subst hx5
      go_wp2_with fail
      go_ret2
      exact ⟨g, cap, rfl, HO.out.below x5.2, hbx.trans (x5.2.mono hbx.size)⟩
end Go.Proofs.YtoejbngihecafaaDoor
