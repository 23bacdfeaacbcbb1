import Derived.Test.YtjbfgnhkgjigpaaGreatDoorGa6
import Derived.Test.YtjbfgnhkgjigpaaGreatDoorGc3
namespace Go.Proofs.YtjbfgnhkgjigpaaGreatDoor
open Go.RowKit Go.Shelf Go.Vit
attribute [local go_sem] Oper.semAt_some

theorem pair_bits (x y : Int) (h0 : 0 ≤ x) (h1 : x ≤ 1023) (h2 : 0 ≤ y) (h3 : y ≤ 1023) : bits BinOp.or IntKind.i32 (x * 1024) y = 1024 * x + y := by
  rw [bits_join .i32 31 (by decide) wraps_i32 10 (x * 1024) y (by omega) (by omega) (by omega) h2 (by omega) (by omega)]; omega

set_option maxHeartbeats 1600000 in
theorem readUnits_it (b : ByteArray) (enc : Int) (hb : b.size ≤ 1099511627776) (he : enc = 1 ∨ enc = 2) :
    ItersA Tryz.prog 153 (fun y => #[.string b, .int .i64 enc, y]) encSg (Vm.signs enc b.data.toList) (fun w => TabHalf w ∧ TabEnc w) := by
  intro M l J Jx W hM hJ hJx hN hY h0
  have i0 : ∀ w, (Instr.index 221 (.agg #[.int .i32 55296, .int .i32 56319, .int .i32 56320, .int .i32 57343]) (.int .i64 0)).run Tryz.prog w = .ok (.agg #[.int .i32 55296, .int .i32 56319]) w := fun _ => by kernel_rfl
  have i1 : ∀ w, (Instr.index 221 (.agg #[.int .i32 55296, .int .i32 56319, .int .i32 56320, .int .i32 57343]) (.int .i64 1)).run Tryz.prog w = .ok (.agg #[.int .i32 56320, .int .i32 57343]) w := fun _ => by kernel_rfl
  refine (callsIn_wide (n := 3)).1 ?_
  refine callsIn_of_wp Tryz.func153 rfl trivial ?_ rfl
  simp only [Tryz.ntmps153, List.size_toArray, List.length_cons, List.length_nil, Nat.reduceAdd, Nat.reduceSub, Array.replicate_succ, Array.replicate_zero, List.push_toArray, List.append_toArray, List.nil_append, List.cons_append]
  gi_wp2
  refine wpIn_scope_wide ?_
  gi_wp2
  refine wpIn_label ?_
  gi_wp2
  gi_loopw [6] (fun i wr => ∃ (k : Nat) (pre : List Vm.Sg), k ≤ b.size ∧ i = .int .i64 k ∧ Vm.signs enc b.data.toList = pre ++ Vm.signs enc (b.data.toList.drop k) ∧ J pre wr ∧ W.heap.size ≤ wr.heap.size) (fun i _ => b.size - (intOf i).toNat)
  case atStart => exact ⟨0, [], Nat.zero_le _, rfl, rfl, h0, Nat.le_refl _⟩
  case round =>
    obtain ⟨k, pre, hk, rfl, hs, hj, hwz⟩ := hrel
    by_cases hlt : k + 1 < b.size
    · obtain ⟨hth, hte⟩ := (hN pre wr hj).1
      have hMj := (hN pre wr hj).2
      have c0 := hth.c0
      have c1 := hth.c1
      have c2 := hth.c2
      have c3 := hth.c3
      have hz := block_lt c0
      have hU := Vm.unitO_bd enc b k
      have hV := Vm.unitO_bd enc b (k + 2)
      have hltI : (k : Int) + 1 < (b.size : Int) := by omega
      have Hs := hide hs
      clear hs
      gi_wp2
      refine wpIn_loop_rounds 3 ?_
      rw [roundsIn_succ]
      gi_wp2_with fail
      have be0 : Below wr.heap.size wr (wr.alloc (Obj.cells #[Value.int IntKind.i32 55296, Value.int IntKind.i32 56319] 220)) := (Below.refl _ _).alloc (Nat.le_refl _) _
      refine ⟨trivial, (callsIn_wide.2 (unit_int b _ _ _ hb (by omega) (by omega) he (hte.below be0))).mono ?_⟩
      rintro e w1 ⟨rfl, hb1⟩
      rw [Int.toNat_natCast]
      have be1 : Below wr.heap.size wr w1 := be0.trans (hb1.mono be0.size)
      have d0 : w1.cell? ⟨wr.heap.size, 0, none⟩ = some (.int .i32 55296) := (hb1.cell (p := ⟨wr.heap.size, 0, none⟩) (by simp)).trans (by simp)
      have d1 : w1.cell? ⟨wr.heap.size, 1, none⟩ = some (.int .i32 56319) := (hb1.cell (p := ⟨wr.heap.size, 1, none⟩) (by simp)).trans (by simp)
      by_cases hA1 : Vm.unitO enc b k < 55296
      · have hhead := Vm.unit_lone he hlt (by unfold Vm.isPair; omega)
        obtain ⟨hp2, hs2⟩ := Vm.sg_next Hs.out hhead
        have Hs2 := hide hs2
        have Hp2 := hide hp2
        clear hs2 hp2 hhead
        gi_wp2_with fail
        refine ⟨trivial, (callsIn_wide.2 (unit_int b _ _ _ hb (by omega) (by omega) he (hte.below be1))).mono ?_⟩
        rintro e w2 ⟨rfl, hb2⟩
        rw [Int.toNat_natCast]
        have be2 : Below wr.heap.size wr w2 := be1.trans (hb2.mono be1.size)
        gi_wp2_with fail
        refine ⟨trivial, (callsIn_wide.2 (alone_any _ _ (hth.below be2))).mono ?_⟩
        rintro e w5 ⟨rfl, hb5⟩
        have be5 : Below wr.heap.size wr w5 := be2.trans (hb5.mono be2.size)
        have hj5 := hJ pre _ w5 hj (ItStep.of_below be5 hwz hMj)
        obtain ⟨fn, tmps, assign, body, hy, hR⟩ := hY pre _ _ hj5 (Nat.le_trans hwz be5.size) Hp2.out
        have hy2 : (Instr.yield l #[.int .i32 (Vm.aloneI (Vm.unitO enc b k)), .int .i64 2]).run Tryz.prog w5 = .ok (.round l fn tmps assign body) w5 := hy
        clear hy
        gi_wp2
        refine (roundIn_any none hR).mono ?_
        rintro e W3 (⟨rfl, hJ3, hk3⟩ | ⟨rfl, hJx3, hkx⟩)
        · gi_wp2
          have hz3 := hk3.size
          have := be5.size
          refine ⟨⟨k + 2, _, by omega, by go_num, Hs2.out, hJ3, by omega⟩, by simp [intOf]; omega⟩
        · gi_wp2
          dsimp only [Exit.noGoto]
          refine bodyPost_ret (results_none rfl _ _ _) rfl ?_
          exact ⟨⟨_, rfl⟩, .inr ⟨_, ⟨_, Hs2.out.symm⟩, hJx3⟩⟩
      · by_cases hA2 : 56319 < Vm.unitO enc b k
        · have hhead := Vm.unit_lone he hlt (by unfold Vm.isPair; omega)
          obtain ⟨hp2, hs2⟩ := Vm.sg_next Hs.out hhead
          have Hs2 := hide hs2
          have Hp2 := hide hp2
          clear hs2 hp2 hhead
          gi_wp2_with fail
          refine ⟨trivial, (callsIn_wide.2 (unit_int b _ _ _ hb (by omega) (by omega) he (hte.below be1))).mono ?_⟩
          rintro e w2 ⟨rfl, hb2⟩
          rw [Int.toNat_natCast]
          have be2 : Below wr.heap.size wr w2 := be1.trans (hb2.mono be1.size)
          gi_wp2_with fail
          refine ⟨trivial, (callsIn_wide.2 (alone_any _ _ (hth.below be2))).mono ?_⟩
          rintro e w5 ⟨rfl, hb5⟩
          have be5 : Below wr.heap.size wr w5 := be2.trans (hb5.mono be2.size)
          have hj5 := hJ pre _ w5 hj (ItStep.of_below be5 hwz hMj)
          obtain ⟨fn, tmps, assign, body, hy, hR⟩ := hY pre _ _ hj5 (Nat.le_trans hwz be5.size) Hp2.out
          have hy2 : (Instr.yield l #[.int .i32 (Vm.aloneI (Vm.unitO enc b k)), .int .i64 2]).run Tryz.prog w5 = .ok (.round l fn tmps assign body) w5 := hy
          clear hy
          gi_wp2
          refine (roundIn_any none hR).mono ?_
          rintro e W3 (⟨rfl, hJ3, hk3⟩ | ⟨rfl, hJx3, hkx⟩)
          · gi_wp2
            have hz3 := hk3.size
            have := be5.size
            refine ⟨⟨k + 2, _, by omega, by go_num, Hs2.out, hJ3, by omega⟩, by simp [intOf]; omega⟩
          · gi_wp2
            dsimp only [Exit.noGoto]
            refine bodyPost_ret (results_none rfl _ _ _) rfl ?_
            exact ⟨⟨_, rfl⟩, .inr ⟨_, ⟨_, Hs2.out.symm⟩, hJx3⟩⟩
        · have hA3 : ¬ Vm.unitO enc b k < 55296 := hA1
          gi_wp2
          rw [roundsIn_succ]
          gi_wp2_with fail
          have be2 : Below wr.heap.size wr (w1.alloc (Obj.cells #[Value.int IntKind.i32 56320, Value.int IntKind.i32 57343] 220)) := be1.alloc be1.size _
          refine ⟨trivial, (callsIn_wide.2 (unit_int b _ _ _ hb (by omega) (by omega) he (hte.below be2))).mono ?_⟩
          rintro e w3 ⟨rfl, hb3⟩
          rw [show ((k : Int) + 2).toNat = k + 2 from by omega]
          have be3 : Below wr.heap.size wr w3 := be2.trans (hb3.mono be2.size)
          have d2 : w3.cell? ⟨w1.heap.size, 0, none⟩ = some (.int .i32 56320) := (hb3.cell (p := ⟨w1.heap.size, 0, none⟩) (by simp)).trans (by simp)
          have d3 : w3.cell? ⟨w1.heap.size, 1, none⟩ = some (.int .i32 57343) := (hb3.cell (p := ⟨w1.heap.size, 1, none⟩) (by simp)).trans (by simp)
          by_cases hB1 : Vm.unitO enc b (k + 2) < 56320
          · have hhead := Vm.unit_lone he hlt (by unfold Vm.isPair; omega)
            obtain ⟨hp2, hs2⟩ := Vm.sg_next Hs.out hhead
            have Hs2 := hide hs2
            have Hp2 := hide hp2
            clear hs2 hp2 hhead
            gi_wp2_with fail
            refine ⟨trivial, (callsIn_wide.2 (unit_int b _ _ _ hb (by omega) (by omega) he (hte.below be3))).mono ?_⟩
            rintro e w4 ⟨rfl, hb4⟩
            rw [Int.toNat_natCast]
            have be4 : Below wr.heap.size wr w4 := be3.trans (hb4.mono be3.size)
            gi_wp2_with fail
            refine ⟨trivial, (callsIn_wide.2 (alone_any _ _ (hth.below be4))).mono ?_⟩
            rintro e w5 ⟨rfl, hb5⟩
            have be5 : Below wr.heap.size wr w5 := be4.trans (hb5.mono be4.size)
            have hj5 := hJ pre _ w5 hj (ItStep.of_below be5 hwz hMj)
            obtain ⟨fn, tmps, assign, body, hy, hR⟩ := hY pre _ _ hj5 (Nat.le_trans hwz be5.size) Hp2.out
            have hy2 : (Instr.yield l #[.int .i32 (Vm.aloneI (Vm.unitO enc b k)), .int .i64 2]).run Tryz.prog w5 = .ok (.round l fn tmps assign body) w5 := hy
            clear hy
            gi_wp2
            refine (roundIn_any none hR).mono ?_
            rintro e W3 (⟨rfl, hJ3, hk3⟩ | ⟨rfl, hJx3, hkx⟩)
            · gi_wp2
              have hz3 := hk3.size
              have := be5.size
              refine ⟨⟨k + 2, _, by omega, by go_num, Hs2.out, hJ3, by omega⟩, by simp [intOf]; omega⟩
            · gi_wp2
              dsimp only [Exit.noGoto]
              refine bodyPost_ret (results_none rfl _ _ _) rfl ?_
              exact ⟨⟨_, rfl⟩, .inr ⟨_, ⟨_, Hs2.out.symm⟩, hJx3⟩⟩
          · by_cases hB2 : 57343 < Vm.unitO enc b (k + 2)
            · have hhead := Vm.unit_lone he hlt (by unfold Vm.isPair; omega)
              obtain ⟨hp2, hs2⟩ := Vm.sg_next Hs.out hhead
              have Hs2 := hide hs2
              have Hp2 := hide hp2
              clear hs2 hp2 hhead
              gi_wp2_with fail
              refine ⟨trivial, (callsIn_wide.2 (unit_int b _ _ _ hb (by omega) (by omega) he (hte.below be3))).mono ?_⟩
              rintro e w4 ⟨rfl, hb4⟩
              rw [Int.toNat_natCast]
              have be4 : Below wr.heap.size wr w4 := be3.trans (hb4.mono be3.size)
              gi_wp2_with fail
              refine ⟨trivial, (callsIn_wide.2 (alone_any _ _ (hth.below be4))).mono ?_⟩
              rintro e w5 ⟨rfl, hb5⟩
              have be5 : Below wr.heap.size wr w5 := be4.trans (hb5.mono be4.size)
              have hj5 := hJ pre _ w5 hj (ItStep.of_below be5 hwz hMj)
              obtain ⟨fn, tmps, assign, body, hy, hR⟩ := hY pre _ _ hj5 (Nat.le_trans hwz be5.size) Hp2.out
              have hy2 : (Instr.yield l #[.int .i32 (Vm.aloneI (Vm.unitO enc b k)), .int .i64 2]).run Tryz.prog w5 = .ok (.round l fn tmps assign body) w5 := hy
              clear hy
              gi_wp2
              refine (roundIn_any none hR).mono ?_
              rintro e W3 (⟨rfl, hJ3, hk3⟩ | ⟨rfl, hJx3, hkx⟩)
              · gi_wp2
                have hz3 := hk3.size
                have := be5.size
                refine ⟨⟨k + 2, _, by omega, by go_num, Hs2.out, hJ3, by omega⟩, by simp [intOf]; omega⟩
              · gi_wp2
                dsimp only [Exit.noGoto]
                refine bodyPost_ret (results_none rfl _ _ _) rfl ?_
                exact ⟨⟨_, rfl⟩, .inr ⟨_, ⟨_, Hs2.out.symm⟩, hJx3⟩⟩
            · obtain ⟨hhead, hlt3⟩ := Vm.unit_pair he hlt (by unfold Vm.isPair; omega)
              obtain ⟨hp2, hs2⟩ := Vm.sg_next Hs.out hhead
              have Hs2 := hide hs2
              have Hp2 := hide hp2
              clear hs2 hp2 hhead
              have hbits : bits BinOp.or IntKind.i32 ((Vm.unitO enc b k - 55296) * 1024) (Vm.unitO enc b (k + 2) - 56320) = 1024 * (Vm.unitO enc b k - 55296) + (Vm.unitO enc b (k + 2) - 56320) := pair_bits _ _ (by omega) (by omega) (by omega) (by omega)
              gi_wp2
              rw [roundsIn_succ]
              have hj5 := hJ pre _ w3 hj (ItStep.of_below be3 hwz hMj)
              obtain ⟨fn, tmps, assign, body, hy, hR⟩ := hY pre _ _ hj5 (Nat.le_trans hwz be3.size) Hp2.out
              have hy2 : (Instr.yield l #[.int .i32 (65536 + (1024 * (Vm.unitO enc b k - 55296) + (Vm.unitO enc b (k + 2) - 56320))), .int .i64 4]).run Tryz.prog w3 = .ok (.round l fn tmps assign body) w3 := by
                rw [← Int.add_assoc]; exact hy
              clear hy
              gi_wp2
              refine (roundIn_any none hR).mono ?_
              rintro e W3 (⟨rfl, hJ3, hk3⟩ | ⟨rfl, hJx3, hkx⟩)
              · gi_wp2
                have hz3 := hk3.size
                have := be3.size
                refine ⟨⟨k + 4, _, by omega, by go_num, Hs2.out, hJ3, by omega⟩, by simp [intOf]; omega⟩
              · gi_wp2
                dsimp only [Exit.noGoto]
                refine bodyPost_ret (results_none rfl _ _ _) rfl ?_
                exact ⟨⟨_, rfl⟩, .inr ⟨_, ⟨_, Hs2.out.symm⟩, hJx3⟩⟩
    · have hx := Vm.sg_end hs (Vm.unit_none he (by omega))
      have Hs := hide hx
      clear hx hs
      gi_wp2
      dsimp only [Exit.noGoto]
      go_end0
      exact ⟨⟨_, rfl⟩, .inl (by rw [Hs.out]; exact hj)⟩
end Go.Proofs.YtjbfgnhkgjigpaaGreatDoor

namespace Go.Proofs.YtjbfgnhkgjigpaaGreatDoor
open Go.RowKit Go.Shelf Go.Vit
attribute [local go_sem] Oper.semAt_some

/-- The three tables, in memory. -/
structure Tabs (w : World) : Prop where
  seq : TabSeq w
  half : TabHalf w
  enc : TabEnc w
theorem Tabs.below {w w' : World} (h : Tabs w) (hb : Below w.heap.size w w') : Tabs w' := ⟨h.seq.below hb, h.half.below hb, h.enc.below hb⟩

set_option maxHeartbeats 400000 in
theorem signs1_it (b : ByteArray) (enc : Int) (Be Bb : Nat) (hb : b.size ≤ 1099511627776) (h0 : 0 ≤ enc) (h3 : enc ≤ 3) :
    Iters Tryz.prog 150 #[.pointer (some ⟨Be, 0, none⟩), .pointer (some ⟨Bb, 0, none⟩)] encSg (Vm.signs enc b.data.toList)
      (fun w => Tabs w ∧ w.cell? ⟨Be, 0, none⟩ = some (.int .i64 enc) ∧ w.cell? ⟨Bb, 0, none⟩ = some (.string b)) := by
  intro M l J Jx W hM hJ hJx hN hY hj
  obtain ⟨ht, ce, cb⟩ := (hN _ _ hj).1
  have hbm : b.size ≤ maxLen := by unfold maxLen; omega
  refine (callsIn_wide (n := 3)).1 ?_
  refine callsIn_of_wp Tryz.func150 rfl trivial ?_ rfl
  simp only [Tryz.ntmps150, List.size_toArray, List.length_cons, List.length_nil, Nat.reduceAdd, Nat.reduceSub, Array.replicate_succ, Array.replicate_zero, List.push_toArray, List.append_toArray, List.nil_append, List.cons_append]
  by_cases e0 : enc = 0
  · subst e0
    gi_wp2_with fail
    refine ⟨trivial, (callsIn_wide.2 (readSequences_it b hbm M l J Jx W hM hJ hJx (fun s A h => ⟨(hN s A h).1.1.seq, (hN s A h).2⟩) hY hj)).mono ?_⟩
    rintro e W2 ⟨⟨v, rfl⟩, hd⟩
    gi_wp2
    go_end0
    exact ⟨⟨_, rfl⟩, hd⟩
  · by_cases e3 : enc = 3
    · subst e3
      gi_wp2_with fail
      refine ⟨trivial, (callsIn_wide.2 (readSingles_it b hbm M l J Jx W hM hJ hJx (fun s A h => ⟨trivial, (hN s A h).2⟩) hY hj)).mono ?_⟩
      rintro e W2 ⟨⟨v, rfl⟩, hd⟩
      gi_wp2
      go_end0
      exact ⟨⟨_, rfl⟩, hd⟩
    · have e0' : (enc == 0) = false := by simpa using e0
      have e3' : (enc == 3) = false := by simpa using e3
      clear e0 e3
      gi_wp2_with fail
      refine ⟨trivial, (callsIn_wide.2 (readUnits_it b enc hb (by simp at e0' e3'; omega) M l J Jx W hM hJ hJx (fun s A h => ⟨⟨(hN s A h).1.1.half, (hN s A h).1.1.enc⟩, (hN s A h).2⟩) hY hj)).mono ?_⟩
      rintro e W2 ⟨⟨v, rfl⟩, hd⟩
      gi_wp2
      go_end0
      exact ⟨⟨_, rfl⟩, hd⟩

def encAt (x : Vm.At) : Array Value := #[.agg #[.int .i64 x.1, .int .i32 x.2.1, .int .i64 x.2.2]]

set_option maxHeartbeats 400000 in
theorem single_any (c : Int) (s : Int) (w : World) :
    Calls Tryz.prog 129 #[.int .i32 c, .int .i64 s] w fun e w' => e = .returned (if c = -1 then .agg #[.int .i64 4, .int .i32 65533, .int .i64 s] else if c = 10 then .agg #[.int .i64 0, .int .i32 10, .int .i64 s] else .agg #[.int .i64 3, .int .i32 c, .int .i64 s]) ∧ Below w.heap.size w w' := by
  by_cases h1 : c = -1
  · subst h1
    go_enter Tryz.func129, Tryz.ntmps129
    go_wp2
    exact bodyPost_ret (v := .agg #[.int .i64 4, .int .i32 65533, .int .i64 s]) (by simp [results, Tryz.results129, go_sem]) rfl ⟨rfl, (Below.refl _ _).alloc (Nat.le_refl _) _⟩
  · rw [if_neg h1]
    have h1' : (c == -1) = false := by simpa using h1
    clear h1
    by_cases h2 : c = 10
    · subst h2
      go_enter Tryz.func129, Tryz.ntmps129
      go_wp2
      exact bodyPost_ret (v := .agg #[.int .i64 0, .int .i32 10, .int .i64 s]) (by simp [results, Tryz.results129, go_sem]) rfl ⟨rfl, (Below.refl _ _).alloc (Nat.le_refl _) _⟩
    · rw [if_neg h2]
      have h2' : (c == 10) = false := by simpa using h2
      clear h2
      go_enter Tryz.func129, Tryz.ntmps129
      go_wp2
      exact bodyPost_ret (v := .agg #[.int .i64 3, .int .i32 c, .int .i64 s]) (by simp [results, Tryz.results129, go_sem]) rfl ⟨rfl, (Below.refl _ _).alloc (Nat.le_refl _) _⟩
theorem single_at (x : Vm.Sg) (w : World) :
    Calls Tryz.prog 129 #[.int .i32 x.1, .int .i64 x.2] w fun e w' => e = .returned (.agg #[.int .i64 (Vm.singleA x).1, .int .i32 (Vm.singleA x).2.1, .int .i64 (Vm.singleA x).2.2]) ∧ Below w.heap.size w w' := by
  refine (single_any x.1 x.2 w).mono ?_
  rintro e w' ⟨rfl, hb⟩
  refine ⟨?_, hb⟩
  unfold Vm.singleA
  split
  · rfl
  · split <;> rfl

/-- A maker of an iterator: two boxes and the closure. -/
theorem signs_any (enc : Int) (b : ByteArray) (w : World) :
    Calls Tryz.prog 128 #[.int .i64 enc, .string b] w fun e w' => e = .returned (.func (.func 150) #[] #[.pointer (some ⟨w.heap.size, 0, none⟩), .pointer (some ⟨w.heap.size + 1, 0, none⟩)]) ∧
      w' = (w.alloc (.cells #[.int .i64 enc] 3)).alloc (.cells #[.string b] 9) := by
  go_enter Tryz.func128, Tryz.ntmps128
  go_wp2
  go_ret
  exact ⟨rfl, rfl⟩
theorem atoms_any (enc : Int) (b : ByteArray) (w : World) :
    Calls Tryz.prog 98 #[.int .i64 enc, .string b] w fun e w' => e = .returned (.func (.func 127) #[] #[.pointer (some ⟨w.heap.size, 0, none⟩), .pointer (some ⟨w.heap.size + 1, 0, none⟩)]) ∧
      w' = (w.alloc (.cells #[.int .i64 enc] 3)).alloc (.cells #[.string b] 9) := by
  go_enter Tryz.func98, Tryz.ntmps98
  go_wp2
  go_ret
  exact ⟨rfl, rfl⟩
end Go.Proofs.YtjbfgnhkgjigpaaGreatDoor
