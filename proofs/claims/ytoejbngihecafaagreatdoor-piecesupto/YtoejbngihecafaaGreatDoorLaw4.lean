import Derived.Maps.AppendAt
import Derived.Test.YtoejbngihecafaaGreatDoorLaw3
namespace Go.Proofs.YtoejbngihecafaaGreatDoor
open Go.RowKit
variable {T : World → Prop} {D : World → Nat → Int → Bool → ByteArray → Prop} {L : World → World → Nat → Int → List UInt8 → Prop} {S : World → Nat → List UInt8 → Nat → Prop}

/-- The pairs that were kept: a row of their own behind block q. -/
structure Olds (D : World → Nat → Int → Bool → ByteArray → Prop) (b : ByteArray) (mode : Int) (q : Nat) (w : World) (v : Value) (xs : List Nat) : Prop where
  own : w.ownsRow (q + 1) 33 1 v xs.length (xs.map fun x => .pointer (some ⟨x, 0, none⟩))
  each : ∀ x ∈ xs, ∃ n r, n ≤ b.size ∧ PQ D w q x r (b.extract 0 n) mode ∧ v.ownBlock ≠ some r
theorem own_kept {w w' : World} {base n : Nat} {e : TypeId} {v : Value} {vs : List Value} (h : w.ownsRow base e 1 v n vs) (hk : ∀ g, g < w.heap.size → base ≤ g → tyAt w g = some e → w'.heap[g]? = w.heap[g]?) : w'.ownsRow base e 1 v n vs := by
  refine ⟨h.1, ?_⟩
  rcases h.2 with h0 | ⟨g, cap, cur, h1, h2, h3, h4⟩
  · exact .inl h0
  · exact .inr ⟨g, cap, cur, h1, h2, (hk g (blkl h3) h2 (by unfold tyAt; rw [h3])).trans h3, h4⟩
theorem own_ty {w : World} {base n : Nat} {e : TypeId} {v : Value} {vs : List Value} (h : w.ownsRow base e 1 v n vs) (g : Nat) (hg : v.ownBlock = some g) : base ≤ g ∧ g < w.heap.size ∧ tyAt w g = some e := by
  rcases h.2 with ⟨rfl, _⟩ | ⟨g', cap, cur, rfl, h2, h3, h4⟩
  · cases hg
  · cases hg; exact ⟨h2, blkl h3, by unfold tyAt; rw [h3]⟩
theorem Olds.low (api : Api T D) {b : ByteArray} {mode : Int} {q : Nat} {w w' : World} {v : Value} {xs : List Nat} (h : Olds D b mode q w v xs) (hb : Below w.heap.size w w') : Olds D b mode q w' v xs :=
  ⟨own_kept h.own (fun g hg _ _ => hb.block g hg), fun x hx => by obtain ⟨n, r, hn, hp, hr⟩ := h.each x hx; exact ⟨n, r, hn, hp.low api hb, hr⟩⟩
theorem Olds.push {b : ByteArray} {mode : Int} {q : Nat} {w w' : World} {v : Value} {xs : List Nat} (h : Olds D b mode q w v xs) (hd : ∀ p enc mark body, D w p enc mark body → D w' p enc mark body) (ho : ∀ k, k < w.heap.size → k ≠ q → tyAt w k ≠ some 5 → w'.heap[k]? = w.heap[k]?) : Olds D b mode q w' v xs :=
  ⟨own_kept h.own (fun g hg hb ht => ho g hg (by omega) (by rw [ht]; intro e; injection e with e; exact absurd e (by decide))), fun x hx => by obtain ⟨n, r, hn, hp, hr⟩ := h.each x hx; exact ⟨n, r, hn, hp.push hd ho, hr⟩⟩

theorem RowStep.of_grown {w w' : World} {q n : Nat} {v : Value} {vs : List Value} (hown : w.ownsRow (q + 1) 33 1 v n vs) (hg : w.grownBy w' v.ownBlock) : RowStep q v.ownBlock w w' :=
  ⟨hg.os, hg.tape, hg.output, hg.size, fun k hk h => hg.block k hk (fun e => h e.symm), fun g hg' => ⟨by have := (own_ty hown g hg').1; omega, (own_ty hown g hg').2.2⟩⟩
theorem PQ.row (api : ApiS T D L S) {w w' : World} {q x r : Nat} {b : ByteArray} {mode : Int} {own : Option Nat} (h : PQ D w q x r b mode) (hs : RowStep q own w w') (hr : own ≠ some r) : PQ D w' q x r b mode := by
  obtain ⟨p, h1, h2, h3, h4, h5⟩ := h
  have hx : own ≠ some x := fun e => by
    have := (hs.ty x e).2
    unfold tyAt at this
    rw [h1] at this
    exact absurd (Option.some.inj this) (by decide)
  exact ⟨p, (hs.keep x (blkl h1) hx).trans h1, api.drow h2 hs, h3.kept (hs.keep r (block_lt h3.c0) hr), h4, h5⟩
theorem PQ.rlt {w : World} {q x r : Nat} {b : ByteArray} {mode : Int} (h : PQ D w q x r b mode) : r < w.heap.size := by
  obtain ⟨p, h1, h2, h3, h4, h5⟩ := h
  exact block_lt h3.c0
theorem Olds.app (api : ApiS T D L S) {b : ByteArray} {mode : Int} {q n x r : Nat} {w w' : World} {v v' : Value} {xs : List Nat} (h : Olds D b mode q w v xs) (hown : w'.ownsRow (q + 1) 33 1 v' (xs.length + 1) ((xs.map fun x => .pointer (some ⟨x, 0, none⟩)) ++ [.pointer (some ⟨x, 0, none⟩)])) (hg : w.grownBy w' v.ownBlock) (hat : v'.ownBlock = v.ownBlock ∨ v'.ownBlock = some w.heap.size) (hp : PQ D w q x r (b.extract 0 n) mode) (hn : n ≤ b.size) (hr : v.ownBlock ≠ some r) : Olds D b mode q w' v' (xs ++ [x]) := by
  have hs := RowStep.of_grown h.own hg
  have hv : ∀ r, r < w.heap.size → v.ownBlock ≠ some r → v'.ownBlock ≠ some r := fun r h1 h2 => by
    rcases hat with e | e
    · rw [e]; exact h2
    · rw [e]; intro e2; cases e2; omega
  refine ⟨by simpa using hown, fun y hy => ?_⟩
  rcases List.mem_append.1 hy with hy | hy
  · obtain ⟨n', r', h1, h2, h3⟩ := h.each y hy
    exact ⟨n', r', h1, h2.row api hs h3, hv r' h2.rlt h3⟩
  · rw [List.mem_singleton] at hy
    subst hy
    exact ⟨n, r, hn, hp.row api hs hr, hv r hp.rlt hr⟩
theorem Olds.val {b : ByteArray} {mode : Int} {q : Nat} {w : World} {v : Value} {xs : List Nat} (h : Olds D b mode q w v xs) : ∃ p cap, v = .slice p xs.length cap := by
  rcases h.own.2 with ⟨h1, h2⟩ | ⟨g, cap, cur, h1, _⟩
  · exact ⟨none, 0, by rw [h1, h2]⟩
  · exact ⟨_, cap, h1⟩
theorem Olds.at_ {b : ByteArray} {mode : Int} {q : Nat} {w : World} {p : Option Addr} {n cap : Nat} {xs : List Nat} (h : Olds D b mode q w (.slice p n cap) xs) (i : Nat) (hi : i < xs.length) : ∃ g x, p = some ⟨g, 0, none⟩ ∧ x ∈ xs ∧ w.cell? ⟨g, i, none⟩ = some (.pointer (some ⟨x, 0, none⟩)) := by
  rcases h.own.2 with ⟨h1, h2⟩ | ⟨g, cap', cur, h1, h2, h3, h4, h5, h6, h7⟩
  · omega
  · injection h1 with e1 e2 e3
    refine ⟨g, xs[i], e1, List.getElem_mem hi, ?_⟩
    rw [Lib.cell_of_heap h3]
    have h8 : (cur.toList.take (xs.length * 1))[i]? = some (.pointer (some ⟨xs[i], 0, none⟩)) := by
      rw [h7, List.getElem?_map, List.getElem?_eq_getElem hi]; rfl
    rw [List.getElem?_take, if_pos (by omega)] at h8
    rw [← Array.getElem?_toList]; exact h8
theorem cells_new2 (w : World) (l : List Value) (t : TypeId) : ∀ j u, l[j]? = some u → (w.alloc (.cells l.toArray t)).cell? ((⟨w.heap.size, 0, none⟩ : Addr).add j) = some u := by
  intro j u hj
  have e : (⟨w.heap.size, 0, none⟩ : Addr).add j = ⟨w.heap.size, j, none⟩ := by
    unfold Addr.add
    split
    · simp_all
    · simp
  rw [e, ← hj]
  simp
theorem ext_part (r : ByteArray) (i n : Nat) : (r.extract i (i + n)).data.toList = (r.data.toList.drop i).take n := by
  rw [ByteArray.data_extract, Array.toList_extract, List.extract_eq_take_drop, Nat.add_sub_cancel_left]
set_option maxRecDepth 100000 in
set_option maxHeartbeats 1000000 in
theorem pieces_no (api : ApiS T D L S) (b : ByteArray) (mode : Int) (vc vf : Value) (w : World) (h : mode < 0 ∨ 7 < mode) :
    Calls Tryz.prog 3 #[.string b, .int .i64 mode, vc, vf] w fun e w' => e = .returned (.bool true) ∧ Below w.heap.size w w' := by
  have BG := hide2 (api.begin_no mode w h)
  have R := hide2 (fun W => rload_no ⟨#[]⟩ mode W h)
  clear h
  go_enter Tryz.func3, Tryz.ntmps3
  go_wp2_with fail
  refine BG.out.mono ?_
  rintro e w1 ⟨rfl, hb1⟩
  go_wp2_with fail
  refine (R.out _).mono ?_
  rintro e w2 ⟨rfl, rfl⟩
  go_wp2_with fail
  go_ret
  exact ⟨rfl, hb1⟩

set_option maxRecDepth 100000 in
set_option maxHeartbeats 2000000 in
theorem pieces_ok (api : ApiS T D L S) (b : ByteArray) (m : Int) (vc vf : Value) (cuts fills : List Int) (w : World) (ht : T w) (hb : b.size ≤ 1073741824) (h0 : 0 ≤ m) (h7 : m ≤ 7)
    (hvc : IntsAt w vc cuts) (hvf : IntsAt w vf fills) (hcl : cuts.length ≤ 1073741824) (hfl : fills.length ≤ 1073741824) (hcr : ∀ i, -9223372036854775808 ≤ cuts.getD i 0 ∧ cuts.getD i 0 ≤ 9223372036854775807) :
    Calls Tryz.prog 3 #[.string b, .int .i64 m, vc, vf] w fun e w' => e = .returned (.bool true) ∧ Below w.heap.size w w' := by
  have BG := hide2 (api.begin_ m w ht h0 h7)
  have R := hide2 (fun W => rload_ok ⟨#[]⟩ m W (by decide) h0 h7)
  obtain ⟨pc, cc, rfl⟩ := hvc.val
  obtain ⟨pf, cf, rfl⟩ := hvf.val
  go_enter Tryz.func3, Tryz.ntmps3
  go_wp2_with fail
  refine BG.out.mono ?_
  rintro e w1 ⟨q, rfl, hL1⟩
  go_wp2_with fail
  refine (R.out _).mono ?_
  rintro e w2 ⟨r0, rfl, _, _, hb2⟩
  have hL2 := api.llow hL1 hb2
  have HL2 := hide2 hL2
  have HVC := hide2 hvc
  have HVF := hide2 hvf
  have HT := hide2 ht
  clear hL1 hL2 hvc hvf ht BG R hb2
  go_wp2_with fail
  have hbl : b.data.toList.length = b.size := rfl
  go_loopg [13, 14, 15] cuts.length (fun k s13 s14 s15 wx => ∃ (j at_ : Nat) (v : Value) (xs : List Nat), k = cuts.length - j ∧ j ≤ cuts.length ∧ s13 = v ∧ s14 = .int .i64 at_ ∧ s15 = .int .i64 j ∧ at_ ≤ b.size ∧ L w wx q m (b.data.toList.take at_) ∧ Olds D b m q wx v xs ∧ xs.length ≤ j)
  case atStart => exact ⟨0, 0, .slice none 0 0, [], (by omega), Nat.zero_le _, rfl, rfl, rfl, Nat.zero_le _, HL2.out, ⟨⟨rfl, .inl ⟨rfl, rfl⟩⟩, fun x hx => (by cases hx)⟩, Nat.le_refl _⟩
  case round =>
    clear HL2
    obtain ⟨j, at_, v, xs, rfl, hj, rfl, rfl, rfl, hat, hL, hO, hxs⟩ := hrel
    have HL := hide2 hL
    have HO := hide2 hO
    have HBX := hide2 (api.lbelow hL)
    clear hL hO
    by_cases hgo : j < cuts.length ∧ at_ < b.size
    · obtain ⟨hlt, hab⟩ := hgo
      have hjI : (j : Int) < (cuts.length : Int) := by omega
      have haI : (at_ : Int) < (b.size : Int) := by omega
      obtain ⟨a, rfl, hca⟩ := (HVC.out.low HBX.out).at_ j hlt
      have hz := cell_lt hca
      have hzr := hcr j
      obtain ⟨z, hzz⟩ : ∃ z, cuts.getD j 0 = z := ⟨_, rfl⟩
      rw [hzz] at hca hzr
      have hpk := Vm.pick_bd z 9 (by decide)
      have K := hide2 (fun W => lpick_any z 9 W hzr.1 hzr.2 (by decide) (by decide))
      generalize Vm.pick z 9 = u at *
      obtain ⟨n0, rfl⟩ : ∃ n : Nat, u = n := ⟨u.toNat, by omega⟩
      obtain ⟨i0, hi0⟩ := Option.isSome_iff_exists.1 (show (Tryz.prog.info? 33).isSome = true by kernel_rfl)
      have hi1 : i0.zero = some (.pointer none) := by
        have h1 : (Tryz.prog.info? 33).bind (fun x => x.zero) = some (.pointer none) := by kernel_rfl
        rwa [hi0] at h1
      have hi2 : i0.size = 1 := by
        have h1 : (Tryz.prog.info? 33).map (fun x => x.size) = some 1 := by kernel_rfl
        rw [hi0] at h1; simpa using h1
      have hi3 : i0.bytes = 8 := by
        have h1 : (Tryz.prog.info? 33).map (fun x => x.bytes) = some 8 := by kernel_rfl
        rw [hi0] at h1; simpa using h1
      by_cases hgt : b.size - at_ < n0
      · obtain ⟨n, hn⟩ : ∃ n, n = b.size - at_ := ⟨_, rfl⟩
        have hnI : (b.size : Int) - (at_ : Int) = (n : Int) := by omega
        have hgI : (n : Int) < (n0 : Int) := by omega
        have hw1 : IntKind.i64.wrap ((at_ : Int) + (n : Int)) = (at_ : Int) + (n : Int) := by rw [IntKind.wrap_i64]; omega
        have hx1 : (at_ : Int) ≤ (at_ : Int) + (n : Int) := by omega
        have hx2 : (at_ : Int) + (n : Int) ≤ (b.size : Int) := by omega
        have htn : ((at_ : Int) + (n : Int)).toNat = at_ + n := by omega
        have hnb : at_ + n ≤ b.size := by omega
        have hpre : b.data.toList.take at_ ++ (b.extract at_ (at_ + n)).data.toList = b.data.toList.take (at_ + n) := by
          rw [ext_part, List.take_add]
        have hes : (b.extract at_ (at_ + n)).size ≤ n := by
          have e1 : (b.extract at_ (at_ + n)).data.toList.length = (b.extract at_ (at_ + n)).size := rfl
          rw [← e1, ext_part, List.length_take]; omega
        have hes0 : (b.extract 0 (at_ + n)).size = at_ + n := by
          have e1 : (b.extract 0 (at_ + n)).data.toList.length = (b.extract 0 (at_ + n)).size := rfl
          rw [← e1, ext_take, List.length_take]; omega
        clear hn
        go_wp2_with (go_at_call 12; refine (K.out _).mono ?_; rintro e w' ⟨rfl, rfl⟩)
        refine (api.push w _ q m (b.data.toList.take at_) (b.extract at_ (at_ + n)) HT.out HL.out h0 h7 (by rw [List.length_take]; omega)).mono ?_
        rintro e w3 ⟨rfl, hL3, hk3, ho3⟩
        rw [hpre] at hL3
        have hO3 := HO.out.push hk3 ho3
        have HL3 := hide2 hL3
        have HO3 := hide2 hO3
        have HB3 := hide2 (api.lbelow hL3)
        clear hk3 ho3 hL3 hO3 HL HO
        obtain ⟨a', ha', hca'⟩ := (HVC.out.low HB3.out).at_ j hlt
        cases ha'
        rw [hzz] at hca'
        have hz3 := cell_lt hca'
        by_cases h40 : z < 40
        · go_wp2_with fail
          go_roundg (cuts.length - (j + 1))
          case measure => omega
          case rel => exact ⟨j + 1, at_ + n, _, xs, rfl, by omega, rfl, by go_num, by go_num, by omega, HL3.out, HO3.out, by omega⟩
        · have h40' : 40 ≤ z := by omega
          go_wp2_with fail
          refine (ended_any api w w3 q m (b.extract 0 (at_ + n)) HT.out (by rw [ext_take]; exact HL3.out) h0 h7 (by rw [hes0]; omega)).mono ?_
          rintro e w4 ⟨x, r, rfl, hPQ, hr4, hb4⟩
          have hba := (Below.refl w4.heap.size w4).alloc (Nat.le_refl _) (.cells #[.pointer (some ⟨x, 0, none⟩)] 33)
          have hb45 := hb4.trans (hba.mono hb4.size)
          have hO5 := HO3.out.low api.base hb45
          have hL5 := api.llow HL3.out hb45
          have hP5 := hPQ.low api.base hba
          have hrv : u13.ownBlock ≠ some r := fun e => by have := (own_ty HO3.out.own r e).2.1; omega
          have HO5 := hide2 hO5
          have HL5 := hide2 hL5
          have HP5 := hide2 hP5
          have hown5 := hO5.own
          have hsz5 : q + 1 ≤ w4.heap.size := by have h1 := (api.lq hL5).2; have h2 := hb4.size; have h3 := (api.lq HL3.out).2; omega
          clear hO5 hL5 hP5 hPQ HL3 HO3 hba hb45 hb4 hca'
          go_wp2_with (at_builtin; refine wpList_append_own_at _ rfl _ _ 30 rfl (q + 1) 33 i0 (.pointer none) 1 8 Tryz.underlying30 hi0 hi1 hi2 hi3 rfl (by decide) _ xs.length (xs.map fun x => .pointer (some ⟨x, 0, none⟩)) rfl hown5 ⟨w4.heap.size, 0, none⟩ 1 1 [.pointer (some ⟨x, 0, none⟩)] rfl rfl (cells_new2 w4 [.pointer (some ⟨x, 0, none⟩)] 33) ?h1 ?h63 ?hby ?hbase ?_)
          case h1 => simp [Value.oneCell']
          try case h63 => unfold maxLen; omega
          try case hby => omega
          try case hbase => first | omega | (simp; omega)
          intro v6 w6 hown6 hgr _ hat6
          have hO6 := HO5.out.app api hown6 hgr (by rw [World.size_alloc]; exact hat6) HP5.out (n := at_ + n) (by omega) hrv
          have hL6 := api.lrow HL5.out (RowStep.of_grown hown5 hgr)
          clear hown5 hown6 hgr hat6 HO5 HL5 HP5
          go_wp2_with fail
          go_roundg (cuts.length - (j + 1))
          case measure => omega
          case rel => exact ⟨j + 1, at_ + n, _, xs ++ [x], rfl, by omega, rfl, by go_num, by go_num, by omega, hL6, hO6, by simp; omega⟩
      · obtain ⟨n, hn⟩ : ∃ n, n = n0 := ⟨_, rfl⟩
        subst hn
        have hgI : ¬ (b.size : Int) - (at_ : Int) < (n : Int) := by omega
        have hw1 : IntKind.i64.wrap ((at_ : Int) + (n : Int)) = (at_ : Int) + (n : Int) := by rw [IntKind.wrap_i64]; omega
        have hx1 : (at_ : Int) ≤ (at_ : Int) + (n : Int) := by omega
        have hx2 : (at_ : Int) + (n : Int) ≤ (b.size : Int) := by omega
        have htn : ((at_ : Int) + (n : Int)).toNat = at_ + n := by omega
        have hnb : at_ + n ≤ b.size := by omega
        have hpre : b.data.toList.take at_ ++ (b.extract at_ (at_ + n)).data.toList = b.data.toList.take (at_ + n) := by
          rw [ext_part, List.take_add]
        have hes : (b.extract at_ (at_ + n)).size ≤ n := by
          have e1 : (b.extract at_ (at_ + n)).data.toList.length = (b.extract at_ (at_ + n)).size := rfl
          rw [← e1, ext_part, List.length_take]; omega
        have hes0 : (b.extract 0 (at_ + n)).size = at_ + n := by
          have e1 : (b.extract 0 (at_ + n)).data.toList.length = (b.extract 0 (at_ + n)).size := rfl
          rw [← e1, ext_take, List.length_take]; omega
        go_wp2_with (go_at_call 12; refine (K.out _).mono ?_; rintro e w' ⟨rfl, rfl⟩)
        refine (api.push w _ q m (b.data.toList.take at_) (b.extract at_ (at_ + n)) HT.out HL.out h0 h7 (by rw [List.length_take]; omega)).mono ?_
        rintro e w3 ⟨rfl, hL3, hk3, ho3⟩
        rw [hpre] at hL3
        have hO3 := HO.out.push hk3 ho3
        have HL3 := hide2 hL3
        have HO3 := hide2 hO3
        have HB3 := hide2 (api.lbelow hL3)
        clear hk3 ho3 hL3 hO3 HL HO
        obtain ⟨a', ha', hca'⟩ := (HVC.out.low HB3.out).at_ j hlt
        cases ha'
        rw [hzz] at hca'
        have hz3 := cell_lt hca'
        by_cases h40 : z < 40
        · go_wp2_with fail
          go_roundg (cuts.length - (j + 1))
          case measure => omega
          case rel => exact ⟨j + 1, at_ + n, _, xs, rfl, by omega, rfl, by go_num, by go_num, by omega, HL3.out, HO3.out, by omega⟩
        · have h40' : 40 ≤ z := by omega
          go_wp2_with fail
          refine (ended_any api w w3 q m (b.extract 0 (at_ + n)) HT.out (by rw [ext_take]; exact HL3.out) h0 h7 (by rw [hes0]; omega)).mono ?_
          rintro e w4 ⟨x, r, rfl, hPQ, hr4, hb4⟩
          have hba := (Below.refl w4.heap.size w4).alloc (Nat.le_refl _) (.cells #[.pointer (some ⟨x, 0, none⟩)] 33)
          have hb45 := hb4.trans (hba.mono hb4.size)
          have hO5 := HO3.out.low api.base hb45
          have hL5 := api.llow HL3.out hb45
          have hP5 := hPQ.low api.base hba
          have hrv : u13.ownBlock ≠ some r := fun e => by have := (own_ty HO3.out.own r e).2.1; omega
          have HO5 := hide2 hO5
          have HL5 := hide2 hL5
          have HP5 := hide2 hP5
          have hown5 := hO5.own
          have hsz5 : q + 1 ≤ w4.heap.size := by have h1 := (api.lq hL5).2; have h2 := hb4.size; have h3 := (api.lq HL3.out).2; omega
          clear hO5 hL5 hP5 hPQ HL3 HO3 hba hb45 hb4 hca'
          go_wp2_with (at_builtin; refine wpList_append_own_at _ rfl _ _ 30 rfl (q + 1) 33 i0 (.pointer none) 1 8 Tryz.underlying30 hi0 hi1 hi2 hi3 rfl (by decide) _ xs.length (xs.map fun x => .pointer (some ⟨x, 0, none⟩)) rfl hown5 ⟨w4.heap.size, 0, none⟩ 1 1 [.pointer (some ⟨x, 0, none⟩)] rfl rfl (cells_new2 w4 [.pointer (some ⟨x, 0, none⟩)] 33) ?h1 ?h63 ?hby ?hbase ?_)
          case h1 => simp [Value.oneCell']
          try case h63 => unfold maxLen; omega
          try case hby => omega
          try case hbase => first | omega | (simp; omega)
          intro v6 w6 hown6 hgr _ hat6
          have hO6 := HO5.out.app api hown6 hgr (by rw [World.size_alloc]; exact hat6) HP5.out (n := at_ + n) (by omega) hrv
          have hL6 := api.lrow HL5.out (RowStep.of_grown hown5 hgr)
          clear hown5 hown6 hgr hat6 HO5 HL5 HP5
          go_wp2_with fail
          go_roundg (cuts.length - (j + 1))
          case measure => omega
          case rel => exact ⟨j + 1, at_ + n, _, xs ++ [x], rfl, by omega, rfl, by go_num, by go_num, by omega, hL6, hO6, by simp; omega⟩
    · by_cases hlt : j < cuts.length
      · have hjI : (j : Int) < (cuts.length : Int) := by omega
        have haI : ¬ (at_ : Int) < (b.size : Int) := by omega
        have hdr : b.data.toList.take at_ ++ (b.extract at_ b.size).data.toList = b.data.toList := by rw [ext_drop, List.take_append_drop]
        have hes : (b.extract at_ b.size).size ≤ b.size - at_ := by
          have e1 : (b.extract at_ b.size).data.toList.length = (b.extract at_ b.size).size := rfl
          rw [← e1, ext_drop, List.length_drop]; omega
        have hatI : (at_ : Int) ≤ (b.size : Int) := by omega
        go_wp2_with fail
        refine (api.push w _ q m (b.data.toList.take at_) (b.extract at_ b.size) HT.out HL.out h0 h7 (by rw [List.length_take]; omega)).mono ?_
        rintro e w3 ⟨rfl, hL3, hk3, ho3⟩
        rw [hdr] at hL3
        have hO3 := HO.out.push hk3 ho3
        clear hk3 ho3 HL HO hdr hes
        go_wp2_with fail
        refine (ended_any api w w3 q m b HT.out hL3 h0 h7 (by omega)).mono ?_
        rintro e w4 ⟨x4, r4, rfl, _, _, hb4⟩
        have HO4 := hide2 (hO3.low api.base hb4)
        have HL4 := hide2 (api.llow hL3 hb4)
        clear hO3 hL3 hb4
        obtain ⟨pv, cv, rfl⟩ := HO4.out.val
        go_wp2_with fail
        go_loopg [20, 21] xs.length (fun k s20 s21 wx => ∃ i : Nat, k = xs.length - i ∧ i ≤ xs.length ∧ s20 = .bool true ∧ s21 = .int .i64 i ∧ Olds D b m q wx (.slice pv xs.length cv) xs ∧ L w wx q m b.data.toList)
        case atStart => exact ⟨0, (by omega), Nat.zero_le _, rfl, rfl, HO4.out, HL4.out⟩
        case round =>
          clear HO4 HL4
          obtain ⟨i, rfl, hi, rfl, rfl, hO, hL⟩ := hrel
          have HO := hide2 hO
          have HL := hide2 hL
          clear hO hL
          by_cases hil : i < xs.length
          · have hiI : (i : Int) < (xs.length : Int) := by omega
            obtain ⟨g, x, rfl, hx, hcx⟩ := HO.out.at_ i hil
            have hzx := block_lt hcx
            obtain ⟨n, r, hn, hP, _⟩ := HO.out.each x hx
            have hens : (b.extract 0 n).size ≤ b.size := by
              have e1 : (b.extract 0 n).data.toList.length = (b.extract 0 n).size := rfl
              rw [← e1, ext_take, List.length_take]; omega
            have LK := hide2 (hP.looked api.base (api.base.tab HT.out (api.lbelow HL.out)) (by omega))
            clear hP
            go_wp2_with fail
            refine LK.out.mono ?_
            rintro e w6 ⟨rfl, hb6⟩
            have hO6 := HO.out.low api.base hb6
            have hL6 := api.llow HL.out hb6
            clear LK HO HL hb6
            go_wp2_with fail
            go_roundg (xs.length - (i + 1))
            case measure => omega
            case rel => exact ⟨i + 1, rfl, by omega, rfl, by go_num, hO6, hL6⟩
          · have hiI : ¬ (i : Int) < (xs.length : Int) := by omega
            go_wp2_with fail
            refine (api.end_ w _ q m b HT.out HL.out h0 h7 (by omega)).mono ?_
            rintro e w6 ⟨p6, rfl, hd6, hb6⟩
            have hB6 := (api.lbelow HL.out).trans (hb6.mono (api.lbelow HL.out).size)
            have FL := hide2 (filled_any api p6 _ _ _ b (.slice pf fills.length cf) fills w6 (api.base.tab HT.out hB6) hd6 (bytesOf_of b _) hb (HVF.out.low hB6) hfl)
            clear HO HL hd6 hb6
            go_wp2_with fail
            refine FL.out.mono ?_
            rintro e w7 ⟨rfl, hb7⟩
            have hB7 := hB6.trans (hb7.mono hB6.size)
            clear FL hB6
            go_wp2
            go_ret
            exact ⟨rfl, hB7⟩
      have hjI : ¬ (j : Int) < (cuts.length : Int) := by omega
      have hdr : b.data.toList.take at_ ++ (b.extract at_ b.size).data.toList = b.data.toList := by rw [ext_drop, List.take_append_drop]
      have hes : (b.extract at_ b.size).size ≤ b.size - at_ := by
        have e1 : (b.extract at_ b.size).data.toList.length = (b.extract at_ b.size).size := rfl
        rw [← e1, ext_drop, List.length_drop]; omega
      have hatI : (at_ : Int) ≤ (b.size : Int) := by omega
      go_wp2_with fail
      refine (api.push w _ q m (b.data.toList.take at_) (b.extract at_ b.size) HT.out HL.out h0 h7 (by rw [List.length_take]; omega)).mono ?_
      rintro e w3 ⟨rfl, hL3, hk3, ho3⟩
      rw [hdr] at hL3
      have hO3 := HO.out.push hk3 ho3
      clear hk3 ho3 HL HO hdr hes
      go_wp2_with fail
      refine (ended_any api w w3 q m b HT.out hL3 h0 h7 (by omega)).mono ?_
      rintro e w4 ⟨x4, r4, rfl, _, _, hb4⟩
      have HO4 := hide2 (hO3.low api.base hb4)
      have HL4 := hide2 (api.llow hL3 hb4)
      clear hO3 hL3 hb4
      obtain ⟨pv, cv, rfl⟩ := HO4.out.val
      go_wp2_with fail
      go_loopg [20, 21] xs.length (fun k s20 s21 wx => ∃ i : Nat, k = xs.length - i ∧ i ≤ xs.length ∧ s20 = .bool true ∧ s21 = .int .i64 i ∧ Olds D b m q wx (.slice pv xs.length cv) xs ∧ L w wx q m b.data.toList)
      case atStart => exact ⟨0, (by omega), Nat.zero_le _, rfl, rfl, HO4.out, HL4.out⟩
      case round =>
        clear HO4 HL4
        obtain ⟨i, rfl, hi, rfl, rfl, hO, hL⟩ := hrel
        have HO := hide2 hO
        have HL := hide2 hL
        clear hO hL
        by_cases hil : i < xs.length
        · have hiI : (i : Int) < (xs.length : Int) := by omega
          obtain ⟨g, x, rfl, hx, hcx⟩ := HO.out.at_ i hil
          have hzx := block_lt hcx
          obtain ⟨n, r, hn, hP, _⟩ := HO.out.each x hx
          have hens : (b.extract 0 n).size ≤ b.size := by
            have e1 : (b.extract 0 n).data.toList.length = (b.extract 0 n).size := rfl
            rw [← e1, ext_take, List.length_take]; omega
          have LK := hide2 (hP.looked api.base (api.base.tab HT.out (api.lbelow HL.out)) (by omega))
          clear hP
          go_wp2_with fail
          refine LK.out.mono ?_
          rintro e w6 ⟨rfl, hb6⟩
          have hO6 := HO.out.low api.base hb6
          have hL6 := api.llow HL.out hb6
          clear LK HO HL hb6
          go_wp2_with fail
          go_roundg (xs.length - (i + 1))
          case measure => omega
          case rel => exact ⟨i + 1, rfl, by omega, rfl, by go_num, hO6, hL6⟩
        · have hiI : ¬ (i : Int) < (xs.length : Int) := by omega
          go_wp2_with fail
          refine (api.end_ w _ q m b HT.out HL.out h0 h7 (by omega)).mono ?_
          rintro e w6 ⟨p6, rfl, hd6, hb6⟩
          have hB6 := (api.lbelow HL.out).trans (hb6.mono (api.lbelow HL.out).size)
          have FL := hide2 (filled_any api p6 _ _ _ b (.slice pf fills.length cf) fills w6 (api.base.tab HT.out hB6) hd6 (bytesOf_of b _) hb (HVF.out.low hB6) hfl)
          clear HO HL hd6 hb6
          go_wp2_with fail
          refine FL.out.mono ?_
          rintro e w7 ⟨rfl, hb7⟩
          have hB7 := hB6.trans (hb7.mono hB6.size)
          clear FL hB6
          go_wp2
          go_ret
          exact ⟨rfl, hB7⟩
end Go.Proofs.YtoejbngihecafaaGreatDoor
