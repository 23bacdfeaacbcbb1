import Derived.Shelf.RegionOpenPlain
import Derived.Shelf.Strings.Builder1
import Derived.Shelf.Strings.Builder2
import Derived.Shelf.Small.Utf8
import Derived.Shelf.Strings.BuilderF
import Derived.Shelf.Strings.BuilderK
import Derived.Shelf.Strings.BuilderRune
import Derived.Shelf.Strings.Prefix
import Derived.Shelf.Utf8.AppendRunePlain
import Derived.Test.YtjbfgnhkgjigpaaGreatDoorProg
import Derived.Test.YtjbfgnhkgjigpaaGreatDoorGa0
import Derived.Test.YtjbfgnhkgjigpaaGreatDoorGc4
namespace Go.Proofs.YtjbfgnhkgjigpaaGreatDoor
open Go.RowKit Go.Shelf Go.Vit
attribute [local go_sem] Oper.semAt_some

/-- The iterator's own four boxes, from Z on. -/
structure Bx (M : World → Nat → Prop) (Z l : Nat) (enc : Int) (b : ByteArray) (h : Nat) (w : World) : Prop where
  sz : Z + 4 ≤ w.heap.size
  held : w.cell? ⟨Z + 1, 0, none⟩ = some (.int .i64 h)
  fz : w.frozen? ⟨Z + 1, 0, none⟩ = false
  y : w.cell? ⟨Z, 0, none⟩ = some (.func (.yield l) #[] #[])
  e : w.cell? ⟨Z + 2, 0, none⟩ = some (.int .i64 enc)
  b : w.cell? ⟨Z + 3, 0, none⟩ = some (.string b)
  nm : ∀ k, Z ≤ k → k < Z + 4 → ¬ M w k

variable {M : World → Nat → Prop} {Z l : Nat} {enc : Int} {b : ByteArray} {h : Nat} {w w' : World}

theorem Bx.kept (B : Bx M Z l enc b h w) (hs : w.heap.size ≤ w'.heap.size) (hk : ∀ k, Z ≤ k → k < Z + 4 → w'.heap[k]? = w.heap[k]?) (hm : ∀ k, Z ≤ k → k < Z + 4 → ¬ M w' k) : Bx M Z l enc b h w' :=
  ⟨Nat.le_trans B.sz hs, (World.cell?_of_block (w := w) (hk (Z + 1) (by omega) (by omega))).trans B.held, (World.frozen?_of_block (w := w) (hk (Z + 1) (by omega) (by omega))).trans B.fz, (World.cell?_of_block (w := w) (hk Z (by omega) (by omega))).trans B.y,
    (World.cell?_of_block (w := w) (hk (Z + 2) (by omega) (by omega))).trans B.e, (World.cell?_of_block (w := w) (hk (Z + 3) (by omega) (by omega))).trans B.b, hm⟩
theorem Bx.it (B : Bx M Z l enc b h w) (hM : MLow M Z) {lo : Nat} (hlo : Z + 4 ≤ lo) (st : ItStep M lo w w') : Bx M Z l enc b h w' :=
  B.kept st.size (fun k _ h2 => st.low k (by omega)) (fun k h1 h2 hm => B.nm k h1 h2 (st.same (hM.of (by omega)) k hm))
theorem Bx.body (B : Bx M Z l enc b h w) (st : BodyStep M Z w w') : Bx M Z l enc b h w' :=
  B.kept st.size (fun k h1 h2 => st.keep k h1 (by have := B.sz; omega) (B.nm k h1 h2)) (fun k h1 h2 hm => by
    have := B.sz
    rcases st.new k hm with x | x | x
    · omega
    · exact B.nm k h1 h2 x
    · omega)
theorem Bx.set (B : Bx M Z l enc b h w) (hM : MLow M Z) (h' : Nat) : Bx M Z l enc b h' (w.setCell ⟨Z + 1, 0, none⟩ (.int .i64 h')) := by
  have hc : ∀ o, o ≠ Z + 1 → (w.setCell ⟨Z + 1, 0, none⟩ (.int .i64 h')).cell? ⟨o, 0, none⟩ = w.cell? ⟨o, 0, none⟩ := fun o ho => World.cell?_of_block (w := w) (Below.heap_setCell _ _ _ _ ho)
  refine ⟨by simpa [World.setCell] using B.sz, World.cell?_setCell_same' _ _ _ (by rw [B.held]; rfl), by rw [World.frozen?_setCell]; exact B.fz, (hc _ (by omega)).trans B.y, (hc _ (by omega)).trans B.e, (hc _ (by omega)).trans B.b, ?_⟩
  intro k h1 h2 hm
  exact B.nm k h1 h2 (hM _ _ (fun j hj => Below.heap_setCell _ _ _ _ (show j ≠ Z + 1 by omega)) k hm)
theorem Bx.step (B : Bx M Z l enc b h w) (v : Value) : ItStep M Z w (w.setCell ⟨Z + 1, 0, none⟩ v) := ItStep.setCell w (show Z ≤ Z + 1 by omega) (B.nm (Z + 1) (by omega) (by omega)) v

theorem kept_at {lo k : Nat} (st : BodyStep M lo w w') (h1 : lo ≤ k) (h2 : k < w.heap.size) (h3 : ¬ M w k) : w'.heap[k]? = w.heap[k]? ∧ ¬ M w' k :=
  ⟨st.keep k h1 h2 h3, fun hm => by
    rcases st.new k hm with x | x | x
    · omega
    · exact h3 x
    · omega⟩

/-- What holds between two signs. -/
def AtI (M : World → Nat → Prop) (Z l : Nat) (enc : Int) (b : ByteArray) (J : List Vm.At → World → Prop) (pre : List Vm.Sg) (w : World) : Prop :=
  ∃ out h, Vm.Told pre out h ∧ h ≤ 4 ∧ J out w ∧ Bx M Z l enc b h w

set_option maxHeartbeats 4000000 in
theorem atoms1_it (b : ByteArray) (enc : Int) (Be Bb : Nat) (hb : b.size ≤ 1099511627776) (h0 : 0 ≤ enc) (h3 : enc ≤ 3) :
    Iters Tryz.prog 127 #[.pointer (some ⟨Be, 0, none⟩), .pointer (some ⟨Bb, 0, none⟩)] encAt (Vm.atoms enc b.data.toList)
      (fun w => Tabs w ∧ w.cell? ⟨Be, 0, none⟩ = some (.int .i64 enc) ∧ w.cell? ⟨Bb, 0, none⟩ = some (.string b)) := by
  intro M l J Jx W hM hJ hJx hN hY hj
  have hfo : Tryz.prog.follows Departure.mixedOrders = true := by kernel_rfl
  obtain ⟨ht, ce, cb⟩ := (hN _ _ hj).1
  have hM0 := (hN _ _ hj).2
  have hze := block_lt ce
  have hzb := block_lt cb
  refine (callsIn_wide (n := 9)).1 ?_
  refine callsIn_of_wp_marks Tryz.func127 rfl trivial ?_ rfl
  simp only [Tryz.ntmps127, List.size_toArray, List.length_cons, List.length_nil, Nat.reduceAdd, Nat.reduceSub, Array.replicate_succ, Array.replicate_zero, List.push_toArray, List.append_toArray, List.nil_append, List.cons_append]
  gi_wp2_with fail
  refine ⟨trivial, (callsIn_wide.2 (signs_any _ _ _)).mono ?_⟩
  rintro e w1 ⟨rfl, hw1⟩
  simp only [World.size_alloc] at hw1 ⊢
  have hs1 : w1.heap.size = W.heap.size + 4 := by rw [hw1]; simp
  have hb1 : Below W.heap.size W w1 := by
    rw [hw1]; exact ((((Below.refl _ W).alloc (Nat.le_refl _) _).alloc (by simp) _).alloc (by simp; omega) _).alloc (by simp; omega) _
  have cy : w1.cell? ⟨W.heap.size, 0, none⟩ = some (.func (.yield l) #[] #[]) := by rw [hw1]; simp [go_sem]
  have ch : w1.cell? ⟨W.heap.size + 1, 0, none⟩ = some (.int .i64 ((0 : Nat) : Int)) := by rw [hw1]; simp [go_sem]
  have cf : w1.frozen? ⟨W.heap.size + 1, 0, none⟩ = false := by rw [hw1]; simp [go_sem]
  have c2 : w1.cell? ⟨W.heap.size + 2, 0, none⟩ = some (.int .i64 enc) := by rw [hw1]; simp [go_sem]
  have c3 : w1.cell? ⟨W.heap.size + 3, 0, none⟩ = some (.string b) := by rw [hw1]; simp [go_sem]
  clear hw1
  have st1 : ItStep M W.heap.size W w1 := ItStep.of_below hb1 (Nat.le_refl _) hM0
  have nm1 : ∀ k, W.heap.size ≤ k → k < W.heap.size + 4 → ¬ M w1 k := fun k h _ hm => by have := hM0 k (st1.same hM k hm); omega
  have hI0 : AtI M W.heap.size l enc b J [] w1 := ⟨[], 0, Vm.Told.nil, by omega, hJ _ _ _ hj st1, by omega, ch, cf, cy, c2, c3, nm1⟩
  have hsl : W.heap.size + 4 ≤ w1.heap.size := by omega
  have hsu : w1.heap.size ≤ W.heap.size + 4 := by omega
  clear hs1
  gi_wp2
  refine wp_range1 (gf := 150) rfl (enters_of Tryz.func150 (by kernel_rfl) rfl) (signs1_it b enc _ _ hb h0 h3) (fun _ => rfl) M (hM.of (by omega))
    (AtI M W.heap.size l enc b J) (fun c _ w => c = .ret ∧ ∃ out, out <+: Vm.atoms enc b.data.toList ∧ Jx out w) ?hI ?hIx ?hN hI0 ?a1 ?assign ?body ?done ?stop
  case hI =>
    rintro s A B ⟨out, h, t, h4, hjo, bx⟩ st
    exact ⟨out, h, t, h4, hJ _ _ _ hjo (st.mono (by omega)), bx.it hM (by omega) st⟩
  case hIx =>
    rintro c s A B ⟨hc, out, hp, hx⟩ st
    exact ⟨hc, out, hp, hJx _ _ _ hx (st.mono (by omega))⟩
  case hN =>
    rintro s A ⟨out, h, t, h4, hjo, bx⟩
    exact ⟨⟨(hN _ _ hjo).1.1, bx.e, bx.b⟩, (hN _ _ hjo).2⟩
  case assign =>
    intro l x W K hK
    dsimp only [encSg]
    gi_wp2
    exact hK
  case body =>
    rintro l2 pre x W2 hsz ⟨r, hr⟩ hl2 ⟨out, h, t, h4, hjo, bx⟩ hpre
    obtain ⟨hx1, hx4⟩ := Vm.signs_le hpre
    have ch := bx.held
    have cf := bx.fz
    have cy := bx.y
    obtain ⟨xc, xs⟩ := x
    simp only at hx1 hx4
    by_cases hh : 0 < h
    · by_cases h10 : xc = 10
      · subst h10
        have t2 := t.crlf hh (x := (10, xs)) rfl
        have hp2 : out ++ [(1, 10, xs + h)] <+: Vm.atoms enc b.data.toList := t2.pre hpre
        have bx2 : Bx M W.heap.size l enc b 0 (W2.setCell ⟨W.heap.size + 1, 0, none⟩ (.int .i64 0)) := bx.set hM 0
        have hj2 := hJ _ _ _ hjo (bx.step (.int .i64 0))
        have bs2 : BodyStep M w1.heap.size W2 (W2.setCell ⟨W.heap.size + 1, 0, none⟩ (.int .i64 0)) := BodyStep.setCell W2 (show W.heap.size + 1 < w1.heap.size by omega) _ (fun k hm => (bx.step _).same hM k hm)
        have cy2 := bx2.y
        obtain ⟨fn, tmps, assign, body, hy, hR⟩ := hY out _ _ hj2 (by have := bx2.sz; omega) hp2
        have hy2 : (Instr.yield l #[.agg #[.int .i64 1, .int .i32 10, .int .i64 ((xs : Int) + (h : Int))]]).run Tryz.prog (W2.setCell ⟨W.heap.size + 1, 0, none⟩ (.int .i64 0)) = .ok (.round l fn tmps assign body) (W2.setCell ⟨W.heap.size + 1, 0, none⟩ (.int .i64 0)) := by rw [← Int.natCast_add]; exact hy
        have T2 := hide t2
        have P2 := hide hp2
        clear hy t2 hp2
        gi_wp2
        refine (roundIn_any (some l2) hR).mono ?_
        rintro e W3 (⟨rfl, hJ3, hk3⟩ | ⟨rfl, hJx3, hkx⟩)
        · gi_wp2
          exact ⟨bs2.trans (hk3.mono (by omega)), _, _, T2.out, by omega, hJ3, bx2.body hk3⟩
        · gi_wp2
          exact ⟨bs2.trans (hkx.mono (by omega)), rfl, _, P2.out, hJx3⟩
      · have h10' : (xc == 10) = false := by simpa using h10
        have hp1 : out ++ [(2, 10, h)] <+: Vm.atoms enc b.data.toList := t.pre_cr hh (x := (xc, xs)) h10 hpre
        obtain ⟨fn, tmps, assign, body, hy, hR⟩ := hY out _ _ hjo (by have := bx.sz; omega) hp1
        simp only [encAt] at hy
        have P1 := hide hp1
        have H10 := hide h10
        clear hp1 h10
        by_cases h13 : xc = 13
        · subst h13
          have t2 := t.cr2 hh (x := (13, xs)) rfl
          have T2 := hide t2
          clear t2
          gi_wp2
          refine (roundIn_any (some l2) hR).mono ?_
          rintro e W3 (⟨rfl, hJ3, hk3⟩ | ⟨rfl, hJx3, hkx⟩)
          · have bx1 := bx.body hk3
            have ch1 := bx1.held
            have cf1 := bx1.fz
            have bx2 : Bx M W.heap.size l enc b 0 (W3.setCell ⟨W.heap.size + 1, 0, none⟩ (.int .i64 0)) := bx1.set hM 0
            have bx3 := bx2.set hM xs
            have hj2 := hJ _ _ _ hJ3 (bx1.step (.int .i64 0))
            have hj3 := hJ _ _ _ hj2 (bx2.step (.int .i64 xs))
            have bs2 : BodyStep M w1.heap.size W2 (W3.setCell ⟨W.heap.size + 1, 0, none⟩ (.int .i64 0)) := (hk3.mono (by omega)).trans (BodyStep.setCell W3 (show W.heap.size + 1 < w1.heap.size by omega) _ (fun k hm => (bx1.step _).same hM k hm))
            have bs3 := bs2.trans (BodyStep.setCell _ (show (⟨W.heap.size + 1, 0, none⟩ : Addr).block < w1.heap.size by show W.heap.size + 1 < _; omega) (.int .i64 xs) (fun k hm => (bx2.step _).same hM k hm))
            gi_wp2
            exact ⟨bs3, _, _, T2.out, by omega, hj3, bx3⟩
          · gi_wp2
            exact ⟨hkx.mono (by omega), rfl, _, P1.out, hJx3⟩
        · have h13' : (xc == 13) = false := by simpa using h13
          have t2 := t.one2 hh (x := (xc, xs)) h13 H10.out
          have hp2 : out ++ [(2, 10, h)] ++ [Vm.singleA (xc, xs)] <+: Vm.atoms enc b.data.toList := t2.pre hpre
          have T2 := hide t2
          have P2 := hide hp2
          have H13 := hide h13
          clear t2 hp2 h13
          gi_wp2
          refine (roundIn_any (some l2) hR).mono ?_
          rintro e W3 (⟨rfl, hJ3, hk3⟩ | ⟨rfl, hJx3, hkx⟩)
          · have bx1 := bx.body hk3
            have ch1 := bx1.held
            have cf1 := bx1.fz
            have bx2 : Bx M W.heap.size l enc b 0 (W3.setCell ⟨W.heap.size + 1, 0, none⟩ (.int .i64 0)) := bx1.set hM 0
            have hj2 := hJ _ _ _ hJ3 (bx1.step (.int .i64 0))
            have bs2 : BodyStep M w1.heap.size W2 (W3.setCell ⟨W.heap.size + 1, 0, none⟩ (.int .i64 0)) := (hk3.mono (by omega)).trans (BodyStep.setCell W3 (show W.heap.size + 1 < w1.heap.size by omega) _ (fun k hm => (bx1.step _).same hM k hm))
            have cy2 := bx2.y
            clear hR hy
            gi_wp2
            generalize hw3 : W3.setCell ⟨W.heap.size + 1, 0, none⟩ (.int .i64 0) = w3 at *
            have HW := hide hw3
            clear hw3
            have hM3 := (hN _ _ hj2).2
            have hs8 : ∀ w, CallsIn (Fence.wide.inRound l2) 6 Tryz.prog 129 #[.int .i32 xc, .int .i64 (xs : Int)] w fun e w' => e = .returned (.agg #[.int .i64 (Vm.singleA (xc, xs)).1, .int .i32 (Vm.singleA (xc, xs)).2.1, .int .i64 ((Vm.singleA (xc, xs)).2.2 : Nat)]) ∧ Below w.heap.size w w' :=
              fun w => CallsIn.inRound l2 (callsIn_wide.2 (single_at (xc, xs) w))
            have hnx : ∀ w4, Below w3.heap.size w3.drew w4 → Bx M W.heap.size l enc b 0 w4 ∧ BodyStep M w1.heap.size w3 w4 ∧ ∃ fn tmps assign body, (Instr.yield l #[.agg #[.int .i64 (Vm.singleA (xc, xs)).1, .int .i32 (Vm.singleA (xc, xs)).2.1, .int .i64 ((Vm.singleA (xc, xs)).2.2 : Nat)]]).run Tryz.prog w4 = .ok (.round l fn tmps assign body) w4 ∧
                RoundIn (Fence.wide.inRound l2) 6 Tryz.prog l fn tmps assign body w4 fun e W' => ∃ q : Bool, e = .returned (.bool q) ∧ Hid ((q = true ∧ (J (out ++ [(2, 10, h)] ++ [Vm.singleA (xc, xs)]) W' ∧ BodyStep M W.heap.size w4 W')) ∨ (q = false ∧ (Jx (out ++ [(2, 10, h)] ++ [Vm.singleA (xc, xs)]) W' ∧ BodyStep M W.heap.size w4 W'))) := fun w4 hb4 => by
              have be4 := below_drew1 hb4
              have bx4 := bx2.it hM (Nat.le_refl _) (ItStep.of_below be4 bx2.sz hM3)
              have hj4 := hJ _ _ _ hj2 (ItStep.of_below be4 (by have := bx2.sz; omega) hM3)
              obtain ⟨fn, tmps, assign, body, hy4, hR⟩ := hY (out ++ [(2, 10, h)]) _ _ hj4 (by have := bx4.sz; omega) P2.out
              exact ⟨bx4, BodyStep.of_below (hM.of (by omega)) be4 (by have := bx2.sz; omega), fn, tmps, assign, body, hy4, round_bool (some l2) _ hR⟩
            have HN := hide hnx
            clear hnx
            gi_region_with_o (first
              | (refine ⟨trivial, ?_⟩; gi_at_call 129; refine (hs8 _).mono ?_; rintro e w4 ⟨rfl, hb4⟩; obtain ⟨bx4, bs4, fn, tmps, assign, body, hy4, hR⟩ := HN.out w4 hb4; have cy4 := bx4.y)
              | (refine hR.mono ?_; rintro e W5 ⟨q, rfl, Hq⟩))
            all_goals
              rcases Hq.out with ⟨rfl, hJ5, hk5⟩ | ⟨rfl, hJx5, hkx5⟩
              · gi_wp2
                exact ⟨bs2.trans (bs4.trans (hk5.mono (by omega))), _, _, T2.out, by omega, hJ5, bx4.body hk5⟩
              · gi_wp2
                exact ⟨bs2.trans (bs4.trans (hkx5.mono (by omega))), rfl, _, P2.out, hJx5⟩
          · gi_wp2
            exact ⟨hkx.mono (by omega), rfl, _, P1.out, hJx3⟩
    · have hh0 : h = 0 := by omega
      subst hh0
      by_cases h13 : xc = 13
      · subst h13
        have t2 := t.cr rfl (x := (13, xs)) rfl
        have bx2 : Bx M W.heap.size l enc b 0 (W2.setCell ⟨W.heap.size + 1, 0, none⟩ (.int .i64 0)) := bx.set hM 0
        have bx3 := bx2.set hM xs
        have hj2 := hJ _ _ _ hjo (bx.step (.int .i64 0))
        have hj3 := hJ _ _ _ hj2 (bx2.step (.int .i64 xs))
        have bs2 : BodyStep M w1.heap.size W2 (W2.setCell ⟨W.heap.size + 1, 0, none⟩ (.int .i64 0)) := BodyStep.setCell W2 (show W.heap.size + 1 < w1.heap.size by omega) _ (fun k hm => (bx.step _).same hM k hm)
        have bs3 := bs2.trans (BodyStep.setCell _ (show (⟨W.heap.size + 1, 0, none⟩ : Addr).block < w1.heap.size by show W.heap.size + 1 < _; omega) (.int .i64 xs) (fun k hm => (bx2.step _).same hM k hm))
        have T2 := hide t2
        clear t2
        gi_wp2
        refine ⟨fun _ h => (by cases h), ?_⟩
        gi_wp2
        exact ⟨bs3, _, _, T2.out, by omega, hj3, bx3⟩
      · have h13' : (xc == 13) = false := by simpa using h13
        have t2 := t.one rfl (x := (xc, xs)) h13
        have hp2 : out ++ [Vm.singleA (xc, xs)] <+: Vm.atoms enc b.data.toList := t2.pre hpre
        have bx2 : Bx M W.heap.size l enc b 0 (W2.setCell ⟨W.heap.size + 1, 0, none⟩ (.int .i64 0)) := bx.set hM 0
        have hj2 := hJ _ _ _ hjo (bx.step (.int .i64 0))
        have bs2 : BodyStep M w1.heap.size W2 (W2.setCell ⟨W.heap.size + 1, 0, none⟩ (.int .i64 0)) := BodyStep.setCell W2 (show W.heap.size + 1 < w1.heap.size by omega) _ (fun k hm => (bx.step _).same hM k hm)
        have cy2 := bx2.y
        have T2 := hide t2
        have P2 := hide hp2
        have H13 := hide h13
        clear t2 hp2 h13
        gi_wp2
        refine ⟨fun _ h => (by cases h), ?_⟩
        gi_wp2
        generalize hw3 : W2.setCell ⟨W.heap.size + 1, 0, none⟩ (.int .i64 0) = w3 at *
        have HW := hide hw3
        clear hw3
        have hM3 := (hN _ _ hj2).2
        have hs8 : ∀ w, CallsIn (Fence.wide.inRound l2) 6 Tryz.prog 129 #[.int .i32 xc, .int .i64 (xs : Int)] w fun e w' => e = .returned (.agg #[.int .i64 (Vm.singleA (xc, xs)).1, .int .i32 (Vm.singleA (xc, xs)).2.1, .int .i64 ((Vm.singleA (xc, xs)).2.2 : Nat)]) ∧ Below w.heap.size w w' :=
          fun w => CallsIn.inRound l2 (callsIn_wide.2 (single_at (xc, xs) w))
        have hnx : ∀ w4, Below w3.heap.size w3.drew w4 → Bx M W.heap.size l enc b 0 w4 ∧ BodyStep M w1.heap.size w3 w4 ∧ ∃ fn tmps assign body, (Instr.yield l #[.agg #[.int .i64 (Vm.singleA (xc, xs)).1, .int .i32 (Vm.singleA (xc, xs)).2.1, .int .i64 ((Vm.singleA (xc, xs)).2.2 : Nat)]]).run Tryz.prog w4 = .ok (.round l fn tmps assign body) w4 ∧
            RoundIn (Fence.wide.inRound l2) 6 Tryz.prog l fn tmps assign body w4 fun e W' => ∃ q : Bool, e = .returned (.bool q) ∧ Hid ((q = true ∧ (J (out ++ [Vm.singleA (xc, xs)]) W' ∧ BodyStep M W.heap.size w4 W')) ∨ (q = false ∧ (Jx (out ++ [Vm.singleA (xc, xs)]) W' ∧ BodyStep M W.heap.size w4 W'))) := fun w4 hb4 => by
          have be4 := below_drew1 hb4
          have bx4 := bx2.it hM (Nat.le_refl _) (ItStep.of_below be4 bx2.sz hM3)
          have hj4 := hJ _ _ _ hj2 (ItStep.of_below be4 (by have := bx2.sz; omega) hM3)
          obtain ⟨fn, tmps, assign, body, hy4, hR⟩ := hY (out) _ _ hj4 (by have := bx4.sz; omega) P2.out
          exact ⟨bx4, BodyStep.of_below (hM.of (by omega)) be4 (by have := bx2.sz; omega), fn, tmps, assign, body, hy4, round_bool (some l2) _ hR⟩
        have HN := hide hnx
        clear hnx
        gi_region_with_o (first
          | (refine ⟨trivial, ?_⟩; gi_at_call 129; refine (hs8 _).mono ?_; rintro e w4 ⟨rfl, hb4⟩; obtain ⟨bx4, bs4, fn, tmps, assign, body, hy4, hR⟩ := HN.out w4 hb4; have cy4 := bx4.y)
          | (refine hR.mono ?_; rintro e W5 ⟨q, rfl, Hq⟩))
        all_goals
          rcases Hq.out with ⟨rfl, hJ5, hk5⟩ | ⟨rfl, hJx5, hkx5⟩
          · gi_wp2
            exact ⟨bs2.trans (bs4.trans (hk5.mono (by omega))), _, _, T2.out, by omega, hJ5, bx4.body hk5⟩
          · gi_wp2
            exact ⟨bs2.trans (bs4.trans (hkx5.mono (by omega))), rfl, _, P2.out, hJx5⟩
  case done =>
    rintro W2 hsz ⟨out, h, t, h4, hjo, bx⟩ hK hmK
    have ch := bx.held
    have cy := bx.y
    by_cases hh : 0 < h
    · have hall : Vm.atoms enc b.data.toList = out ++ [(2, 10, h)] := by have := t.all; rw [if_pos hh] at this; exact this
      obtain ⟨fn, tmps, assign, body, hy, hR⟩ := hY out (2, 10, h) _ hjo (by have := bx.sz; omega) (by rw [hall]; exact ⟨[], by simp⟩)
      simp only [encAt] at hy
      have HA := hide hall
      clear hall
      gi_wp2
      refine (roundIn_any none hR).mono ?_
      rintro e W3 (⟨rfl, hJ3, hk3⟩ | ⟨rfl, hJx3, hkx⟩)
      · obtain ⟨hK3, hm3⟩ := kept_at hk3 (show W.heap.size ≤ w1.heap.size by omega) hsz hmK
        rw [hK] at hK3
        gi_wp2
        refine ⟨by simp, .inl ⟨_, _, rfl, run_takeDeferred hK3, ?_⟩⟩
        exact ⟨_, results_none rfl _ _ _, ⟨_, rfl⟩, .inl (by rw [HA.out]; exact hJ _ _ _ hJ3 (ItStep.putObj _ (by omega) hm3))⟩
      · obtain ⟨hK3, hm3⟩ := kept_at hkx (show W.heap.size ≤ w1.heap.size by omega) hsz hmK
        rw [hK] at hK3
        gi_wp2
        refine ⟨by simp, .inl ⟨_, _, rfl, run_takeDeferred hK3, ?_⟩⟩
        exact ⟨_, results_none rfl _ _ _, ⟨_, rfl⟩, .inr ⟨_, ⟨[], by rw [HA.out]; simp⟩, hJx _ _ _ hJx3 (ItStep.putObj _ (by omega) hm3)⟩⟩
    · obtain rfl : h = 0 := by omega
      have hall : Vm.atoms enc b.data.toList = out := by have := t.all; rw [if_neg (by omega), List.append_nil] at this; exact this
      have HA := hide hall
      clear hall
      gi_wp2
      refine ⟨by simp, .inl ⟨_, _, rfl, run_takeDeferred hK, ?_⟩⟩
      exact ⟨_, results_none rfl _ _ _, ⟨_, rfl⟩, .inl (by rw [HA.out]; exact hJ _ _ _ hjo (ItStep.putObj _ (by omega) hmK))⟩
  case stop =>
    rintro c pre W2 hsz hpre ⟨rfl, out, hp, hjx⟩ hK hmK
    gi_wp2
    refine ⟨by simp, .inl ⟨_, _, rfl, run_takeDeferred hK, ?_⟩⟩
    exact ⟨_, results_none rfl _ _ _, ⟨_, rfl⟩, .inr ⟨_, hp, hJx _ _ _ hjx (ItStep.putObj _ (by omega) hmK)⟩⟩
end Go.Proofs.YtjbfgnhkgjigpaaGreatDoor

namespace Go.Proofs.YtjbfgnhkgjigpaaGreatDoor
open Go.Shelf Go.RowKit Go.Proofs

def ren : Go.Shelf.Ren := ⟨fun | 99 => 102 | 118 => 133 | 165 => 83 | 166 => 85 | 168 => 99 | 169 => 88 | 206 => 132 | 240 => 122 | 241 => 123 | 242 => 130 | 276 => 147 | 277 => 148 | 278 => 154 | n => n, fun | 0 => 0 | 3 => 3 | 4 => 4 | 5 => 5 | 9 => 9 | 20 => 20 | 21 => 21 | 37 => 74 | 46 => 130 | 51 => 216 | 70 => 140 | 72 => 142 | 75 => 145 | 127 => 182 | 164 => 210 | 80 => 56 | n => n, fun | n => n⟩
theorem lays240 : Go.Proofs.Lays.n240 Tryz.prog ren := {
  mixed := by kernel_rfl
  f240 := Tryz.func122.trans (congrArg some (by kernel_rfl))
  f276 := Tryz.func147.trans (congrArg some (by kernel_rfl))
  t0 := Tryz.underlying0
  a0 := Tryz.isAgg0
  z0 := Tryz.sizeOf0
  v0 := Tryz.zeroValue0
  t4 := Tryz.underlying4
  a4 := Tryz.isAgg4
  z4 := Tryz.sizeOf4
  v4 := Tryz.zeroValue4
  t9 := Tryz.underlying9
  a9 := Tryz.isAgg9
  z9 := Tryz.sizeOf9
  v9 := Tryz.zeroValue9
  t20 := Tryz.underlying20
  a20 := Tryz.isAgg20
  z20 := Tryz.sizeOf20
  v20 := Tryz.zeroValue20
  t70 := Tryz.underlying140
  a70 := Tryz.isAgg140
  z70 := Tryz.sizeOf140
  v70 := Tryz.zeroValue140
  t72 := Tryz.underlying142
  a72 := Tryz.isAgg142
  z72 := Tryz.sizeOf142
  v72 := Tryz.zeroValue142
  t164 := Tryz.underlying210
  a164 := Tryz.isAgg210
  z164 := Tryz.sizeOf210
  v164 := Tryz.zeroValue210 }
theorem lays165 : Go.Proofs.Lays.n165 Tryz.prog ren := {
  mixed := by kernel_rfl
  f165 := Tryz.func83.trans (congrArg some (by kernel_rfl))
  f240 := Tryz.func122.trans (congrArg some (by kernel_rfl))
  f241 := Tryz.func123.trans (congrArg some (by kernel_rfl))
  f276 := Tryz.func147.trans (congrArg some (by kernel_rfl))
  f277 := Tryz.func148.trans (congrArg some (by kernel_rfl))
  t0 := Tryz.underlying0
  a0 := Tryz.isAgg0
  z0 := Tryz.sizeOf0
  v0 := Tryz.zeroValue0
  t3 := Tryz.underlying3
  a3 := Tryz.isAgg3
  z3 := Tryz.sizeOf3
  v3 := Tryz.zeroValue3
  t4 := Tryz.underlying4
  a4 := Tryz.isAgg4
  z4 := Tryz.sizeOf4
  v4 := Tryz.zeroValue4
  t9 := Tryz.underlying9
  a9 := Tryz.isAgg9
  z9 := Tryz.sizeOf9
  v9 := Tryz.zeroValue9
  t20 := Tryz.underlying20
  a20 := Tryz.isAgg20
  z20 := Tryz.sizeOf20
  v20 := Tryz.zeroValue20
  t37 := Tryz.underlying74
  a37 := Tryz.isAgg74
  z37 := Tryz.sizeOf74
  v37 := Tryz.zeroValue74
  t70 := Tryz.underlying140
  a70 := Tryz.isAgg140
  z70 := Tryz.sizeOf140
  v70 := Tryz.zeroValue140
  t72 := Tryz.underlying142
  a72 := Tryz.isAgg142
  z72 := Tryz.sizeOf142
  v72 := Tryz.zeroValue142
  t164 := Tryz.underlying210
  a164 := Tryz.isAgg210
  z164 := Tryz.sizeOf210
  v164 := Tryz.zeroValue210 }
theorem lays166 : Go.Proofs.Lays.n166 Tryz.prog ren := {
  mixed := by kernel_rfl
  f166 := Tryz.func85.trans (congrArg some (by kernel_rfl))
  f240 := Tryz.func122.trans (congrArg some (by kernel_rfl))
  f276 := Tryz.func147.trans (congrArg some (by kernel_rfl))
  t0 := Tryz.underlying0
  a0 := Tryz.isAgg0
  z0 := Tryz.sizeOf0
  v0 := Tryz.zeroValue0
  t3 := Tryz.underlying3
  a3 := Tryz.isAgg3
  z3 := Tryz.sizeOf3
  v3 := Tryz.zeroValue3
  t4 := Tryz.underlying4
  a4 := Tryz.isAgg4
  z4 := Tryz.sizeOf4
  v4 := Tryz.zeroValue4
  t9 := Tryz.underlying9
  a9 := Tryz.isAgg9
  z9 := Tryz.sizeOf9
  v9 := Tryz.zeroValue9
  t20 := Tryz.underlying20
  a20 := Tryz.isAgg20
  z20 := Tryz.sizeOf20
  v20 := Tryz.zeroValue20
  t37 := Tryz.underlying74
  a37 := Tryz.isAgg74
  z37 := Tryz.sizeOf74
  v37 := Tryz.zeroValue74
  t70 := Tryz.underlying140
  a70 := Tryz.isAgg140
  z70 := Tryz.sizeOf140
  v70 := Tryz.zeroValue140
  t72 := Tryz.underlying142
  a72 := Tryz.isAgg142
  z72 := Tryz.sizeOf142
  v72 := Tryz.zeroValue142
  t75 := Tryz.underlying145
  a75 := Tryz.isAgg145
  z75 := Tryz.sizeOf145
  v75 := Tryz.zeroValue145
  t164 := Tryz.underlying210
  a164 := Tryz.isAgg210
  z164 := Tryz.sizeOf210
  v164 := Tryz.zeroValue210 }
theorem lays168 : Go.Proofs.Lays.n168 Tryz.prog ren := {
  mixed := by kernel_rfl
  f168 := Tryz.func99.trans (congrArg some (by kernel_rfl))
  f240 := Tryz.func122.trans (congrArg some (by kernel_rfl))
  f242 := Tryz.func130.trans (congrArg some (by kernel_rfl))
  f276 := Tryz.func147.trans (congrArg some (by kernel_rfl))
  f278 := Tryz.func154.trans (congrArg some (by kernel_rfl))
  t0 := Tryz.underlying0
  a0 := Tryz.isAgg0
  z0 := Tryz.sizeOf0
  v0 := Tryz.zeroValue0
  t3 := Tryz.underlying3
  a3 := Tryz.isAgg3
  z3 := Tryz.sizeOf3
  v3 := Tryz.zeroValue3
  t4 := Tryz.underlying4
  a4 := Tryz.isAgg4
  z4 := Tryz.sizeOf4
  v4 := Tryz.zeroValue4
  t5 := Tryz.underlying5
  a5 := Tryz.isAgg5
  z5 := Tryz.sizeOf5
  v5 := Tryz.zeroValue5
  t9 := Tryz.underlying9
  a9 := Tryz.isAgg9
  z9 := Tryz.sizeOf9
  v9 := Tryz.zeroValue9
  t20 := Tryz.underlying20
  a20 := Tryz.isAgg20
  z20 := Tryz.sizeOf20
  v20 := Tryz.zeroValue20
  t21 := Tryz.underlying21
  a21 := Tryz.isAgg21
  z21 := Tryz.sizeOf21
  v21 := Tryz.zeroValue21
  t37 := Tryz.underlying74
  a37 := Tryz.isAgg74
  z37 := Tryz.sizeOf74
  v37 := Tryz.zeroValue74
  t46 := Tryz.underlying130
  a46 := Tryz.isAgg130
  z46 := Tryz.sizeOf130
  v46 := Tryz.zeroValue130
  t51 := Tryz.underlying216
  a51 := Tryz.isAgg216
  z51 := Tryz.sizeOf216
  v51 := Tryz.zeroValue216
  t70 := Tryz.underlying140
  a70 := Tryz.isAgg140
  z70 := Tryz.sizeOf140
  v70 := Tryz.zeroValue140
  t72 := Tryz.underlying142
  a72 := Tryz.isAgg142
  z72 := Tryz.sizeOf142
  v72 := Tryz.zeroValue142
  t75 := Tryz.underlying145
  a75 := Tryz.isAgg145
  z75 := Tryz.sizeOf145
  v75 := Tryz.zeroValue145
  t164 := Tryz.underlying210
  a164 := Tryz.isAgg210
  z164 := Tryz.sizeOf210
  v164 := Tryz.zeroValue210 }
theorem lays169 : Go.Proofs.Lays.n169 Tryz.prog ren := {
  mixed := by kernel_rfl
  f169 := Tryz.func88.trans (congrArg some (by kernel_rfl))
  t0 := Tryz.underlying0
  a0 := Tryz.isAgg0
  z0 := Tryz.sizeOf0
  v0 := Tryz.zeroValue0
  t3 := Tryz.underlying3
  a3 := Tryz.isAgg3
  z3 := Tryz.sizeOf3
  v3 := Tryz.zeroValue3
  t9 := Tryz.underlying9
  a9 := Tryz.isAgg9
  z9 := Tryz.sizeOf9
  v9 := Tryz.zeroValue9
  t37 := Tryz.underlying74
  a37 := Tryz.isAgg74
  z37 := Tryz.sizeOf74
  v37 := Tryz.zeroValue74
  t70 := Tryz.underlying140
  a70 := Tryz.isAgg140
  z70 := Tryz.sizeOf140
  v70 := Tryz.zeroValue140
  t72 := Tryz.underlying142
  a72 := Tryz.isAgg142
  z72 := Tryz.sizeOf142
  v72 := Tryz.zeroValue142
  t127 := Tryz.underlying182
  a127 := Tryz.isAgg182
  z127 := Tryz.sizeOf182
  v127 := Tryz.zeroValue182 }
theorem lays118 : Go.Proofs.Lays.n118 Tryz.prog ren := {
  mixed := by kernel_rfl
  f118 := Tryz.func133.trans (congrArg some (by kernel_rfl))
  t3 := Tryz.underlying3
  a3 := Tryz.isAgg3
  z3 := Tryz.sizeOf3
  v3 := Tryz.zeroValue3
  t4 := Tryz.underlying4
  a4 := Tryz.isAgg4
  z4 := Tryz.sizeOf4
  v4 := Tryz.zeroValue4
  t21 := Tryz.underlying21
  a21 := Tryz.isAgg21
  z21 := Tryz.sizeOf21
  v21 := Tryz.zeroValue21 }
theorem lays99 : Go.Proofs.Lays.n99 Tryz.prog ren := {
  mixed := by kernel_rfl
  f99 := Tryz.func102.trans (congrArg some (by kernel_rfl))
  f206 := Tryz.func132.trans (congrArg some (by kernel_rfl))
  t3 := Tryz.underlying3
  a3 := Tryz.isAgg3
  z3 := Tryz.sizeOf3
  v3 := Tryz.zeroValue3
  t4 := Tryz.underlying4
  a4 := Tryz.isAgg4
  z4 := Tryz.sizeOf4
  v4 := Tryz.zeroValue4
  t9 := Tryz.underlying9
  a9 := Tryz.isAgg9
  z9 := Tryz.sizeOf9
  v9 := Tryz.zeroValue9 }
theorem lays242 : Go.Proofs.Lays.n242 Tryz.prog ren := {
  mixed := by kernel_rfl
  f242 := Tryz.func130.trans (congrArg some (by kernel_rfl))
  f278 := Tryz.func154.trans (congrArg some (by kernel_rfl))
  t4 := Tryz.underlying4
  a4 := Tryz.isAgg4
  z4 := Tryz.sizeOf4
  v4 := Tryz.zeroValue4
  t5 := Tryz.underlying5
  a5 := Tryz.isAgg5
  z5 := Tryz.sizeOf5
  v5 := Tryz.zeroValue5
  t21 := Tryz.underlying21
  a21 := Tryz.isAgg21
  z21 := Tryz.sizeOf21
  v21 := Tryz.zeroValue21
  t37 := Tryz.underlying74
  a37 := Tryz.isAgg74
  z37 := Tryz.sizeOf74
  v37 := Tryz.zeroValue74
  t46 := Tryz.underlying130
  a46 := Tryz.isAgg130
  z46 := Tryz.sizeOf130
  v46 := Tryz.zeroValue130
  t51 := Tryz.underlying216
  a51 := Tryz.isAgg216
  z51 := Tryz.sizeOf216
  v51 := Tryz.zeroValue216 }
theorem extraB : Builder.Extra Tryz.prog ren := {
  sizeBuilder := by kernel_rfl
  liesBuilder := by kernel_rfl
  t5 := Tryz.underlying5
  a5 := Tryz.isAgg5
  z5 := Tryz.sizeOf5
  v5 := Tryz.zeroValue5
  infoByte := by kernel_rfl
  cellsByte := by kernel_rfl
  sizeByte := by kernel_rfl
  neB5 := by decide }
end Go.Proofs.YtjbfgnhkgjigpaaGreatDoor
