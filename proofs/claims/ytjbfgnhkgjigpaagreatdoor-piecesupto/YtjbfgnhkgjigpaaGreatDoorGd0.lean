import Derived.Test.YtjbfgnhkgjigpaaGreatDoorGc9
namespace Go.Proofs.YtjbfgnhkgjigpaaGreatDoor
open Go.RowKit Go.Vit

theorem Bd.low {B b : Nat} {bs : List Value} {w w' : World} (h : Bd B b bs w) (hb : Below w.heap.size w w') : Bd B b bs w' := by
  have hbz : b < w.heap.size := by
    obtain ⟨_, v, hbk, _⟩ := h
    exact heap_lt hbk
  exact h.it (ItStep.of_below hb (Nat.le_refl _) (fun k hk => (h.mem k hk).2)) hbz
theorem wf_enters (n : Nd) (args : Array Value) (w : World) : (callFunc n.wf args).run Tryz.prog w = .ok (.enter n.wf args) w := by
  cases n
  · exact enters_of Tryz.func192 (by kernel_rfl) rfl args w
  · exact enters_of Tryz.func199 (by kernel_rfl) rfl args w

set_option maxRecDepth 100000 in
set_option maxHeartbeats 1000000 in
theorem write_inner_in (B : Nat) (Bl : Nat) (c : Cn) (k : Nat) (l r : Nd) (hu : (Nd.inner Bl c k l r).Und B) (hlc : l.cn.body = (rowB l.row).length) (ihl : Writes l B) (ihr : Writes r B)
    (b : Nat) (bs : List Value) (f t : Int) (w : World) (hl : (Nd.inner Bl c k l r).In w) (hd : Bd B b bs w) (hBw : B ≤ w.heap.size) (hlen : bs.length + ((rowB l.row).length + (rowB r.row).length) ≤ 140737488355328) (h1 : (((rowB l.row).length + (rowB r.row).length : Nat) : Int) - 4611686018427387904 ≤ f) (h2 : t ≤ 4611686018427387904) (hft : f ≤ t) (hf' : f < (c.body : Int)) (h0 : 0 < t) :
    Calls Tryz.prog 199 #[.pointer (some ⟨Bl, 0, none⟩), .pointer (some ⟨b, 0, none⟩), .int .i64 f, .int .i64 t] w fun e w' => e = .returned (.tuple #[]) ∧
      Bd B b (bs ++ Lib.byteCells (Vm.partL (rowB l.row) f t) ++ Lib.byteCells (Vm.partL (rowB r.row) (f - (rowB l.row).length) (t - (rowB l.row).length))) w' ∧ Below B w w' := by
  have c0 : w.cell? ⟨Bl, 0, none⟩ = some (.int .i64 c.body) := by rw [Lib.cell_of_heap hl.1]; rfl
  obtain ⟨p9, p10⟩ := inner_at hl
  have hbz := heap_lt hl.1
  have hw1 := wf_enters l
  have hw2 := wf_enters r
  have hm1 := meth_write l 343
  have hm2 := meth_write r 343
  have fb := field_body
  have HL := hide1 hl
  have HD := hide1 hd
  clear hl hd
  go_enter Tryz.func199, Tryz.ntmps199
  go_wp2_with fail
  rw [meth_counts l 343 _ HL.out.2.1]
  go_wp2_with fail
  refine (counts_any l.cn _).mono ?_
  rintro e w1 ⟨rfl, hb1⟩
  have HL1 := hide1 (Nd.low hb1 HL.out)
  have HD1 := hide1 (HD.out.low hb1)
  have hs1 := hb1.size
  have HB1 := hide1 (hb1.mono hBw)
  clear c0 p9 p10 hb1 HL HD
  obtain ⟨p9, p10⟩ := inner_at HL1.out
  have hbz1 := heap_lt HL1.out.1
  generalize hlcn : l.cn = lc at *
  obtain ⟨d0, d1, d2, d3, d4, d5, d6, d7⟩ := lc
  simp only [Cn.val] at hlc ⊢
  clear hlcn
  go_wp2_with fail
  refine (ihl b bs f t w1 HL1.out.2.1 HD1.out (by omega) (by omega) (by omega) h2 hft).mono ?_
  rintro e w2 ⟨rfl, hd2, hb2⟩
  have HL2 := hide1 (Nd.kept hb2.block hu HL1.out)
  have HD2 := hide1 hd2
  have hs2 := hb2.size
  have HB2 := hide1 (HB1.out.trans hb2)
  clear p9 p10 hb2 HL1 HD1 hd2 HB1
  obtain ⟨p9, p10⟩ := inner_at HL2.out
  have hbz2 := heap_lt HL2.out.1
  have hpl := Vm.partL_len (rowB l.row) f t
  have hbl := Lib.byteCells_length (Vm.partL (rowB l.row) f t)
  have hq := ihr b (bs ++ Lib.byteCells (Vm.partL (rowB l.row) f t)) (f - (rowB l.row).length) (t - (rowB l.row).length) w2 HL2.out.2.2 HD2.out (by omega) (by rw [List.length_append, hbl]; omega) (by omega) (by omega) (by omega)
  have HR := hide1 hq
  clear hq hpl hbl
  generalize hah : (rowB l.row).length = ah at *
  have HAH := hide1 hah
  clear hah
  go_wp2_with fail
  refine HR.out.mono ?_
  rintro e w3 ⟨rfl, hd3, hb3⟩
  have HD3 := hide1 hd3
  have HB3 := hide1 (HB2.out.trans hb3)
  clear hd3 hb3 HR
  go_wp2_with fail
  go_returns
  rw [HAH.out]
  exact ⟨rfl, HD3.out, HB3.out⟩

theorem writes_all (B : Nat) : ∀ (n : Nd) (enc : Int), n.Und B → n.Ok → (∀ x ∈ n.row, LeafOk enc x) → Writes n B
  | .leaf Bl c s, _, hu, ho, _ => writes_leaf Bl c s B hu ho
  | .inner Bl c k l r, enc, hu, ho, hr => by
    have ol := ho.2.2.1
    have or := ho.2.2.2
    have rl : ∀ x ∈ l.row, LeafOk enc x := fun x hx => hr x (by simp [Nd.row, hx])
    have rr : ∀ x ∈ r.row, LeafOk enc x := fun x hx => hr x (by simp [Nd.row, hx])
    have ihl := writes_all B l enc hu.2.1 ol rl
    have ihr := writes_all B r enc hu.2.2 or rr
    have hlc : l.cn.body = (rowB l.row).length := by rw [Nd.cn_row enc ol rl]; exact rowA_size rl
    have hrc : r.cn.body = (rowB r.row).length := by rw [Nd.cn_row enc or rr]; exact rowA_size rr
    have hc : c.body = (rowB l.row).length + (rowB r.row).length := by
      have : c = l.cn.plus r.cn := ho.1
      rw [this]; show l.cn.body + r.cn.body = _; rw [hlc, hrc]
    have hrow : rowB (Nd.inner Bl c k l r).row = rowB l.row ++ rowB r.row := by show rowB (l.row ++ r.row) = _; exact rowB_append _ _
    intro b bs f t w hl hd hBw hlen h1 h2 hft
    rw [hrow] at hlen h1 ⊢
    rw [List.length_append] at hlen h1
    by_cases h : (c.body : Int) ≤ f ∨ t ≤ 0
    · have hp : Vm.partL (rowB l.row ++ rowB r.row) f t = [] := Vm.partL_out (h.elim (fun x => .inl (by rw [List.length_append, ← hc]; exact x)) (fun x => .inr (.inl x)))
      rw [hp, byteCells_nil, List.append_nil]
      refine (write_inner_out b Bl c k l r f t w hl h).mono ?_
      rintro e w' ⟨rfl, rfl⟩
      exact ⟨rfl, hd, Below.refl _ _⟩
    · refine (write_inner_in B Bl c k l r hu hlc ihl ihr b bs f t w hl hd hBw hlen h1 h2 hft (by omega) (by omega)).mono ?_
      rintro e w' ⟨rfl, hd', hb'⟩
      refine ⟨rfl, ?_, hb'⟩
      have e1 : Lib.byteCells (Vm.partL (rowB l.row ++ rowB r.row) f t) = Lib.byteCells (Vm.partL (rowB l.row) f t) ++ Lib.byteCells (Vm.partL (rowB r.row) (f - (rowB l.row).length) (t - (rowB l.row).length)) := by
        rw [Vm.partL_append]; simp [Lib.byteCells]
      rw [e1, ← List.append_assoc]
      exact hd'
end Go.Proofs.YtjbfgnhkgjigpaaGreatDoor

namespace Go.Proofs.YtjbfgnhkgjigpaaGreatDoor
open Go.RowKit Go.Shelf Go.Vit
attribute [local go_sem] Oper.semAt_some

set_option maxRecDepth 100000 in
set_option maxHeartbeats 1000000 in
theorem twrite_any (B : Nat) (enc : Int) (tr : Option Nd) (R : List (Cn × ByteArray)) (b : Nat) (bs : List Value) (f t : Int) (w : World) (ht : TrAt w enc tr R) (hu : ∀ n, tr = some n → n.Und B) (hd : Bd B b bs w) (hBw : B ≤ w.heap.size)
    (hlen : bs.length + (rowB R).length ≤ 140737488355328) (h1 : ((rowB R).length : Int) - 4611686018427387904 ≤ f) (h2 : t ≤ 4611686018427387904) (hft : f ≤ t) :
    Calls Tryz.prog 87 #[.agg #[trv tr], .pointer (some ⟨b, 0, none⟩), .int .i64 f, .int .i64 t] w fun e w' => e = .returned (.tuple #[]) ∧ Bd B b (bs ++ Lib.byteCells (Vm.partL (rowB R) f t)) w' ∧ Below B w w' := by
  cases tr with
  | none =>
    have hR := ht.non rfl
    subst hR
    have hp : Vm.partL (rowB []) f t = [] := by simp [rowB, Vm.partL]
    rw [hp, byteCells_nil, List.append_nil]
    have hb' := (Below.refl w.heap.size w).alloc (Nat.le_refl _) (.cells #[.nilIface] 71)
    have HD := hide1 (hd.low hb')
    have HB := hide1 (hb'.mono hBw)
    clear hd ht hu hb'
    simp only [trv]
    go_enter Tryz.func87, Tryz.ntmps87
    go_wp2_with fail
    go_returns
    exact ⟨rfl, HD.out, HB.out⟩
  | some n =>
    obtain ⟨hn, ho, hr⟩ := ht.inn n rfl
    subst hr
    have hw := writes_all B n enc (hu n rfl) ho ht.ok
    have hb' := (Below.refl w.heap.size w).alloc (Nat.le_refl _) (.cells #[.iface n.ty (.pointer (some ⟨n.blk, 0, none⟩))] 71)
    have hq := hw b bs f t _ (Nd.low hb' hn) (hd.low hb') (Nat.le_trans hBw hb'.size) hlen h1 h2 hft
    have HQ := hide1 hq
    have HB := hide1 (hb'.mono hBw)
    have hw1 := wf_enters n
    have hm1 := meth_write n 343
    clear hd ht hu hb' hq hw
    simp only [trv]
    go_enter Tryz.func87, Tryz.ntmps87
    go_wp2_with fail
    refine HQ.out.mono ?_
    rintro e w1 ⟨rfl, hd1, hb1⟩
    have HD1 := hide1 hd1
    have HB1 := hide1 (HB.out.trans hb1)
    clear hd1 hb1 HQ HB
    go_wp2_with fail
    go_returns
    exact ⟨rfl, HD1.out, HB1.out⟩

/-- THE ITERATOR's CONTRACT where it tells whether it came to the end. -/
def ItersB {α : Type} (P : Program) (g : Nat) (args : Value → Array Value) (encs : α → Array Value) (xs : List α) (Need : World → Prop) : Prop :=
  ∀ (M : World → Nat → Prop) (l : Nat) (J Jx : List α → World → Prop) (W : World), MLow M W.heap.size →
    (∀ s A B, J s A → ItStep M W.heap.size A B → J s B) →
    (∀ s A B, Jx s A → ItStep M W.heap.size A B → Jx s B) →
    (∀ s A, J s A → Need A ∧ ∀ k, M A k → k < A.heap.size) →
    (∀ pre x W1, J pre W1 → W.heap.size ≤ W1.heap.size → pre ++ [x] <+: xs → Go.Vit.Yields P l (encs x) W1 fun e W' =>
      (e = .returned (.bool true) ∧ J (pre ++ [x]) W' ∧ BodyStep M W.heap.size W1 W') ∨ (e = .returned (.bool false) ∧ Jx (pre ++ [x]) W' ∧ BodyStep M W.heap.size W1 W')) →
    J [] W →
    Calls P g (args (.func (.yield l) #[] #[])) W fun e W' => (e = .returned (.bool true) ∧ J xs W' ∧ W.heap.size ≤ W'.heap.size) ∨ (e = .returned (.bool false) ∧ ∃ pre, pre <+: xs ∧ Jx pre W')
def Nd.bf : Nd → Nat
  | .leaf _ _ _ => 188
  | .inner _ _ _ _ _ => 196
theorem meth_bodies (n : Nd) (f : Nat) (v : Value) (w : World) : (method (f + 1) n.ty v "vellum/atoms.bodies").run Tryz.prog w = .ok (n.bf, v) w := by
  cases n
  · exact (show (method (f + 1) 164 v "vellum/atoms.bodies").run Tryz.prog w = .ok (188, v) w by kernel_rfl)
  · exact (show (method (f + 1) 196 v "vellum/atoms.bodies").run Tryz.prog w = .ok (196, v) w by kernel_rfl)
theorem bf_enters (n : Nd) (args : Array Value) (w : World) : (callFunc n.bf args).run Tryz.prog w = .ok (.enter n.bf args) w := by
  cases n
  · exact enters_of Tryz.func188 (by kernel_rfl) rfl args w
  · exact enters_of Tryz.func196 (by kernel_rfl) rfl args w
def encB (s : ByteArray) : Array Value := #[.string s]

set_option maxHeartbeats 1000000 in
theorem bodies_leaf (Bl : Nat) (c : Cn) (s : ByteArray) : ItersB Tryz.prog 188 (fun y => #[.pointer (some ⟨Bl, 0, none⟩), y]) encB [s] (fun w => (Nd.leaf Bl c s).In w) := by
  intro M l J Jx W hM hJ hJx hN hY hj
  have hl := (hN _ _ hj).1
  have c9 : W.cell? ⟨Bl, 9, none⟩ = some (.string s) := by rw [Lib.cell_of_heap hl]; rfl
  have hbz := heap_lt hl
  obtain ⟨fn, tmps, assign, body, hy, hR⟩ := hY [] s W hj (Nat.le_refl _) (by simp)
  refine (callsIn_wide (n := 9)).1 ?_
  refine callsIn_of_wp_marks Tryz.func188 rfl trivial ?_ rfl
  simp only [Tryz.ntmps188, List.size_toArray, List.length_cons, List.length_nil, Nat.reduceAdd, Nat.reduceSub, Array.replicate_succ, Array.replicate_zero, List.push_toArray, List.append_toArray, List.nil_append, List.cons_append]
  simp only [encB] at hy
  gi_wp2_with fail
  refine (roundIn_any none hR).mono ?_
  rintro e W3 (⟨rfl, hJ3, hk3⟩ | ⟨rfl, hJx3, hkx⟩)
  · gi_wp2
    exact ⟨.bool true, by simp [results, Tryz.results188, go_sem], .inl ⟨rfl, hJ3, hk3.size⟩⟩
  · gi_wp2
    exact ⟨.bool false, by simp [results, Tryz.results188, go_sem], .inr ⟨rfl, _, List.prefix_refl _, hJx3⟩⟩

set_option maxRecDepth 100000 in
set_option maxHeartbeats 1000000 in
theorem bodies_inner (Bl : Nat) (c : Cn) (k : Nat) (n m : Nd) (xs ys : List ByteArray)
    (hn : ItersB Tryz.prog n.bf (fun y => #[.pointer (some ⟨n.blk, 0, none⟩), y]) encB xs (fun w => n.In w))
    (hm : ItersB Tryz.prog m.bf (fun y => #[.pointer (some ⟨m.blk, 0, none⟩), y]) encB ys (fun w => m.In w)) :
    ItersB Tryz.prog 196 (fun y => #[.pointer (some ⟨Bl, 0, none⟩), y]) encB (xs ++ ys) (fun w => (Nd.inner Bl c k n m).In w) := by
  intro M l J Jx W hM hJ hJx hN hY hj
  have hl := (hN _ _ hj).1
  obtain ⟨p9, p10⟩ := inner_at hl
  have hbz := heap_lt hl.1
  have e1 := bf_enters n
  have e2 := bf_enters m
  have m1 := meth_bodies n 343
  have m2 := meth_bodies m 343
  have C1 := hn M l J Jx W hM hJ hJx (fun s A h => ⟨(hN s A h).1.2.1, (hN s A h).2⟩) (fun pre x W1 h1 h2 h3 => hY pre x W1 h1 h2 (h3.trans (List.prefix_append _ _))) hj
  refine (callsIn_wide (n := 9)).1 ?_
  refine callsIn_of_wp_marks Tryz.func196 rfl trivial ?_ rfl
  simp only [Tryz.ntmps196, List.size_toArray, List.length_cons, List.length_nil, Nat.reduceAdd, Nat.reduceSub, Array.replicate_succ, Array.replicate_zero, List.push_toArray, List.append_toArray, List.nil_append, List.cons_append]
  gi_wp2_with fail
  refine ⟨trivial, (callsIn_wide.2 C1).mono ?_⟩
  rintro e W3 (⟨rfl, hj3, hs3⟩ | ⟨rfl, pre, hp, hx⟩)
  · have hl3 := (hN _ _ hj3).1
    obtain ⟨q9, q10⟩ := inner_at hl3
    have hbz3 := heap_lt hl3.1
    have C2 := hm M l (fun s => J (xs ++ s)) (fun s => Jx (xs ++ s)) W3 (hM.of hs3) (fun s A B h st => hJ _ _ _ h (st.mono hs3)) (fun s A B h st => hJx _ _ _ h (st.mono hs3))
      (fun s A h => ⟨(hN _ A h).1.2.2, (hN _ A h).2⟩) (fun pre x W1 h1 h2 h3 => by
        have hq := hY (xs ++ pre) x W1 h1 (Nat.le_trans hs3 h2) (by rw [List.append_assoc]; obtain ⟨t, ht⟩ := h3; exact ⟨t, by rw [List.append_assoc, ht]⟩)
        obtain ⟨fn, tmps, assign, body, hy, hR⟩ := hq
        refine ⟨fn, tmps, assign, body, hy, hR.mono ?_⟩
        rintro e W' (⟨a1, a2, a3⟩ | ⟨a1, a2, a3⟩)
        · exact .inl ⟨a1, by rw [← List.append_assoc]; exact a2, a3.mono hs3⟩
        · exact .inr ⟨a1, by rw [← List.append_assoc]; exact a2, a3.mono hs3⟩) (by rw [List.append_nil]; exact hj3)
    have HC2 := hide C2
    clear C2 C1 hY hJ hJx hN hn hm
    gi_wp2_with fail
    refine ⟨trivial, (callsIn_wide.2 HC2.out).mono ?_⟩
    rintro e W4 (⟨rfl, hj4, hs4⟩ | ⟨rfl, pre, hp, hx⟩)
    · have HS := hide (Nat.le_trans hs3 hs4)
      have HJ := hide hj4
      clear HC2 hj4 hj3 hs3 hs4 hl3 hl hj q9 q10 p9 p10 hM
      gi_wp2
      exact ⟨.bool true, by simp [results, Tryz.results196, go_sem], .inl ⟨rfl, HJ.out, HS.out⟩⟩
    · have HP := hide (show xs ++ pre <+: xs ++ ys by obtain ⟨t, ht⟩ := hp; exact ⟨t, by rw [List.append_assoc, ht]⟩)
      have HX := hide hx
      clear HC2 hx hp hj3 hs3 hl3 hl hj q9 q10 p9 p10 hM
      gi_wp2
      exact ⟨.bool false, by simp [results, Tryz.results196, go_sem], .inr ⟨rfl, _, HP.out, HX.out⟩⟩
  · have HP := hide (show pre <+: xs ++ ys from hp.trans (List.prefix_append _ _))
    have HX := hide hx
    clear C1 hY hJ hJx hN hn hm hx hp hl hj p9 p10 hM
    gi_wp2
    all_goals
      refine ⟨fun _ _ => trivial, ?_⟩
      gi_wp2
      exact ⟨.bool false, by simp [results, Tryz.results196, go_sem], .inr ⟨rfl, _, HP.out, HX.out⟩⟩

theorem bodies_all : ∀ (n : Nd), ItersB Tryz.prog n.bf (fun y => #[.pointer (some ⟨n.blk, 0, none⟩), y]) encB (n.row.map (fun x => x.2)) (fun w => n.In w)
  | .leaf Bl c s => bodies_leaf Bl c s
  | .inner Bl c k l r => by
    have h := bodies_inner Bl c k l r _ _ (bodies_all l) (bodies_all r)
    rw [← List.map_append] at h
    exact h
end Go.Proofs.YtjbfgnhkgjigpaaGreatDoor
