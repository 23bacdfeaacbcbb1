import Derived.Deep.CutRange
import Derived.Test.YtjbfgnhkgjigpaaDoorGa3
import Derived.Test.YtjbfgnhkgjigpaaDoorGa4
import Derived.Test.YtjbfgnhkgjigpaaDoorGa5
namespace Go.Proofs.YtjbfgnhkgjigpaaDoor
open Go.RowKit Go.Vit

theorem Bd.low {B b : Nat} {bs : List Value} {w w' : World} (h : Bd B b bs w) (hb : Below w.heap.size w w') : Bd B b bs w' := by
  have hbz : b < w.heap.size := by
    obtain ⟨_, v, hbk, _⟩ := h
    exact heap_lt hbk
  exact h.it (ItStep.of_below hb (Nat.le_refl _) (fun k hk => (h.mem k hk).2)) hbz
theorem wf_enters (n : Nd) (args : Array Value) (w : World) : (callFunc n.wf args).run Tryd.prog w = .ok (.enter n.wf args) w := by
  cases n
  · exact enters_of Tryd.func135 (by kernel_rfl) rfl args w
  · exact enters_of Tryd.func141 (by kernel_rfl) rfl args w

set_option maxRecDepth 100000 in
set_option maxHeartbeats 1000000 in
theorem write_inner_in (B : Nat) (Bl : Nat) (c : Cn) (k : Nat) (l r : Nd) (hu : (Nd.inner Bl c k l r).Und B) (hlc : l.cn.body = (rowB l.row).length) (ihl : Writes l B) (ihr : Writes r B)
    (b : Nat) (bs : List Value) (f t : Int) (w : World) (hl : (Nd.inner Bl c k l r).In w) (hd : Bd B b bs w) (hBw : B ≤ w.heap.size) (hlen : bs.length + ((rowB l.row).length + (rowB r.row).length) ≤ 140737488355328) (h1 : (((rowB l.row).length + (rowB r.row).length : Nat) : Int) - 4611686018427387904 ≤ f) (h2 : t ≤ 4611686018427387904) (hft : f ≤ t) (hf' : f < (c.body : Int)) (h0 : 0 < t) :
    Calls Tryd.prog 141 #[.pointer (some ⟨Bl, 0, none⟩), .pointer (some ⟨b, 0, none⟩), .int .i64 f, .int .i64 t] w fun e w' => e = .returned (.tuple #[]) ∧
      Bd B b (bs ++ Lib.byteCells (Vm.partL (rowB l.row) f t) ++ Lib.byteCells (Vm.partL (rowB r.row) (f - (rowB l.row).length) (t - (rowB l.row).length))) w' ∧ Below B w w' := by
  have c0 : w.cell? ⟨Bl, 0, none⟩ = some (.int .i64 c.body) := by rw [Lib.cell_of_heap hl.1]; rfl
  obtain ⟨p9, p10⟩ := inner_at hl
  have hbz := heap_lt hl.1
  have hw1 := wf_enters l
  have hw2 := wf_enters r
  have hm1 := meth_write l 292
  have hm2 := meth_write r 292
  have fb := field_body
  have HL := hide1 hl
  have HD := hide1 hd
  clear hl hd
  go_enter Tryd.func141, Tryd.ntmps141
  go_wp2_with fail
  rw [meth_counts l 292 _ HL.out.2.1]
  go_wp2_with fail
  refine (counts_any l.cn _).mono ?_
  rintro e w1 ⟨rfl, hb1⟩
  have HL1 := hide1 (Nd.low hb1 HL.out)
  have HD1 := hide1 (HD.out.low hb1)
  have hs1 := hb1.size
  have HB1 := hide1 (hb1.mono hBw)
  clear c0 p9 p10 hb1 HL HD
  obtain ⟨p9, p10⟩ := inner_at HL1.out
  have hbz1 := heap_lt HL1.out.1
  generalize hlcn : l.cn = lc at *
  obtain ⟨d0, d1, d2, d3, d4, d5, d6, d7⟩ := lc
  simp only [Cn.val] at hlc ⊢
  clear hlcn
  go_wp2_with fail
  refine (ihl b bs f t w1 HL1.out.2.1 HD1.out (by omega) (by omega) (by omega) h2 hft).mono ?_
  rintro e w2 ⟨rfl, hd2, hb2⟩
  have HL2 := hide1 (Nd.kept hb2.block hu HL1.out)
  have HD2 := hide1 hd2
  have hs2 := hb2.size
  have HB2 := hide1 (HB1.out.trans hb2)
  clear p9 p10 hb2 HL1 HD1 hd2 HB1
  obtain ⟨p9, p10⟩ := inner_at HL2.out
  have hbz2 := heap_lt HL2.out.1
  have hpl := Vm.partL_len (rowB l.row) f t
  have hbl := Lib.byteCells_length (Vm.partL (rowB l.row) f t)
  have hq := ihr b (bs ++ Lib.byteCells (Vm.partL (rowB l.row) f t)) (f - (rowB l.row).length) (t - (rowB l.row).length) w2 HL2.out.2.2 HD2.out (by omega) (by rw [List.length_append, hbl]; omega) (by omega) (by omega) (by omega)
  have HR := hide1 hq
  clear hq hpl hbl
  generalize hah : (rowB l.row).length = ah at *
  have HAH := hide1 hah
  clear hah
  go_wp2_with fail
  refine HR.out.mono ?_
  rintro e w3 ⟨rfl, hd3, hb3⟩
  have HD3 := hide1 hd3
  have HB3 := hide1 (HB2.out.trans hb3)
  clear hd3 hb3 HR
  go_wp2_with fail
  go_returns
  rw [HAH.out]
  exact ⟨rfl, HD3.out, HB3.out⟩

theorem writes_all (B : Nat) : ∀ (n : Nd) (enc : Int), n.Und B → n.Ok → (∀ x ∈ n.row, LeafOk enc x) → Writes n B
  | .leaf Bl c s, _, hu, ho, _ => writes_leaf Bl c s B hu ho
  | .inner Bl c k l r, enc, hu, ho, hr => by
    have ol := ho.2.2.1
    have or := ho.2.2.2
    have rl : ∀ x ∈ l.row, LeafOk enc x := fun x hx => hr x (by simp [Nd.row, hx])
    have rr : ∀ x ∈ r.row, LeafOk enc x := fun x hx => hr x (by simp [Nd.row, hx])
    have ihl := writes_all B l enc hu.2.1 ol rl
    have ihr := writes_all B r enc hu.2.2 or rr
    have hlc : l.cn.body = (rowB l.row).length := by rw [Nd.cn_row enc ol rl]; exact rowA_size rl
    have hrc : r.cn.body = (rowB r.row).length := by rw [Nd.cn_row enc or rr]; exact rowA_size rr
    have hc : c.body = (rowB l.row).length + (rowB r.row).length := by
      have : c = l.cn.plus r.cn := ho.1
      rw [this]; show l.cn.body + r.cn.body = _; rw [hlc, hrc]
    have hrow : rowB (Nd.inner Bl c k l r).row = rowB l.row ++ rowB r.row := by show rowB (l.row ++ r.row) = _; exact rowB_append _ _
    intro b bs f t w hl hd hBw hlen h1 h2 hft
    rw [hrow] at hlen h1 ⊢
    rw [List.length_append] at hlen h1
    by_cases h : (c.body : Int) ≤ f ∨ t ≤ 0
    · have hp : Vm.partL (rowB l.row ++ rowB r.row) f t = [] := Vm.partL_out (h.elim (fun x => .inl (by rw [List.length_append, ← hc]; exact x)) (fun x => .inr (.inl x)))
      rw [hp, byteCells_nil, List.append_nil]
      refine (write_inner_out b Bl c k l r f t w hl h).mono ?_
      rintro e w' ⟨rfl, rfl⟩
      exact ⟨rfl, hd, Below.refl _ _⟩
    · refine (write_inner_in B Bl c k l r hu hlc ihl ihr b bs f t w hl hd hBw hlen h1 h2 hft (by omega) (by omega)).mono ?_
      rintro e w' ⟨rfl, hd', hb'⟩
      refine ⟨rfl, ?_, hb'⟩
      have e1 : Lib.byteCells (Vm.partL (rowB l.row ++ rowB r.row) f t) = Lib.byteCells (Vm.partL (rowB l.row) f t) ++ Lib.byteCells (Vm.partL (rowB r.row) (f - (rowB l.row).length) (t - (rowB l.row).length)) := by
        rw [Vm.partL_append]; simp [Lib.byteCells]
      rw [e1, ← List.append_assoc]
      exact hd'
end Go.Proofs.YtjbfgnhkgjigpaaDoor

namespace Go.Proofs.YtjbfgnhkgjigpaaDoor
open Go.RowKit Go.Shelf Go.Vit
attribute [local go_sem] Oper.semAt_some

set_option maxRecDepth 100000 in
set_option maxHeartbeats 1000000 in
theorem twrite_any (B : Nat) (enc : Int) (tr : Option Nd) (R : List (Cn × ByteArray)) (b : Nat) (bs : List Value) (f t : Int) (w : World) (ht : TrAt w enc tr R) (hu : ∀ n, tr = some n → n.Und B) (hd : Bd B b bs w) (hBw : B ≤ w.heap.size)
    (hlen : bs.length + (rowB R).length ≤ 140737488355328) (h1 : ((rowB R).length : Int) - 4611686018427387904 ≤ f) (h2 : t ≤ 4611686018427387904) (hft : f ≤ t) :
    Calls Tryd.prog 66 #[.agg #[trv tr], .pointer (some ⟨b, 0, none⟩), .int .i64 f, .int .i64 t] w fun e w' => e = .returned (.tuple #[]) ∧ Bd B b (bs ++ Lib.byteCells (Vm.partL (rowB R) f t)) w' ∧ Below B w w' := by
  cases tr with
  | none =>
    have hR := ht.non rfl
    subst hR
    have hp : Vm.partL (rowB []) f t = [] := by simp [rowB, Vm.partL]
    rw [hp, byteCells_nil, List.append_nil]
    have hb' := (Below.refl w.heap.size w).alloc (Nat.le_refl _) (.cells #[.nilIface] 67)
    have HD := hide1 (hd.low hb')
    have HB := hide1 (hb'.mono hBw)
    clear hd ht hu hb'
    simp only [trv]
    go_enter Tryd.func66, Tryd.ntmps66
    go_wp2_with fail
    go_returns
    exact ⟨rfl, HD.out, HB.out⟩
  | some n =>
    obtain ⟨hn, ho, hr⟩ := ht.inn n rfl
    subst hr
    have hw := writes_all B n enc (hu n rfl) ho ht.ok
    have hb' := (Below.refl w.heap.size w).alloc (Nat.le_refl _) (.cells #[.iface n.ty (.pointer (some ⟨n.blk, 0, none⟩))] 67)
    have hq := hw b bs f t _ (Nd.low hb' hn) (hd.low hb') (Nat.le_trans hBw hb'.size) hlen h1 h2 hft
    have HQ := hide1 hq
    have HB := hide1 (hb'.mono hBw)
    have hw1 := wf_enters n
    have hm1 := meth_write n 292
    clear hd ht hu hb' hq hw
    simp only [trv]
    go_enter Tryd.func66, Tryd.ntmps66
    go_wp2_with fail
    refine HQ.out.mono ?_
    rintro e w1 ⟨rfl, hd1, hb1⟩
    have HD1 := hide1 hd1
    have HB1 := hide1 (HB.out.trans hb1)
    clear hd1 hb1 HQ HB
    go_wp2_with fail
    go_returns
    exact ⟨rfl, HD1.out, HB1.out⟩

/-- THE ITERATOR's CONTRACT where it tells whether it came to the end. -/
def ItersB {α : Type} (P : Program) (g : Nat) (args : Value → Array Value) (encs : α → Array Value) (xs : List α) (Need : World → Prop) : Prop :=
  ∀ (M : World → Nat → Prop) (l : Nat) (J Jx : List α → World → Prop) (W : World), MLow M W.heap.size →
    (∀ s A B, J s A → ItStep M W.heap.size A B → J s B) →
    (∀ s A B, Jx s A → ItStep M W.heap.size A B → Jx s B) →
    (∀ s A, J s A → Need A ∧ ∀ k, M A k → k < A.heap.size) →
    (∀ pre x W1, J pre W1 → W.heap.size ≤ W1.heap.size → pre ++ [x] <+: xs → Go.Vit.Yields P l (encs x) W1 fun e W' =>
      (e = .returned (.bool true) ∧ J (pre ++ [x]) W' ∧ BodyStep M W.heap.size W1 W') ∨ (e = .returned (.bool false) ∧ Jx (pre ++ [x]) W' ∧ BodyStep M W.heap.size W1 W')) →
    J [] W →
    Calls P g (args (.func (.yield l) #[] #[])) W fun e W' => (e = .returned (.bool true) ∧ J xs W' ∧ W.heap.size ≤ W'.heap.size) ∨ (e = .returned (.bool false) ∧ ∃ pre, pre <+: xs ∧ Jx pre W')
def Nd.bf : Nd → Nat
  | .leaf _ _ _ => 131
  | .inner _ _ _ _ _ => 138
theorem meth_bodies (n : Nd) (f : Nat) (v : Value) (w : World) : (method (f + 1) n.ty v "vellum/atoms.bodies").run Tryd.prog w = .ok (n.bf, v) w := by
  cases n
  · exact (show (method (f + 1) 135 v "vellum/atoms.bodies").run Tryd.prog w = .ok (131, v) w by kernel_rfl)
  · exact (show (method (f + 1) 157 v "vellum/atoms.bodies").run Tryd.prog w = .ok (138, v) w by kernel_rfl)
theorem bf_enters (n : Nd) (args : Array Value) (w : World) : (callFunc n.bf args).run Tryd.prog w = .ok (.enter n.bf args) w := by
  cases n
  · exact enters_of Tryd.func131 (by kernel_rfl) rfl args w
  · exact enters_of Tryd.func138 (by kernel_rfl) rfl args w
def encB (s : ByteArray) : Array Value := #[.string s]

set_option maxHeartbeats 1000000 in
theorem bodies_leaf (Bl : Nat) (c : Cn) (s : ByteArray) : ItersB Tryd.prog 131 (fun y => #[.pointer (some ⟨Bl, 0, none⟩), y]) encB [s] (fun w => (Nd.leaf Bl c s).In w) := by
  intro M l J Jx W hM hJ hJx hN hY hj
  have hl := (hN _ _ hj).1
  have c9 : W.cell? ⟨Bl, 9, none⟩ = some (.string s) := by rw [Lib.cell_of_heap hl]; rfl
  have hbz := heap_lt hl
  obtain ⟨fn, tmps, assign, body, hy, hR⟩ := hY [] s W hj (Nat.le_refl _) (by simp)
  refine (callsIn_wide (n := 9)).1 ?_
  refine callsIn_of_wp_marks Tryd.func131 rfl trivial ?_ rfl
  simp only [Tryd.ntmps131, List.size_toArray, List.length_cons, List.length_nil, Nat.reduceAdd, Nat.reduceSub, Array.replicate_succ, Array.replicate_zero, List.push_toArray, List.append_toArray, List.nil_append, List.cons_append]
  simp only [encB] at hy
  gi_wp2_with fail
  refine (roundIn_any none hR).mono ?_
  rintro e W3 (⟨rfl, hJ3, hk3⟩ | ⟨rfl, hJx3, hkx⟩)
  · gi_wp2
    exact ⟨.bool true, by simp [results, Tryd.results131, go_sem], .inl ⟨rfl, hJ3, hk3.size⟩⟩
  · gi_wp2
    exact ⟨.bool false, by simp [results, Tryd.results131, go_sem], .inr ⟨rfl, _, List.prefix_refl _, hJx3⟩⟩

set_option maxRecDepth 100000 in
set_option maxHeartbeats 1000000 in
theorem bodies_inner (Bl : Nat) (c : Cn) (k : Nat) (n m : Nd) (xs ys : List ByteArray)
    (hn : ItersB Tryd.prog n.bf (fun y => #[.pointer (some ⟨n.blk, 0, none⟩), y]) encB xs (fun w => n.In w))
    (hm : ItersB Tryd.prog m.bf (fun y => #[.pointer (some ⟨m.blk, 0, none⟩), y]) encB ys (fun w => m.In w)) :
    ItersB Tryd.prog 138 (fun y => #[.pointer (some ⟨Bl, 0, none⟩), y]) encB (xs ++ ys) (fun w => (Nd.inner Bl c k n m).In w) := by
  intro M l J Jx W hM hJ hJx hN hY hj
  have hl := (hN _ _ hj).1
  obtain ⟨p9, p10⟩ := inner_at hl
  have hbz := heap_lt hl.1
  have e1 := bf_enters n
  have e2 := bf_enters m
  have m1 := meth_bodies n 292
  have m2 := meth_bodies m 292
  have C1 := hn M l J Jx W hM hJ hJx (fun s A h => ⟨(hN s A h).1.2.1, (hN s A h).2⟩) (fun pre x W1 h1 h2 h3 => hY pre x W1 h1 h2 (h3.trans (List.prefix_append _ _))) hj
  refine (callsIn_wide (n := 9)).1 ?_
  refine callsIn_of_wp_marks Tryd.func138 rfl trivial ?_ rfl
  simp only [Tryd.ntmps138, List.size_toArray, List.length_cons, List.length_nil, Nat.reduceAdd, Nat.reduceSub, Array.replicate_succ, Array.replicate_zero, List.push_toArray, List.append_toArray, List.nil_append, List.cons_append]
  gi_wp2_with fail
  refine ⟨trivial, (callsIn_wide.2 C1).mono ?_⟩
  rintro e W3 (⟨rfl, hj3, hs3⟩ | ⟨rfl, pre, hp, hx⟩)
  · have hl3 := (hN _ _ hj3).1
    obtain ⟨q9, q10⟩ := inner_at hl3
    have hbz3 := heap_lt hl3.1
    have C2 := hm M l (fun s => J (xs ++ s)) (fun s => Jx (xs ++ s)) W3 (hM.of hs3) (fun s A B h st => hJ _ _ _ h (st.mono hs3)) (fun s A B h st => hJx _ _ _ h (st.mono hs3))
      (fun s A h => ⟨(hN _ A h).1.2.2, (hN _ A h).2⟩) (fun pre x W1 h1 h2 h3 => by
        have hq := hY (xs ++ pre) x W1 h1 (Nat.le_trans hs3 h2) (by rw [List.append_assoc]; obtain ⟨t, ht⟩ := h3; exact ⟨t, by rw [List.append_assoc, ht]⟩)
        obtain ⟨fn, tmps, assign, body, hy, hR⟩ := hq
        refine ⟨fn, tmps, assign, body, hy, hR.mono ?_⟩
        rintro e W' (⟨a1, a2, a3⟩ | ⟨a1, a2, a3⟩)
        · exact .inl ⟨a1, by rw [← List.append_assoc]; exact a2, a3.mono hs3⟩
        · exact .inr ⟨a1, by rw [← List.append_assoc]; exact a2, a3.mono hs3⟩) (by rw [List.append_nil]; exact hj3)
    have HC2 := hide C2
    clear C2 C1 hY hJ hJx hN hn hm
    gi_wp2_with fail
    refine ⟨trivial, (callsIn_wide.2 HC2.out).mono ?_⟩
    rintro e W4 (⟨rfl, hj4, hs4⟩ | ⟨rfl, pre, hp, hx⟩)
    · have HS := hide (Nat.le_trans hs3 hs4)
      have HJ := hide hj4
      clear HC2 hj4 hj3 hs3 hs4 hl3 hl hj q9 q10 p9 p10 hM
      gi_wp2
      exact ⟨.bool true, by simp [results, Tryd.results138, go_sem], .inl ⟨rfl, HJ.out, HS.out⟩⟩
    · have HP := hide (show xs ++ pre <+: xs ++ ys by obtain ⟨t, ht⟩ := hp; exact ⟨t, by rw [List.append_assoc, ht]⟩)
      have HX := hide hx
      clear HC2 hx hp hj3 hs3 hl3 hl hj q9 q10 p9 p10 hM
      gi_wp2
      exact ⟨.bool false, by simp [results, Tryd.results138, go_sem], .inr ⟨rfl, _, HP.out, HX.out⟩⟩
  · have HP := hide (show pre <+: xs ++ ys from hp.trans (List.prefix_append _ _))
    have HX := hide hx
    clear C1 hY hJ hJx hN hn hm hx hp hl hj p9 p10 hM
    gi_wp2
    all_goals
      refine ⟨fun _ _ => trivial, ?_⟩
      gi_wp2
      exact ⟨.bool false, by simp [results, Tryd.results138, go_sem], .inr ⟨rfl, _, HP.out, HX.out⟩⟩

theorem bodies_all : ∀ (n : Nd), ItersB Tryd.prog n.bf (fun y => #[.pointer (some ⟨n.blk, 0, none⟩), y]) encB (n.row.map (fun x => x.2)) (fun w => n.In w)
  | .leaf Bl c s => bodies_leaf Bl c s
  | .inner Bl c k l r => by
    have h := bodies_inner Bl c k l r _ _ (bodies_all l) (bodies_all r)
    rw [← List.map_append] at h
    exact h
end Go.Proofs.YtjbfgnhkgjigpaaDoor

namespace Go.Proofs.YtjbfgnhkgjigpaaDoor
open Go.RowKit Go.Shelf Go.Vit
attribute [local go_sem] Oper.semAt_some

set_option maxHeartbeats 1000000 in
theorem tbodies_any (t : Option Nd) (w : World) :
    Calls Tryd.prog 72 #[.agg #[trv t]] w fun e w' => e = .returned (.func (.func 85) #[] #[.pointer (some ⟨w.heap.size, 0, none⟩)]) ∧ w' = w.alloc (.cells #[trv t] 67) := by
  generalize trv t = v
  go_enter Tryd.func72, Tryd.ntmps72
  go_wp2
  go_ret
  exact ⟨rfl, rfl⟩

set_option maxRecDepth 100000 in
set_option maxHeartbeats 1000000 in
theorem bodies1_some (n : Nd) (Bt : Nat) : Iters Tryd.prog 85 #[.pointer (some ⟨Bt, 0, none⟩)] encB (n.row.map (fun x => x.2))
    (fun w => w.cell? ⟨Bt, 0, none⟩ = some (.iface n.ty (.pointer (some ⟨n.blk, 0, none⟩))) ∧ n.In w) := by
  intro M l J Jx W hM hJ hJx hN hY hj
  obtain ⟨ct, _⟩ := (hN _ _ hj).1
  have hbz := block_lt ct
  have e1 := bf_enters n
  have m1 := meth_bodies n 292
  have C1 := bodies_all n M l J Jx W hM hJ hJx (fun s A h => ⟨(hN s A h).1.2, (hN s A h).2⟩) hY hj
  have HC := hide C1
  clear C1 hY hN hJ hJx hj hM
  refine (callsIn_wide (n := 9)).1 ?_
  refine callsIn_of_wp_marks Tryd.func85 rfl trivial ?_ rfl
  simp only [Tryd.ntmps85, List.size_toArray, List.length_cons, List.length_nil, Nat.reduceAdd, Nat.reduceSub, Array.replicate_succ, Array.replicate_zero, List.push_toArray, List.append_toArray, List.nil_append, List.cons_append]
  gi_wp2_with fail
  refine ⟨trivial, (callsIn_wide.2 HC.out).mono ?_⟩
  rintro e W3 (⟨rfl, hj3, hs3⟩ | ⟨rfl, pre, hp, hx⟩)
  · have HJ := hide hj3
    clear HC hj3
    gi_wp2
    exact ⟨_, results_none rfl _ _ _, ⟨_, rfl⟩, .inl HJ.out⟩
  · have HX := hide (show ∃ pre, pre <+: n.row.map (fun x => x.2) ∧ Jx pre W3 from ⟨pre, hp, hx⟩)
    clear HC hp hx
    gi_wp2
    exact ⟨_, results_none rfl _ _ _, ⟨_, rfl⟩, .inr HX.out⟩

set_option maxRecDepth 100000 in
set_option maxHeartbeats 1000000 in
theorem bodies1_none (Bt : Nat) : Iters Tryd.prog 85 #[.pointer (some ⟨Bt, 0, none⟩)] encB []
    (fun w => w.cell? ⟨Bt, 0, none⟩ = some .nilIface) := by
  intro M l J Jx W hM hJ hJx hN hY hj
  have ct := (hN _ _ hj).1
  have hbz := block_lt ct
  have HJ := hide hj
  clear hY hN hJ hJx hj hM
  refine (callsIn_wide (n := 9)).1 ?_
  refine callsIn_of_wp_marks Tryd.func85 rfl trivial ?_ rfl
  simp only [Tryd.ntmps85, List.size_toArray, List.length_cons, List.length_nil, Nat.reduceAdd, Nat.reduceSub, Array.replicate_succ, Array.replicate_zero, List.push_toArray, List.append_toArray, List.nil_append, List.cons_append]
  gi_wp2
  exact ⟨_, results_none rfl _ _ _, ⟨_, rfl⟩, .inl HJ.out⟩

theorem bodies1_it (t : Option Nd) (R : List (Cn × ByteArray)) (Bt : Nat) (h1 : ∀ n, t = some n → n.row = R) (h2 : t = none → R = []) :
    Iters Tryd.prog 85 #[.pointer (some ⟨Bt, 0, none⟩)] encB (R.map (fun x => x.2)) (fun w => w.cell? ⟨Bt, 0, none⟩ = some (trv t) ∧ ∀ n, t = some n → n.In w) := by
  cases t with
  | none =>
    have := h2 rfl
    subst this
    intro M l J Jx W hM hJ hJx hN hY hj
    exact bodies1_none Bt M l J Jx W hM hJ hJx (fun s A h => ⟨(hN s A h).1.1, (hN s A h).2⟩) hY hj
  | some n =>
    have := h1 n rfl
    subst this
    intro M l J Jx W hM hJ hJx hN hY hj
    exact bodies1_some n Bt M l J Jx W hM hJ hJx (fun s A h => ⟨⟨(hN s A h).1.1, (hN s A h).1.2 n rfl⟩, (hN s A h).2⟩) hY hj
end Go.Proofs.YtjbfgnhkgjigpaaDoor

namespace Go.Proofs.YtjbfgnhkgjigpaaDoor
open Go.RowKit Go.Shelf Go.Vit
attribute [local go_sem] Oper.semAt_some

theorem bld_string_k (B b : Nat) (l : List UInt8) (w : World) (h : Bd B b (Lib.byteCells l) w) (hBw : B ≤ w.heap.size) :
    Calls Tryd.prog 67 #[.pointer (some ⟨b, 0, none⟩)] w fun e w' => e = .returned (.string ⟨l.toArray⟩) ∧ Below B w w' ∧ ∀ k st, k ≠ b → w.heap[k]? = some (.deferred st) → w'.heap[k]? = some (.deferred st) := by
  refine (Any.Builder_String_any_k lays169 extraB B b l w (.inr (Lib.BuilderAtF.of h)) hBw).mono ?_
  rintro e w' ⟨rfl, _, hb, ho⟩
  exact ⟨rfl, hb, fun k st hk hd => ho k _ hd (by simpa using hk) (fun _ _ => by simp)⟩
/-- The atoms of bodies. -/
def atB (enc : Int) (pre : List ByteArray) : List Vm.At := pre.flatMap (fun x => Vm.atoms enc x.data.toList)
theorem atB_snoc (enc : Int) (pre : List ByteArray) (x : ByteArray) : atB enc (pre ++ [x]) = atB enc pre ++ Vm.atoms enc x.data.toList := by simp [atB]
theorem atB_row (enc : Int) (R : List (Cn × ByteArray)) : atB enc (R.map (fun x => x.2)) = rowA enc R := by simp [atB, rowA, List.flatMap_map]
theorem atB_ok (enc : Int) (pre : List ByteArray) : ∀ a ∈ atB enc pre, Vm.AtOk a := by
  intro a ha
  simp only [atB, List.mem_flatMap] at ha
  obtain ⟨x, _, hx⟩ := ha
  exact Vm.atoms_ok enc _ a hx
theorem atB_ch (enc : Int) (pre : List ByteArray) : ∀ a ∈ atB enc pre, Vm.ChOk a := by
  intro a ha
  simp only [atB, List.mem_flatMap] at ha
  obtain ⟨x, _, hx⟩ := ha
  exact Vm.atoms_ch enc _ a hx

/-- While the text is written: A has been written. -/
structure TxI (w0 : World) (enc : Int) (mark : Bool) (n : Nd) (tail : ByteArray) (Bt : Nat) (A : List Vm.At) (W : World) : Prop where
  bd : Bd (w0.heap.size + 1) (w0.heap.size + 1) (txCells A) W
  c : W.heap[w0.heap.size]? = some (.cells #[.int .i64 enc, .bool mark, .iface n.ty (.pointer (some ⟨n.blk, 0, none⟩)), .string tail] 69)
  t : W.cell? ⟨Bt, 0, none⟩ = some (.iface n.ty (.pointer (some ⟨n.blk, 0, none⟩)))
  inn : n.In W
  low : Below w0.heap.size w0 W
theorem TxI.it {w0 : World} {enc : Int} {mark : Bool} {n : Nd} {tail : ByteArray} {Bt : Nat} {A : List Vm.At} {W W' : World} {lo : Nat} (h : TxI w0 enc mark n tail Bt A W) (st : ItStep (MB (w0.heap.size + 1)) lo W W') (hlo : w0.heap.size + 1 < lo) (hBt : Bt < lo) (hu : n.Und w0.heap.size) : TxI w0 enc mark n tail Bt A W' :=
  ⟨h.bd.it st hlo, (st.low _ (by omega)).trans h.c, (World.cell?_of_block (w := W) (st.low Bt hBt)).trans h.t, Nd.kept (fun k hk => st.low k (by omega)) hu h.inn, h.low.trans ⟨st.os, st.tape, st.output, st.size, fun k hk => st.low k (by omega)⟩⟩
/-- Writing a character. -/
theorem TxI.gr {w0 : World} {enc : Int} {mark : Bool} {n : Nd} {tail : ByteArray} {Bt : Nat} {A A' : List Vm.At} {W W' : World} (h : TxI w0 enc mark n tail Bt A W) (hd : Bd (w0.heap.size + 1) (w0.heap.size + 1) (txCells A') W') (hg : Gr (w0.heap.size + 1) W W') (hBt : Bt < W.heap.size) (hBne : w0.heap.size + 1 < Bt) (hnm : ¬ MB (w0.heap.size + 1) W Bt) (hu : n.Und w0.heap.size) : TxI w0 enc mark n tail Bt A' W' := by
  have hb := hg.below h.bd (by have := h.low.size; omega)
  have hk : ∀ k, k < w0.heap.size + 1 → W'.heap[k]? = W.heap[k]? := hb.block
  exact ⟨hd, (hk _ (by omega)).trans h.c, (World.cell?_of_block (w := W) (hg.keep Bt hBt (by omega) hnm)).trans h.t, Nd.kept (fun k hk' => hk k (by omega)) hu h.inn, h.low.trans (hb.mono (by omega))⟩

/-- Between two bodies. -/
def TxO (w0 : World) (enc : Int) (mark : Bool) (n : Nd) (tail : ByteArray) (Bt : Nat) (pre : List ByteArray) (W : World) : Prop :=
  TxI w0 enc mark n tail Bt (atB enc pre) W ∧ ¬ MB (w0.heap.size + 1) W Bt ∧ Bt < W.heap.size
/-- Between two atoms of a body x that begins at world W2. -/
structure TxN (w0 : World) (enc : Int) (mark : Bool) (n : Nd) (tail : ByteArray) (Bt lo : Nat) (pre : List ByteArray) (x : ByteArray) (W2 : World) (A : List Vm.At) (W : World) : Prop where
  i : TxI w0 enc mark n tail Bt (atB enc pre ++ A) W
  bs : BodyStep (MB (w0.heap.size + 1)) lo W2 W
  e : W.cell? ⟨W2.heap.size, 0, none⟩ = some (.int .i64 enc)
  b : W.cell? ⟨W2.heap.size + 1, 0, none⟩ = some (.string x)
  n1 : ¬ MB (w0.heap.size + 1) W Bt
  n2 : ¬ MB (w0.heap.size + 1) W W2.heap.size
  n3 : ¬ MB (w0.heap.size + 1) W (W2.heap.size + 1)
  sz : W2.heap.size + 2 ≤ W.heap.size
theorem TxN.it {w0 : World} {enc : Int} {mark : Bool} {n : Nd} {tail : ByteArray} {Bt lo lo2 : Nat} {pre : List ByteArray} {x : ByteArray} {W2 : World} {A : List Vm.At} {W W' : World} (h : TxN w0 enc mark n tail Bt lo pre x W2 A W) (st : ItStep (MB (w0.heap.size + 1)) lo2 W W') (hb : w0.heap.size + 1 < lo2) (hBt : Bt < lo2) (hW : W2.heap.size + 2 ≤ lo2) (hu : n.Und w0.heap.size) : TxN w0 enc mark n tail Bt lo pre x W2 A W' :=
  ⟨h.i.it st hb hBt hu, ⟨st.os.trans h.bs.os, st.tape.trans h.bs.tape, st.output.trans h.bs.output, Nat.le_trans h.bs.size st.size, fun k h1 h2 h3 => (st.low k (by omega)).trans (h.bs.keep k h1 h2 h3), fun k hk => h.bs.new k (st.same (mb_low hb) k hk)⟩,
    (World.cell?_of_block (w := W) (st.low W2.heap.size (by omega))).trans h.e, (World.cell?_of_block (w := W) (st.low (W2.heap.size + 1) (by omega))).trans h.b,
    fun hm => h.n1 (st.same (mb_low hb) _ hm), fun hm => h.n2 (st.same (mb_low hb) _ hm), fun hm => h.n3 (st.same (mb_low hb) _ hm), Nat.le_trans h.sz st.size⟩

theorem TxN.gr {w0 : World} {enc : Int} {mark : Bool} {n : Nd} {tail : ByteArray} {Bt lo : Nat} {pre : List ByteArray} {x : ByteArray} {W2 : World} {A : List Vm.At} {a : Vm.At} {W W' : World} (h : TxN w0 enc mark n tail Bt lo pre x W2 A W)
    (hd : Bd (w0.heap.size + 1) (w0.heap.size + 1) (txCells (atB enc pre ++ A) ++ chCells (Vm.chA a)) W') (hg : Gr (w0.heap.size + 1) W W') (hb : w0.heap.size + 1 < lo) (hBt : w0.heap.size + 1 < Bt) (hBt2 : Bt < W2.heap.size) (hu : n.Und w0.heap.size) : TxN w0 enc mark n tail Bt lo pre x W2 (A ++ [a]) W' := by
  have hsz := h.sz
  have hnew : ∀ k, k < W.heap.size → ¬ MB (w0.heap.size + 1) W k → ¬ MB (w0.heap.size + 1) W' k := fun k h1 h2 hm => by
    rcases hg.new k hm with y | y
    · exact h2 y
    · omega
  refine ⟨?_, h.bs.trans (hg.body hb), (World.cell?_of_block (w := W) (hg.keep W2.heap.size (by omega) (by omega) h.n2)).trans h.e, (World.cell?_of_block (w := W) (hg.keep (W2.heap.size + 1) (by omega) (by omega) h.n3)).trans h.b, hnew _ (by omega) h.n1, hnew _ (by omega) h.n2, hnew _ (by omega) h.n3, Nat.le_trans h.sz hg.size⟩
  refine h.i.gr ?_ hg (by omega) hBt h.n1 hu
  rw [← List.append_assoc, txCells_snoc]
  exact hd
theorem row_size {R : List (Cn × ByteArray)} {x : ByteArray} (h : x ∈ R.map (fun y => y.2)) : x.size ≤ (rowB R).length := by
  induction R with
  | nil => simp at h
  | cons y R ih =>
    have e : (rowB (y :: R)).length = y.2.size + (rowB R).length := by simp [rowB]
    rw [e]
    simp only [List.map_cons, List.mem_cons] at h
    rcases h with rfl | h
    · omega
    · have := ih h; omega
theorem atB_len {enc : Int} {R : List (Cn × ByteArray)} {pre : List ByteArray} {x : ByteArray} {A : List Vm.At} (h : pre ++ [x] <+: R.map (fun y => y.2)) (hA : A <+: Vm.atoms enc x.data.toList) : (atB enc pre ++ A).length ≤ (rowA enc R).length := by
  obtain ⟨t, ht⟩ := h
  obtain ⟨s, hs⟩ := hA
  rw [← atB_row, ← ht]
  simp only [atB, List.flatMap_append, List.flatMap_cons, List.flatMap_nil, List.append_nil, List.length_append]
  rw [← hs, List.length_append]; omega

set_option maxRecDepth 100000 in
set_option maxHeartbeats 4000000 in
theorem text_some (enc : Int) (mark : Bool) (n : Nd) (R : List (Cn × ByteArray)) (tail : ByteArray) (w : World) (ht : Tabs w) (hr : TrAt w enc (some n) R) (h0 : 0 ≤ enc) (h3 : enc ≤ 3) (hl : (rowB R).length ≤ 1099511627776) :
    Calls Tryd.prog 47 #[.agg #[.int .i64 enc, .bool mark, trv (some n), .string tail]] w fun e w' => e = .returned (.string (strOfNums (Vm.textL (rowA enc R)))) ∧ Below w.heap.size w w' := by
  have hfo : Tryd.prog.follows Departure.mixedOrders = true := by kernel_rfl
  have HC := hide (fun w1 (h : TrAt w1 enc (some n) R) => h.counts)
  have HTB := hide (tbodies_any (some n))
  have hit := bodies1_it (some n) R
  have hu := Nd.und (hr.inn n rfl).1
  have hsz := rowA_size hr.ok
  have hln := Vm.len_sizeA (rowA_ok enc R)
  have hby := Vm.bytesA_le (rowA enc R)
  have HT := hide hr
  have HR1 := hide (fun m (h : some n = some m) => (hr.inn m h).2.2)
  clear hr
  simp only [trv] at HTB HC hit ⊢
  have fb : ∀ (v0 v1 v2 v3 v4 v5 v6 v7 : Value) (w : World), (Instr.field 84 (.agg #[v0, v1, v2, v3, v4, v5, v6, v7]) 1).run Tryd.prog w = .ok v1 w := fun _ _ _ _ _ _ _ _ _ => by kernel_rfl
  have hbw : Below w.heap.size w ((w.alloc (.cells #[.int .i64 enc, .bool mark, .iface n.ty (.pointer (some ⟨n.blk, 0, none⟩)), .string tail] 69)).alloc (.cells #[.pointer none, .slice none 0 0] 110)) := ((Below.refl _ _).alloc (Nat.le_refl _) _).alloc (by simp) _
  have HB0 := hide hbw
  clear hbw
  refine (callsIn_wide (n := 9)).1 ?_
  refine callsIn_of_wp_marks Tryd.func47 rfl trivial ?_ rfl
  simp only [Tryd.ntmps47, List.size_toArray, List.length_cons, List.length_nil, Nat.reduceAdd, Nat.reduceSub, Array.replicate_succ, Array.replicate_zero, List.push_toArray, List.append_toArray, List.nil_append, List.cons_append]
  gi_wp2_with fail
  refine ⟨trivial, (callsIn_wide.2 (HC.out _ (HT.out.low HB0.out))).mono ?_⟩
  rintro e w1 ⟨rfl, hb1⟩
  have hz0 : ((w.alloc (.cells #[.int .i64 enc, .bool mark, .iface n.ty (.pointer (some ⟨n.blk, 0, none⟩)), .string tail] 69)).alloc (.cells #[.pointer none, .slice none 0 0] 110)).heap.size = w.heap.size + 2 := by simp
  have hs1 := hb1.size
  have k0 : w1.heap[w.heap.size]? = some (.cells #[.int .i64 enc, .bool mark, .iface n.ty (.pointer (some ⟨n.blk, 0, none⟩)), .string tail] 69) := by
    rw [hb1.block _ (by omega), Below.heap_alloc _ _ _ (by simp)]; exact Go.Deep.blk_alloc_new _ _
  have k1 : w1.heap[w.heap.size + 1]? = some (.cells #[.pointer none, .slice none 0 0] 110) := by
    rw [hb1.block _ (by omega)]
    have := Go.Deep.blk_alloc_new (w.alloc (.cells #[.int .i64 enc, .bool mark, .iface n.ty (.pointer (some ⟨n.blk, 0, none⟩)), .string tail] 69)) (.cells #[.pointer none, .slice none 0 0] 110)
    rwa [World.size_alloc] at this
  have HB1 := hide (HB0.out.trans (hb1.mono (by omega)))
  have HG := hide (bld_grow (w.heap.size + 1) (w.heap.size + 1) (Vm.bytesA (rowA enc R)) w1 (Nat.le_refl _) k1 (by omega) (by omega))
  have HK0 := hide k0
  clear hb1 k0 k1 HC
  simp only [cnOf, Cn.val]
  generalize Vm.bytesA (rowA enc R) = by_ at *
  gi_wp2_with fail
  refine ⟨trivial, (callsIn_wide.2 HG.out).mono ?_⟩
  rintro e w2 ⟨rfl, hd2, hb2⟩
  generalize (Value.agg #[.int .i64 (Vm.sizeA (rowA enc R)), .int .i64 by_, .int .i64 (rowA enc R).length, .int .i64 (Vm.unitsA (rowA enc R)), .int .i64 (Vm.cntK (rowA enc R) 4), .int .i64 (Vm.cntK (rowA enc R) 0), .int .i64 (Vm.cntK (rowA enc R) 1), .int .i64 (Vm.cntK (rowA enc R) 2)]) = cv
  have HB2 := hide (HB1.out.trans (hb2.mono (by omega)))
  have k2 := (hb2.block w.heap.size (by omega)).trans HK0.out
  have c0 : w2.cell? ⟨w.heap.size, 0, none⟩ = some (.int .i64 enc) := by rw [Lib.cell_of_heap k2]; rfl
  have c2 : w2.cell? ⟨w.heap.size, 2, none⟩ = some (.iface n.ty (.pointer (some ⟨n.blk, 0, none⟩))) := by rw [Lib.cell_of_heap k2]; rfl
  have HD2 := hide hd2
  have HK2 := hide k2
  have hs2 := hb2.size
  clear hd2 hb2 HG k2 HB1 HK0
  gi_wp2_with fail
  refine ⟨trivial, (callsIn_wide.2 (HTB.out w2)).mono ?_⟩
  rintro e w3 ⟨rfl, hw3⟩
  have hb3 : Below w2.heap.size w2 w3 := by rw [hw3]; exact (Below.refl _ _).alloc (Nat.le_refl _) _
  have hs3 : w3.heap.size = w2.heap.size + 1 := by rw [hw3]; simp
  have hI0 : TxI w enc mark n tail w2.heap.size [] w3 := by
    refine ⟨HD2.out.low hb3, (hb3.block _ (by omega)).trans HK2.out, ?_, ?_, HB2.out.trans (hb3.mono (by omega))⟩
    · rw [hw3]; simp [go_sem]
    · exact Nd.kept (HB2.out.trans (hb3.mono (by omega))).block hu (HT.out.inn n rfl).1
  have hnm0 : ¬ MB (w.heap.size + 1) w3 w2.heap.size := by
    intro hm
    have := (HD2.out.mem w2.heap.size ((ItStep.of_below hb3 (Nat.le_refl _) (fun k hk => (HD2.out.mem k hk).2)).same (mb_low (by omega)) _ hm)).2
    omega
  clear hw3 c0 c2 HD2 HK2 HTB
  gi_wp2
  refine wp_range1 (gf := 85) rfl (enters_of Tryd.func85 (by kernel_rfl) rfl) (hit w2.heap.size HR1.out (fun h => by cases h)) (fun _ => rfl) (MB (w.heap.size + 1)) (mb_low (by omega))
    (TxO w enc mark n tail w2.heap.size) (fun _ _ _ => False) ?hI ?hIx ?hN ⟨hI0, hnm0, by omega⟩ ?a1 ?assign ?body ?done ?stop
  case hI =>
    rintro s A B ⟨h1, h2, h3⟩ st
    exact ⟨h1.it st (by omega) (by omega) hu, fun hm => h2 (st.same (mb_low (by omega)) _ hm), Nat.lt_of_lt_of_le h3 st.size⟩
  case hIx => intro c s A B h; exact h.elim
  case hN =>
    rintro s A ⟨h1, h2, h3⟩
    exact ⟨⟨h1.t, fun m hm => by cases hm; exact h1.inn⟩, fun k hk => (h1.bd.mem k hk).2⟩
  case assign =>
    intro l x W K hK
    dsimp only [encB]
    gi_wp2
    exact hK
  case body =>
    rintro l2 pre x W2 hsz2 ⟨r, hr⟩ hl2 ⟨hi, hnm, hbt⟩ hpre
    have c0 : W2.cell? ⟨w.heap.size, 0, none⟩ = some (.int .i64 enc) := by rw [Lib.cell_of_heap hi.c]; rfl
    have HI := hide hi
    have HP := hide hpre
    clear hi hpre
    gi_wp2_with fail
    refine ⟨trivial, (CallsIn.inRound l2 (callsIn_wide.2 (atoms_any enc x W2))).mono ?_⟩
    rintro e w4 ⟨rfl, hw4⟩
    have hs4 : w4.heap.size = W2.heap.size + 2 := by rw [hw4]; simp
    have hb4 : Below W2.heap.size W2 w4 := by rw [hw4]; exact ((Below.refl _ _).alloc (Nat.le_refl _) _).alloc (by simp) _
    have e4 : w4.cell? ⟨W2.heap.size, 0, none⟩ = some (.int .i64 enc) := by rw [hw4]; simp [go_sem]
    have b4 : w4.cell? ⟨W2.heap.size + 1, 0, none⟩ = some (.string x) := by rw [hw4]; simp [go_sem]
    clear hw4
    have hr4 : w4.heap[l2]? = some (.loop r) := (hb4.block l2 (heap_lt hr)).trans hr
    have st4 : ItStep (MB (w.heap.size + 1)) W2.heap.size W2 w4 := ItStep.of_below hb4 (Nat.le_refl _) (fun k hk => (HI.out.bd.mem k hk).2)
    have hmlow : MLow (MB (w.heap.size + 1)) W2.heap.size := mb_low (by omega)
    have hN0 : TxN w enc mark n tail w2.heap.size w3.heap.size pre x W2 [] w4 :=
      ⟨by rw [List.append_nil]; exact HI.out.it st4 (by omega) (by omega) hu, BodyStep.of_below (mb_low (by omega)) hb4 (by omega), e4, b4, fun hm => hnm (st4.same hmlow _ hm),
        fun hm => by have := (HI.out.bd.mem _ (st4.same hmlow _ hm)).2; omega, fun hm => by have := (HI.out.bd.mem _ (st4.same hmlow _ hm)).2; omega, by omega⟩
    have hxm : x ∈ R.map (fun y => y.2) := HP.out.subset (by simp)
    have hxs := row_size hxm
    have hiA := atoms1_it x enc W2.heap.size (W2.heap.size + 1) (by omega) h0 h3
    have HLEN := hide (fun A (h : A <+: Vm.atoms enc x.data.toList) => atB_len HP.out h)
    have HCH := hide (Vm.atoms_ch enc x.data.toList)
    have HN0 := hide hN0
    clear hN0 e4 b4 c0
    gi_wp2
    refine wp_rangeN hr4 (gf := 86) rfl (enters_of Tryd.func86 (by kernel_rfl) rfl) hiA (fun _ => rfl) (MB (w.heap.size + 1)) (mb_low (by omega))
      (TxN w enc mark n tail w2.heap.size w3.heap.size pre x W2) (fun _ _ _ => False) ?hI2 ?hIx2 ?hN2 HN0.out (fun y a' W => ∃ Bq, a' = { tmps := #[.agg #[.int .i64 enc, .bool mark, .iface n.ty (.pointer (some ⟨n.blk, 0, none⟩)), .string tail], .pointer (some ⟨w.heap.size, 0, none⟩), .string { data := #[] }, .pointer (some ⟨w.heap.size + 1, 0, none⟩), .string x, .pointer (some ⟨Bq, 0, none⟩), .pointer (some ⟨w.heap.size, 2, none⟩), .agg #[.iface n.ty (.pointer (some ⟨n.blk, 0, none⟩))], cv, .int .i64 by_, .tuple #[], .pointer (some ⟨w.heap.size, 2, none⟩), .agg #[.iface n.ty (.pointer (some ⟨n.blk, 0, none⟩))], .func (.func 85) #[] #[.pointer (some ⟨w2.heap.size, 0, none⟩)], .string x, .pointer (some ⟨w.heap.size, 0, none⟩), .int .i64 enc, .string x, .func (.func 86) #[] #[.pointer (some ⟨W2.heap.size, 0, none⟩), .pointer (some ⟨W2.heap.size + 1, 0, none⟩)], .agg #[.int .i64 y.1, .int .i32 y.2.1, .int .i64 y.2.2], undef, undef, undef, undef], defers := [] } ∧ W.heap[Bq]? = some (.cells #[.int .i64 y.1, .int .i32 y.2.1, .int .i64 y.2.2] 129)) ?hAx2 ?assign2 ?body2 ?done2 ?stop2
    case hI2 =>
      intro s A B h st
      exact h.it st (by omega) (by omega) (by omega) hu
    case hIx2 => intro c s A B h; exact h.elim
    case hN2 =>
      intro s A h
      exact ⟨⟨ht.below h.i.low, h.e, h.b⟩, fun k hk => (h.i.bd.mem k hk).2⟩
    case hAx2 =>
      rintro y a' A L r' o ⟨Bq, h1, h2⟩ hl
      refine ⟨Bq, h1, ?_⟩
      rw [World.putObj_heap_other (fun e => by rw [e, hl] at h2; cases h2)]
      exact h2
    case assign2 =>
      intro l A y W K hszW hi hK
      dsimp only [encAt]
      gi_wp2
      have hbw : Below W.heap.size W (W.alloc (.cells #[.int .i64 y.1, .int .i32 y.2.1, .int .i64 y.2.2] 129)) := (Below.refl _ _).alloc (Nat.le_refl _) _
      have stw : ItStep (MB (w.heap.size + 1)) W.heap.size W (W.alloc (.cells #[.int .i64 y.1, .int .i32 y.2.1, .int .i64 y.2.2] 129)) := ItStep.of_below hbw (Nat.le_refl _) (fun k hk => (hi.i.bd.mem k hk).2)
      exact hK _ _ (BodyStep.of_below (mb_low (by omega)) hbw (by omega)) (hi.it stw (by omega) (by omega) hi.sz hu) ⟨W.heap.size, rfl, Go.Deep.blk_alloc_new _ _⟩
    case body2 =>
      rintro l3 A y a' W hszW ⟨r3, hr3⟩ hl3 hi ⟨Bq, rfl, hq⟩ hpreA
      have q1 : W.cell? ⟨Bq, 1, none⟩ = some (.int .i32 y.2.1) := by rw [Lib.cell_of_heap hq]; rfl
      have hbq := heap_lt hq
      have hv : Vm.validB y.2.1 = true := (HCH.out y (hpreA.subset (by simp))).1
      have hle := HLEN.out A ((List.prefix_append _ _).trans hpreA)
      have htl := txCells_len (atB enc pre ++ A)
      have HW := hide (bld_rune (w.heap.size + 1) (w.heap.size + 1) (txCells (atB enc pre ++ A)) y.2.1 hv W hi.i.bd (by omega) (by omega))
      have HII := hide hi
      clear hi hpreA hq hle htl
      gi_wp2_with fail
      refine ⟨trivial, (CallsIn.inRound l3 (callsIn_wide.2 HW.out)).mono ?_⟩
      rintro e W3 ⟨⟨v, rfl⟩, hd3, hg3⟩
      have HX := hide (HII.out.gr (a := y) hd3 hg3 (by omega) (by omega) (by omega) hu)
      have HG := hide (hg3.body (lo := w4.heap.size) (by omega))
      clear hd3 hg3 HW
      gi_wp2
      exact ⟨HG.out, HX.out⟩
    case done2 =>
      intro W hszW hi
      have HX := hide (show TxO w enc mark n tail w2.heap.size (pre ++ [x]) W from ⟨by rw [atB_snoc]; exact hi.i, hi.n1, by have := hi.sz; omega⟩)
      have HBS := hide hi.bs
      clear hi
      gi_wp2
      exact ⟨HBS.out, HX.out⟩
    case stop2 => intro c pre W h1 h2 h; exact h.elim
  case done =>
    rintro W hszW ⟨hi, hn1, hn2⟩ hd hmd
    rw [atB_row] at hi
    have htx : txCells (rowA enc R) = Lib.byteCells (numsB (Vm.textL (rowA enc R))) := txCells_text (by rw [← atB_row]; exact atB_ch enc _)
    have hbd := hi.bd
    rw [htx] at hbd
    have HS := hide (bld_string_k (w.heap.size + 1) (w.heap.size + 1) (numsB (Vm.textL (rowA enc R))) W hbd (by omega))
    have HL := hide hi.low
    clear hi hbd htx
    gi_wp2_with fail
    refine ⟨trivial, (callsIn_wide.2 HS.out).mono ?_⟩
    rintro e W3 ⟨rfl, hb3', hk3⟩
    have hK3 := hk3 w3.heap.size _ (by omega) hd
    have HB3 := hide (HL.out.trans (hb3'.mono (by omega)))
    clear hk3 hb3' HS
    gi_wp2
    rw [hs3] at hK3
    refine ⟨by simp, .inl ⟨_, _, rfl, run_takeDeferred hK3, ?_⟩⟩
    refine ⟨.string ⟨(numsB (Vm.textL (rowA enc R))).toArray⟩, by simp [results, Tryd.results47, go_sem], ?_, ?_⟩
    · rw [str_numsB]
    · have hz := HB3.out
      exact ⟨hz.os, hz.tape, hz.output, by simpa using hz.size, fun k hk => (World.putObj_heap_other (by omega)).trans (hz.block k hk)⟩
  case stop => intro c pre W h1 h2 h; exact h.elim
end Go.Proofs.YtjbfgnhkgjigpaaDoor

namespace Go.Proofs.YtjbfgnhkgjigpaaDoor
open Go.RowKit

theorem has_prefix (s p : ByteArray) (w : World) : Calls Tryd.prog 79 #[.string s, .string p] w fun e w' => e = .returned (.bool (Lib.hasPrefix s.data.toList p.data.toList)) ∧ w' = w :=
  Any.strings_HasPrefix lays99 s p w

set_option maxRecDepth 100000 in
set_option maxHeartbeats 400000 in
theorem mark_any (enc : Int) (w : World) (ht : TabEnc w) (h0 : 0 ≤ enc) (h3 : enc ≤ 3) :
    Calls Tryd.prog 78 #[.int .i64 enc] w fun e w' => e = .returned (.string (markB enc)) ∧ Below w.heap.size w w' := by
  have c0 := ht.m0
  have c1 := ht.m1
  have c2 := ht.m2
  have c3 := ht.m3
  generalize e0 : markB 0 = m0 at *
  generalize e1 : markB 1 = m1 at *
  generalize e2 : markB 2 = m2 at *
  generalize e3 : markB 3 = m3 at *
  have E0 := hide2 e0
  have E1 := hide2 e1
  have E2 := hide2 e2
  have E3 := hide2 e3
  clear e0 e1 e2 e3 ht
  have hcase : enc = 0 ∨ enc = 1 ∨ enc = 2 ∨ enc = 3 := by omega
  rcases hcase with rfl | rfl | rfl | rfl
  · go_enter Tryd.func78, Tryd.ntmps78
    go_wp2
    go_ret
    exact ⟨ret_str E0.out.symm, Below.refl _ _⟩
  · go_enter Tryd.func78, Tryd.ntmps78
    go_wp2
    go_ret
    exact ⟨ret_str E1.out.symm, Below.refl _ _⟩
  · go_enter Tryd.func78, Tryd.ntmps78
    go_wp2
    go_ret
    exact ⟨ret_str E2.out.symm, Below.refl _ _⟩
  · go_enter Tryd.func78, Tryd.ntmps78
    go_wp2
    go_ret
    exact ⟨ret_str E3.out.symm, Below.refl _ _⟩

theorem pre_first {l : List UInt8} {x : UInt8} {p : List UInt8} (h : (x :: p).isPrefixOf l = true) : l.head? = some x := by
  cases l with
  | nil => simp at h
  | cons y l => simp at h; simp [h.1]
/-- The first mark that fits is the last one that fits. -/
theorem sniff_first (b : ByteArray) (enc : Int) : sniffTo b enc 3 = if Lib.hasPrefix b.data.toList (markB 0).data.toList = true then 0 else if Lib.hasPrefix b.data.toList (markB 1).data.toList = true then 1 else if Lib.hasPrefix b.data.toList (markB 2).data.toList = true then 2 else enc := by
  have d : ∀ k : Nat, k ≤ 2 → ofMark b k = Lib.hasPrefix b.data.toList (markB k).data.toList := by
    intro k hk
    unfold ofMark Lib.hasPrefix
    have : decide ((markB (k : Int)).size ≠ 0) = true := by
      have : k = 0 ∨ k = 1 ∨ k = 2 := by omega
      rcases this with rfl | rfl | rfl <;> decide
    rw [this, Bool.true_and]
  have x0 := @pre_first b.data.toList 239 [187, 191]
  have x1 := @pre_first b.data.toList 255 [254]
  have x2 := @pre_first b.data.toList 254 [255]
  show (if ofMark b ((2 : Nat) : Int) then ((2 : Nat) : Int) else if ofMark b ((1 : Nat) : Int) then ((1 : Nat) : Int) else if ofMark b ((0 : Nat) : Int) then ((0 : Nat) : Int) else enc) = _
  rw [d 2 (by decide), d 1 (by decide), d 0 (by decide)]
  have y0 : Lib.hasPrefix b.data.toList (markB 0).data.toList = true → b.data.toList.head? = some 239 := x0
  have y1 : Lib.hasPrefix b.data.toList (markB 1).data.toList = true → b.data.toList.head? = some 255 := x1
  have y2 : Lib.hasPrefix b.data.toList (markB 2).data.toList = true → b.data.toList.head? = some 254 := x2
  show (if Lib.hasPrefix b.data.toList (markB 2).data.toList = true then (2 : Int) else if Lib.hasPrefix b.data.toList (markB 1).data.toList = true then (1 : Int) else if Lib.hasPrefix b.data.toList (markB 0).data.toList = true then (0 : Int) else enc) = _
  cases h0 : Lib.hasPrefix b.data.toList (markB 0).data.toList <;> cases h1 : Lib.hasPrefix b.data.toList (markB 1).data.toList <;> cases h2 : Lib.hasPrefix b.data.toList (markB 2).data.toList
  all_goals first
    | rfl
    | (exfalso; have a := y0 h0; have c := y1 h1; rw [a] at c; exact absurd c (by decide))
    | (exfalso; have a := y0 h0; have c := y2 h2; rw [a] at c; exact absurd c (by decide))
    | (exfalso; have a := y1 h1; have c := y2 h2; rw [a] at c; exact absurd c (by decide))
set_option maxRecDepth 100000 in
set_option maxHeartbeats 1000000 in
theorem sniffed_any (b : ByteArray) (enc : Int) (w : World) (ht : TabEnc w) :
    Calls Tryd.prog 75 #[.string b, .int .i64 enc] w fun e w' => e = .returned (.int .i64 (sniffTo b enc 3)) ∧ Below w.heap.size w w' := by
  obtain ⟨m0, r0, l0, g0, m1, r1, l1, g1, m2, r2, l2, g2, m3, r3, l3, g3⟩ := ht
  generalize e0 : markB 0 = M0 at *
  generalize e1 : markB 1 = M1 at *
  generalize e2 : markB 2 = M2 at *
  have e3 : markB 3 = ⟨#[]⟩ := rfl
  rw [e3] at m3
  have n0 : M0.toList.isEmpty = false := by rw [← e0]; kernel_rfl
  have o0 : ¬ M0.toList = [] := by intro h; rw [h] at n0; simp at n0
  have n1 : M1.toList.isEmpty = false := by rw [← e1]; kernel_rfl
  have o1 : ¬ M1.toList = [] := by intro h; rw [h] at n1; simp at n1
  have n2 : M2.toList.isEmpty = false := by rw [← e2]; kernel_rfl
  have o2 : ¬ M2.toList = [] := by intro h; rw [h] at n2; simp at n2
  have hs : sniffTo b enc 3 = if Lib.hasPrefix b.data.toList M0.data.toList = true then 0 else if Lib.hasPrefix b.data.toList M1.data.toList = true then 1 else if Lib.hasPrefix b.data.toList M2.data.toList = true then 2 else enc := by
    rw [← e0, ← e1, ← e2]; exact sniff_first b enc
  have HS := hide2 hs
  clear e0 e1 e2 e3 hs
  have i0 : ∀ w, (Instr.index 152 (.agg #[.string M0, .int .i32 1114111, .int .i64 0, .int .i64 0, .string M1, .int .i32 1114111, .int .i64 0, .int .i64 1, .string M2, .int .i32 1114111, .int .i64 1, .int .i64 0, .string ⟨#[]⟩, .int .i32 255, .int .i64 0, .int .i64 0]) (.int .i64 0)).run Tryd.prog w = .ok (.agg #[.string M0, .int .i32 1114111, .int .i64 0, .int .i64 0]) w := fun _ => by kernel_rfl
  have i1 : ∀ w, (Instr.index 152 (.agg #[.string M0, .int .i32 1114111, .int .i64 0, .int .i64 0, .string M1, .int .i32 1114111, .int .i64 0, .int .i64 1, .string M2, .int .i32 1114111, .int .i64 1, .int .i64 0, .string ⟨#[]⟩, .int .i32 255, .int .i64 0, .int .i64 0]) (.int .i64 1)).run Tryd.prog w = .ok (.agg #[.string M1, .int .i32 1114111, .int .i64 0, .int .i64 1]) w := fun _ => by kernel_rfl
  have i2 : ∀ w, (Instr.index 152 (.agg #[.string M0, .int .i32 1114111, .int .i64 0, .int .i64 0, .string M1, .int .i32 1114111, .int .i64 0, .int .i64 1, .string M2, .int .i32 1114111, .int .i64 1, .int .i64 0, .string ⟨#[]⟩, .int .i32 255, .int .i64 0, .int .i64 0]) (.int .i64 2)).run Tryd.prog w = .ok (.agg #[.string M2, .int .i32 1114111, .int .i64 1, .int .i64 0]) w := fun _ => by kernel_rfl
  have i3 : ∀ w, (Instr.index 152 (.agg #[.string M0, .int .i32 1114111, .int .i64 0, .int .i64 0, .string M1, .int .i32 1114111, .int .i64 0, .int .i64 1, .string M2, .int .i32 1114111, .int .i64 1, .int .i64 0, .string ⟨#[]⟩, .int .i32 255, .int .i64 0, .int .i64 0]) (.int .i64 3)).run Tryd.prog w = .ok (.agg #[.string ⟨#[]⟩, .int .i32 255, .int .i64 0, .int .i64 0]) w := fun _ => by kernel_rfl
  cases p0 : Lib.hasPrefix b.data.toList M0.data.toList
  · cases p1 : Lib.hasPrefix b.data.toList M1.data.toList
    · cases p2 : Lib.hasPrefix b.data.toList M2.data.toList
      · skip
        have hv : sniffTo b enc 3 = enc := by rw [HS.out]; simp [p0, p1, p2]
        rw [hv]; clear hv HS
        go_enter Tryd.func75, Tryd.ntmps75
        go_wp2_with fail
        refine wp_loop_rounds 5 ?_
        rw [rounds_succ]
        go_wp2_with (go_at_call 79; refine (has_prefix _ _ _).mono ?_; rintro e w' ⟨rfl, rfl⟩)
        rw [rounds_succ]
        go_wp2_with (go_at_call 79; refine (has_prefix _ _ _).mono ?_; rintro e w' ⟨rfl, rfl⟩)
        rw [rounds_succ]
        go_wp2_with (go_at_call 79; refine (has_prefix _ _ _).mono ?_; rintro e w' ⟨rfl, rfl⟩)
        rw [rounds_succ]
        go_wp2_with (go_at_call 79; refine (has_prefix _ _ _).mono ?_; rintro e w' ⟨rfl, rfl⟩)
        rw [rounds_succ]
        go_wp2_with (go_at_call 79; refine (has_prefix _ _ _).mono ?_; rintro e w' ⟨rfl, rfl⟩)
        go_ret
        exact ⟨rfl, by repeat (first | exact Below.refl _ _ | refine Below.alloc ?_ (by simp <;> omega) _)⟩
      · skip
        have hv : sniffTo b enc 3 = 2 := by rw [HS.out]; simp [p0, p1, p2]
        rw [hv]; clear hv HS
        go_enter Tryd.func75, Tryd.ntmps75
        go_wp2_with fail
        refine wp_loop_rounds 3 ?_
        rw [rounds_succ]
        go_wp2_with (go_at_call 79; refine (has_prefix _ _ _).mono ?_; rintro e w' ⟨rfl, rfl⟩)
        rw [rounds_succ]
        go_wp2_with (go_at_call 79; refine (has_prefix _ _ _).mono ?_; rintro e w' ⟨rfl, rfl⟩)
        rw [rounds_succ]
        go_wp2_with (go_at_call 79; refine (has_prefix _ _ _).mono ?_; rintro e w' ⟨rfl, rfl⟩)
        go_ret
        exact ⟨rfl, by repeat (first | exact Below.refl _ _ | refine Below.alloc ?_ (by simp <;> omega) _)⟩
    · skip
      have hv : sniffTo b enc 3 = 1 := by rw [HS.out]; simp [p0, p1]
      rw [hv]; clear hv HS
      go_enter Tryd.func75, Tryd.ntmps75
      go_wp2_with fail
      refine wp_loop_rounds 2 ?_
      rw [rounds_succ]
      go_wp2_with (go_at_call 79; refine (has_prefix _ _ _).mono ?_; rintro e w' ⟨rfl, rfl⟩)
      rw [rounds_succ]
      go_wp2_with (go_at_call 79; refine (has_prefix _ _ _).mono ?_; rintro e w' ⟨rfl, rfl⟩)
      go_ret
      exact ⟨rfl, by repeat (first | exact Below.refl _ _ | refine Below.alloc ?_ (by simp <;> omega) _)⟩
  · skip
    have hv : sniffTo b enc 3 = 0 := by rw [HS.out]; simp [p0]
    rw [hv]; clear hv HS
    go_enter Tryd.func75, Tryd.ntmps75
    go_wp2_with fail
    refine wp_loop_rounds 1 ?_
    rw [rounds_succ]
    go_wp2_with (go_at_call 79; refine (has_prefix _ _ _).mono ?_; rintro e w' ⟨rfl, rfl⟩)
    go_ret
    exact ⟨rfl, by repeat (first | exact Below.refl _ _ | refine Below.alloc ?_ (by simp <;> omega) _)⟩
end Go.Proofs.YtjbfgnhkgjigpaaDoor

namespace Go.Proofs.YtjbfgnhkgjigpaaDoor
open Go.RowKit

/-- The mark's bytes, if there is one. -/
def mkB (enc : Int) (mark : Bool) : ByteArray := if mark then markB enc else ⟨#[]⟩
theorem mkB_size (enc : Int) (mark : Bool) : (mkB enc mark).size ≤ 3 := by
  unfold mkB
  cases mark
  · exact Nat.zero_le _
  · simp only [if_true]; have := markB_size enc; omega

set_option maxRecDepth 100000 in
set_option maxHeartbeats 1000000 in
theorem markBytes_any (enc : Int) (mark : Bool) (n : Nd) (tail : ByteArray) (w : World) (ht : Tabs w) (h0 : 0 ≤ enc) (h3 : enc ≤ 3) :
    Calls Tryd.prog 62 #[.agg #[.int .i64 enc, .bool mark, .iface n.ty (.pointer (some ⟨n.blk, 0, none⟩)), .string tail]] w fun e w' => e = .returned (.string (mkB enc mark)) ∧ Below w.heap.size w w' := by
  have hb0 := (Below.refl w.heap.size w).alloc (Nat.le_refl _) (.cells #[.int .i64 enc, .bool mark, .iface n.ty (.pointer (some ⟨n.blk, 0, none⟩)), .string tail] 69)
  cases mark with
  | false =>
    have HB := hide1 hb0
    clear hb0
    go_enter Tryd.func62, Tryd.ntmps62
    go_wp2
    go_ret
    exact ⟨rfl, HB.out⟩
  | true =>
    have HM := hide1 (mark_any enc _ (ht.below hb0).enc h0 h3)
    have HB := hide1 hb0
    clear hb0
    go_enter Tryd.func62, Tryd.ntmps62
    go_wp2_with fail
    refine HM.out.mono ?_
    rintro e w1 ⟨rfl, hb1⟩
    have HB1 := hide1 (HB.out.trans (hb1.mono HB.out.size))
    clear hb1 HM HB
    go_wp2
    go_ret
    exact ⟨rfl, HB1.out⟩

set_option maxRecDepth 100000 in
set_option maxHeartbeats 1000000 in
theorem part_any (s : ByteArray) (f t : Int) (w : World) (hs : s.size ≤ 1099511627776) :
    Calls Tryd.prog 65 #[.string s, .int .i64 f, .int .i64 t] w fun e w' => ∃ r : ByteArray, e = .returned (.string r) ∧ r.data.toList = Vm.partL s.data.toList f t ∧ w' = w := by
  by_cases h : min t (s.size : Int) ≤ max f 0
  · have hp : Vm.partL s.data.toList f t = [] := by
      unfold Vm.partL
      apply List.drop_eq_nil_of_le
      rw [List.length_take]
      have : s.data.toList.length = s.size := rfl
      omega
    rw [hp]
    go_enter Tryd.func65, Tryd.ntmps65
    go_wp2_with fail
    go_ret
    exact ⟨_, rfl, rfl, rfl⟩
  · have x1 : (0 : Int) ≤ max f 0 := by omega
    have x2 : max f 0 ≤ min t (s.size : Int) := by omega
    have x3 : (0 : Int) ≤ min t (s.size : Int) := by omega
    have x4 : min t (s.size : Int) ≤ (s.size : Int) := by omega
    have HX := hide1 (Vm.partL_extract s (max f 0).toNat (min t (s.size : Int)).toNat f t (by omega) (by omega))
    go_enter Tryd.func65, Tryd.ntmps65
    go_wp2_with fail
    go_ret
    exact ⟨_, rfl, HX.out, rfl⟩

/-- What a walk over a content leans on. -/
structure CtR (w0 : World) (enc : Int) (n : Nd) (R : List (Cn × ByteArray)) (w : World) : Prop where
  tabs : Tabs w
  tr : TrAt w enc (some n) R
  low : Below w0.heap.size w0 w
theorem CtR.step {w0 : World} {enc : Int} {n : Nd} {R : List (Cn × ByteArray)} {w w' : World} (h : CtR w0 enc n R w) (hb : Below w.heap.size w w') : CtR w0 enc n R w' :=
  ⟨h.tabs.below hb, h.tr.low hb, h.low.trans (hb.mono h.low.size)⟩
section
variable {Z : Nat} {w0 : World} {enc : Int} {mark : Bool} {n : Nd} {R : List (Cn × ByteArray)} {tail : ByteArray} {w1 w2 : World}
theorem Ct_step (H : w1.cell? ⟨Z, 0, none⟩ = some (.int .i64 enc) ∧ w1.cell? ⟨Z, 1, none⟩ = some (.bool mark) ∧ w1.cell? ⟨Z, 2, none⟩ = some (.iface n.ty (.pointer (some ⟨n.blk, 0, none⟩))) ∧ w1.cell? ⟨Z, 3, none⟩ = some (.string tail) ∧ CtR w0 enc n R w1) (hb : Below w1.heap.size w1 w2) : w2.cell? ⟨Z, 0, none⟩ = some (.int .i64 enc) ∧ w2.cell? ⟨Z, 1, none⟩ = some (.bool mark) ∧ w2.cell? ⟨Z, 2, none⟩ = some (.iface n.ty (.pointer (some ⟨n.blk, 0, none⟩))) ∧ w2.cell? ⟨Z, 3, none⟩ = some (.string tail) ∧ CtR w0 enc n R w2 := by
  obtain ⟨h1, h2, h3, h4, h5⟩ := H
  exact ⟨(hb.cell (p := ⟨Z, 0, none⟩) (block_lt h1)).trans h1, (hb.cell (p := ⟨Z, 1, none⟩) (block_lt h1)).trans h2, (hb.cell (p := ⟨Z, 2, none⟩) (block_lt h1)).trans h3, (hb.cell (p := ⟨Z, 3, none⟩) (block_lt h1)).trans h4, h5.step hb⟩
theorem Ct_drew (H : w1.cell? ⟨Z, 0, none⟩ = some (.int .i64 enc) ∧ w1.cell? ⟨Z, 1, none⟩ = some (.bool mark) ∧ w1.cell? ⟨Z, 2, none⟩ = some (.iface n.ty (.pointer (some ⟨n.blk, 0, none⟩))) ∧ w1.cell? ⟨Z, 3, none⟩ = some (.string tail) ∧ CtR w0 enc n R w1) : w1.drew.cell? ⟨Z, 0, none⟩ = some (.int .i64 enc) ∧ w1.drew.cell? ⟨Z, 1, none⟩ = some (.bool mark) ∧ w1.drew.cell? ⟨Z, 2, none⟩ = some (.iface n.ty (.pointer (some ⟨n.blk, 0, none⟩))) ∧ w1.drew.cell? ⟨Z, 3, none⟩ = some (.string tail) ∧ CtR w0 enc n R w1.drew := Ct_step H ((Below.refl _ _).drew)
theorem Ct_tabs (H : w1.cell? ⟨Z, 0, none⟩ = some (.int .i64 enc) ∧ w1.cell? ⟨Z, 1, none⟩ = some (.bool mark) ∧ w1.cell? ⟨Z, 2, none⟩ = some (.iface n.ty (.pointer (some ⟨n.blk, 0, none⟩))) ∧ w1.cell? ⟨Z, 3, none⟩ = some (.string tail) ∧ CtR w0 enc n R w1) : Tabs w1 := H.2.2.2.2.tabs
theorem Ct_tr (H : w1.cell? ⟨Z, 0, none⟩ = some (.int .i64 enc) ∧ w1.cell? ⟨Z, 1, none⟩ = some (.bool mark) ∧ w1.cell? ⟨Z, 2, none⟩ = some (.iface n.ty (.pointer (some ⟨n.blk, 0, none⟩))) ∧ w1.cell? ⟨Z, 3, none⟩ = some (.string tail) ∧ CtR w0 enc n R w1) : TrAt w1 enc (some n) R := H.2.2.2.2.tr
theorem Ct_low (H : w1.cell? ⟨Z, 0, none⟩ = some (.int .i64 enc) ∧ w1.cell? ⟨Z, 1, none⟩ = some (.bool mark) ∧ w1.cell? ⟨Z, 2, none⟩ = some (.iface n.ty (.pointer (some ⟨n.blk, 0, none⟩))) ∧ w1.cell? ⟨Z, 3, none⟩ = some (.string tail) ∧ CtR w0 enc n R w1) : Below w0.heap.size w0 w1 := H.2.2.2.2.low
end

set_option maxRecDepth 100000 in
set_option maxHeartbeats 1000000 in
theorem size_any (enc : Int) (mark : Bool) (n : Nd) (R : List (Cn × ByteArray)) (tail : ByteArray) (w : World) (ht : Tabs w) (hr : TrAt w enc (some n) R) (h0 : 0 ≤ enc) (h3 : enc ≤ 3) (hl : (rowB R).length ≤ 1099511627776) (htl : tail.size ≤ 1099511627776) :
    Calls Tryd.prog 39 #[.agg #[.int .i64 enc, .bool mark, .iface n.ty (.pointer (some ⟨n.blk, 0, none⟩)), .string tail]] w fun e w' => e = .returned (.int .i64 (((mkB enc mark).size + (rowB R).length + tail.size : Nat) : Int)) ∧ Below w.heap.size w w' := by
  have hb0 := (Below.refl w.heap.size w).alloc (Nat.le_refl _) (.cells #[.int .i64 enc, .bool mark, .iface n.ty (.pointer (some ⟨n.blk, 0, none⟩)), .string tail] 69)
  have hsz := rowA_size hr.ok
  have hms := mkB_size enc mark
  have HM := hide1 (fun w1 (h : Tabs w1) => markBytes_any enc mark n tail w1 h h0 h3)
  have HC := hide1 (fun w1 (h : TrAt w1 enc (some n) R) => h.counts)
  have hc0 : CtR w enc n R (w.alloc (.cells #[.int .i64 enc, .bool mark, .iface n.ty (.pointer (some ⟨n.blk, 0, none⟩)), .string tail] 69)) := ⟨ht.below hb0, hr.low hb0, hb0⟩
  have HS0 := hide1 hc0
  clear hb0 hr ht hc0
  have fb := field_body
  simp only [trv, cnOf, Cn.val] at HC
  generalize mkB enc mark = mb at *
  go_enter Tryd.func39, Tryd.ntmps39
  go_wp2_with fail
  have hS : (w.alloc (.cells #[.int .i64 enc, .bool mark, .iface n.ty (.pointer (some ⟨n.blk, 0, none⟩)), .string tail] 69)).cell? ⟨w.heap.size, 0, none⟩ = some (.int .i64 enc) ∧ (w.alloc (.cells #[.int .i64 enc, .bool mark, .iface n.ty (.pointer (some ⟨n.blk, 0, none⟩)), .string tail] 69)).cell? ⟨w.heap.size, 1, none⟩ = some (.bool mark) ∧ (w.alloc (.cells #[.int .i64 enc, .bool mark, .iface n.ty (.pointer (some ⟨n.blk, 0, none⟩)), .string tail] 69)).cell? ⟨w.heap.size, 2, none⟩ = some (.iface n.ty (.pointer (some ⟨n.blk, 0, none⟩))) ∧ (w.alloc (.cells #[.int .i64 enc, .bool mark, .iface n.ty (.pointer (some ⟨n.blk, 0, none⟩)), .string tail] 69)).cell? ⟨w.heap.size, 3, none⟩ = some (.string tail) ∧ CtR w enc n R (w.alloc (.cells #[.int .i64 enc, .bool mark, .iface n.ty (.pointer (some ⟨n.blk, 0, none⟩)), .string tail] 69)) := ⟨by simp, by simp, by simp, by simp, HS0.out⟩
  generalize hZ : w.heap.size = Z at *
  have HZ := hide1 hZ
  clear hZ
  have HSS := hide1 hS
  clear HS0
  obtain ⟨p0, p1, p2, p3, _⟩ := hS
  generalize (w.alloc (.cells #[.int .i64 enc, .bool mark, .iface n.ty (.pointer (some ⟨n.blk, 0, none⟩)), .string tail] 69)) = W at *
  have hSd := Ct_drew HSS.out
  go_region_held3 (fun w' => w'.cell? ⟨Z, 0, none⟩ = some (.int .i64 enc) ∧ w'.cell? ⟨Z, 1, none⟩ = some (.bool mark) ∧ w'.cell? ⟨Z, 2, none⟩ = some (.iface n.ty (.pointer (some ⟨n.blk, 0, none⟩))) ∧ w'.cell? ⟨Z, 3, none⟩ = some (.string tail) ∧ CtR w enc n R w')
    (first | assumption | exact HSS.out | exact Ct_drew HSS.out)
    (first
      | (go_at_call 62; refine (HM.out _ (Ct_tabs (by assumption))).mono ?_; rintro e w3 ⟨rfl, hb3⟩; have hS3 := Ct_step (by assumption) hb3)
      | (go_at_call 41; refine (HC.out _ (Ct_tr (by assumption))).mono ?_; rintro e w4 ⟨rfl, hb4⟩; have hS4 := Ct_step (by assumption) hb4))
  clear p0 p1 p2 p3
  have hw1 : IntKind.i64.wrap ((mb.size : Int) + ((rowB R).length : Int)) = (mb.size : Int) + ((rowB R).length : Int) := by rw [IntKind.wrap_i64]; omega
  have hw2 : IntKind.i64.wrap ((mb.size : Int) + ((rowB R).length : Int) + (tail.size : Int)) = (mb.size : Int) + ((rowB R).length : Int) + (tail.size : Int) := by rw [IntKind.wrap_i64]; omega
  rw [hw1, hw2]
  have hlow := Ct_low hS4
  clear hS3 hS4 hSd
  go_wp2
  go_ret
  refine ⟨?_, hlow⟩
  simp
end Go.Proofs.YtjbfgnhkgjigpaaDoor

namespace Go.Proofs.YtjbfgnhkgjigpaaDoor
open Go.RowKit

/-- The bytes of a content. -/
def ctB (enc : Int) (mark : Bool) (R : List (Cn × ByteArray)) (tail : ByteArray) : List UInt8 := (mkB enc mark).data.toList ++ (rowB R ++ tail.data.toList)

/-- While a piece is written. -/
structure PcI (w0 : World) (enc : Int) (mark : Bool) (n : Nd) (R : List (Cn × ByteArray)) (tail : ByteArray) (bs : List Value) (W : World) : Prop where
  bd : Bd (w0.heap.size + 1) (w0.heap.size + 1) bs W
  c : W.heap[w0.heap.size]? = some (.cells #[.int .i64 enc, .bool mark, .iface n.ty (.pointer (some ⟨n.blk, 0, none⟩)), .string tail] 69)
  tr : TrAt W enc (some n) R
  tabs : Tabs W
  low : Below w0.heap.size w0 W
  sz : w0.heap.size + 1 < W.heap.size
theorem PcI.step {w0 : World} {enc : Int} {mark : Bool} {n : Nd} {R : List (Cn × ByteArray)} {tail : ByteArray} {bs : List Value} {W W' : World} (h : PcI w0 enc mark n R tail bs W) (hb : Below W.heap.size W W') : PcI w0 enc mark n R tail bs W' :=
  ⟨h.bd.low hb, (hb.block _ (heap_lt h.c)).trans h.c, h.tr.low hb, h.tabs.below hb, h.low.trans (hb.mono h.low.size), Nat.lt_of_lt_of_le h.sz hb.size⟩
theorem PcI.put {w0 : World} {enc : Int} {mark : Bool} {n : Nd} {R : List (Cn × ByteArray)} {tail : ByteArray} {bs bs' : List Value} {W W' : World} (h : PcI w0 enc mark n R tail bs W) (hd : Bd (w0.heap.size + 1) (w0.heap.size + 1) bs' W') (hb : Below (w0.heap.size + 1) W W') (ht : Tabs w0) (hu : n.Und w0.heap.size) : PcI w0 enc mark n R tail bs' W' := by
  have hlow := h.low.trans (hb.mono (by omega))
  exact ⟨hd, (hb.block _ (by omega)).trans h.c, ⟨fun m hm => by cases hm; exact ⟨Nd.kept (fun k hk => hb.block k (by omega)) hu (h.tr.inn n rfl).1, (h.tr.inn n rfl).2⟩, fun h => (by cases h), h.tr.ok⟩, ht.below hlow, hlow, Nat.lt_of_lt_of_le h.sz hb.size⟩
theorem PcI.at_ {w0 : World} {enc : Int} {mark : Bool} {n : Nd} {R : List (Cn × ByteArray)} {tail : ByteArray} {bs : List Value} {W : World} (h : PcI w0 enc mark n R tail bs W) :
    W.cell? ⟨w0.heap.size, 0, none⟩ = some (.int .i64 enc) ∧ W.cell? ⟨w0.heap.size, 1, none⟩ = some (.bool mark) ∧ W.cell? ⟨w0.heap.size, 2, none⟩ = some (.iface n.ty (.pointer (some ⟨n.blk, 0, none⟩))) ∧ W.cell? ⟨w0.heap.size, 3, none⟩ = some (.string tail) :=
  ⟨by rw [Lib.cell_of_heap h.c]; rfl, by rw [Lib.cell_of_heap h.c]; rfl, by rw [Lib.cell_of_heap h.c]; rfl, by rw [Lib.cell_of_heap h.c]; rfl⟩

set_option maxRecDepth 100000 in
set_option maxHeartbeats 2000000 in
theorem piece_any (enc : Int) (mark : Bool) (n : Nd) (R : List (Cn × ByteArray)) (tail : ByteArray) (f t : Nat) (w : World) (ht : Tabs w) (hr : TrAt w enc (some n) R) (h0 : 0 ≤ enc) (h3 : enc ≤ 3) (hl : (rowB R).length ≤ 1099511627776) (htl : tail.size ≤ 1099511627776) (hft : f ≤ t) (htt : t ≤ 4398046511104) :
    Calls Tryd.prog 40 #[.agg #[.int .i64 enc, .bool mark, .iface n.ty (.pointer (some ⟨n.blk, 0, none⟩)), .string tail], .int .i64 f, .int .i64 t] w fun e w' => e = .returned (.string ⟨(Vm.partL (ctB enc mark R tail) f t).toArray⟩) ∧ Below w.heap.size w w' := by
  have hu := Nd.und (hr.inn n rfl).1
  have hms := mkB_size enc mark
  have hsz := rowA_size hr.ok
  have HM := hide1 (fun w1 (h : Tabs w1) => markBytes_any enc mark n tail w1 h h0 h3)
  have HC := hide1 (fun w1 (h : TrAt w1 enc (some n) R) => h.counts)
  have hbw : Below w.heap.size w ((w.alloc (.cells #[.int .i64 enc, .bool mark, .iface n.ty (.pointer (some ⟨n.blk, 0, none⟩)), .string tail] 69)).alloc (.cells #[.pointer none, .slice none 0 0] 110)) := ((Below.refl _ _).alloc (Nat.le_refl _) _).alloc (by simp) _
  have hz0 : ((w.alloc (.cells #[.int .i64 enc, .bool mark, .iface n.ty (.pointer (some ⟨n.blk, 0, none⟩)), .string tail] 69)).alloc (.cells #[.pointer none, .slice none 0 0] 110)).heap.size = w.heap.size + 2 := by simp
  have k0 : ((w.alloc (.cells #[.int .i64 enc, .bool mark, .iface n.ty (.pointer (some ⟨n.blk, 0, none⟩)), .string tail] 69)).alloc (.cells #[.pointer none, .slice none 0 0] 110)).heap[w.heap.size]? = some (.cells #[.int .i64 enc, .bool mark, .iface n.ty (.pointer (some ⟨n.blk, 0, none⟩)), .string tail] 69) := by
    rw [Below.heap_alloc _ _ _ (by simp)]; exact Go.Deep.blk_alloc_new _ _
  have k1 : ((w.alloc (.cells #[.int .i64 enc, .bool mark, .iface n.ty (.pointer (some ⟨n.blk, 0, none⟩)), .string tail] 69)).alloc (.cells #[.pointer none, .slice none 0 0] 110)).heap[w.heap.size + 1]? = some (.cells #[.pointer none, .slice none 0 0] 110) := by
    have := Go.Deep.blk_alloc_new (w.alloc (.cells #[.int .i64 enc, .bool mark, .iface n.ty (.pointer (some ⟨n.blk, 0, none⟩)), .string tail] 69)) (.cells #[.pointer none, .slice none 0 0] 110)
    rwa [World.size_alloc] at this
  have hgr := bld_grow (w.heap.size + 1) (w.heap.size + 1) (t - f) _ (Nat.le_refl _) k1 (by omega) (by omega)
  rw [show ((t - f : Nat) : Int) = (t : Int) - (f : Int) by omega] at hgr
  have HG := hide1 hgr
  have HT := hide1 ht
  have HP0 := hide1 (fun W' (hd : Bd (w.heap.size + 1) (w.heap.size + 1) [] W') (hb : Below (w.heap.size + 1) ((w.alloc (.cells #[.int .i64 enc, .bool mark, .iface n.ty (.pointer (some ⟨n.blk, 0, none⟩)), .string tail] 69)).alloc (.cells #[.pointer none, .slice none 0 0] 110)) W') =>
    (show PcI w enc mark n R tail [] W' from ⟨hd, (hb.block _ (by omega)).trans k0, ⟨fun m hm => by cases hm; exact ⟨Nd.kept (hbw.trans (hb.mono (by omega))).block hu (hr.inn n rfl).1, (hr.inn n rfl).2⟩, fun h => (by cases h), hr.ok⟩, ht.below (hbw.trans (hb.mono (by omega))), hbw.trans (hb.mono (by omega)), by have := hb.size; omega⟩))
  clear hbw k0 k1 hgr hr ht
  have fb := field_body
  simp only [trv, cnOf, Cn.val] at HC
  go_enter Tryd.func40, Tryd.ntmps40
  go_wp2_with fail
  refine HG.out.mono ?_
  rintro e w1 ⟨rfl, hd1, hb1⟩
  have H1 := hide1 (HP0.out _ hd1 hb1)
  clear hd1 hb1 HP0 HG hz0
  obtain ⟨p0, p1, p2, p3⟩ := H1.out.at_
  have hz1 := H1.out.sz
  go_wp2_with fail
  refine (HM.out _ H1.out.tabs).mono ?_
  rintro e w2 ⟨rfl, hb2⟩
  have H2 := hide1 (H1.out.step hb2)
  clear hb2 H1 p0 p1 p2 p3 hz1
  obtain ⟨p0, p1, p2, p3⟩ := H2.out.at_
  have hz2 := H2.out.sz
  generalize hmb : mkB enc mark = mb at *
  have HMB := hide1 hmb
  clear hmb
  go_wp2_with fail
  refine (part_any mb f t w2 (by omega)).mono ?_
  rintro e w2' ⟨r1, rfl, hr1, rfl⟩
  have hrs1 : r1.size ≤ mb.size := by
    have h1 : r1.data.toList.length = r1.size := rfl
    have h2 := Vm.partL_len mb.data.toList f t
    have h3 : mb.data.toList.length = mb.size := rfl
    rw [← hr1] at h2; omega
  go_wp2_with fail
  refine (bld_str _ _ [] r1 w2' H2.out.bd (by simp; omega) (by omega)).mono ?_
  rintro e w3 ⟨rfl, hd3, hb3⟩
  have H3 := hide1 (H2.out.put hd3 hb3 HT.out hu)
  clear hd3 hb3 H2 p0 p1 p2 p3 hz2
  obtain ⟨p0, p1, p2, p3⟩ := H3.out.at_
  have hz3 := H3.out.sz
  have hc1 : ([] ++ Lib.strCells r1).length = r1.size := by simp [Lib.strCells_length]
  generalize hcs : [] ++ Lib.strCells r1 = cs1 at *
  have HCS1 := hide1 hcs
  clear hcs
  have HW := hide1 (twrite_any (w.heap.size + 1) enc (some n) R (w.heap.size + 1) cs1 ((f : Int) - mb.size) ((t : Int) - mb.size) w3 H3.out.tr (fun m hm => by cases hm; exact hu.mono (by omega)) H3.out.bd (by omega) (by omega) (by omega) (by omega) (by omega))
  simp only [trv] at HW
  go_wp2_with fail
  refine HW.out.mono ?_
  rintro e w4 ⟨rfl, hd4, hb4⟩
  have H4 := hide1 (H3.out.put hd4 hb4 HT.out hu)
  clear hd4 hb4 H3 p0 p1 p2 p3 hz3 HW
  obtain ⟨p0, p1, p2, p3⟩ := H4.out.at_
  have hz4 := H4.out.sz
  have hbl := Lib.byteCells_length (Vm.partL (rowB R) ((f : Int) - mb.size) ((t : Int) - mb.size))
  have hpl := Vm.partL_len (rowB R) ((f : Int) - mb.size) ((t : Int) - mb.size)
  have hc2 : (cs1 ++ Lib.byteCells (Vm.partL (rowB R) ((f : Int) - mb.size) ((t : Int) - mb.size))).length ≤ r1.size + (rowB R).length := by rw [List.length_append, hc1, hbl]; omega
  generalize hcs2 : cs1 ++ Lib.byteCells (Vm.partL (rowB R) ((f : Int) - mb.size) ((t : Int) - mb.size)) = cs2 at *
  have HCS2 := hide1 hcs2
  clear hcs2 hbl hpl
  go_wp2_with fail
  refine (HC.out _ H4.out.tr).mono ?_
  rintro e w5 ⟨rfl, hb5⟩
  have H5 := hide1 (H4.out.step hb5)
  clear hb5 H4 p0 p1 p2 p3 hz4
  obtain ⟨p0, p1, p2, p3⟩ := H5.out.at_
  have hz5 := H5.out.sz
  go_wp2_with fail
  refine (part_any tail ((f : Int) - mb.size - (rowB R).length) ((t : Int) - mb.size - (rowB R).length) w5 (by omega)).mono ?_
  rintro e w5' ⟨r2, rfl, hr2, rfl⟩
  have hrs2 : r2.size ≤ tail.size := by
    have h1 : r2.data.toList.length = r2.size := rfl
    have h2 := Vm.partL_len tail.data.toList ((f : Int) - mb.size - (rowB R).length) ((t : Int) - mb.size - (rowB R).length)
    have h3 : tail.data.toList.length = tail.size := rfl
    rw [← hr2] at h2; omega
  go_wp2_with fail
  refine (bld_str _ _ cs2 r2 w5' H5.out.bd (by omega) (by omega)).mono ?_
  rintro e w6 ⟨rfl, hd6, hb6⟩
  have H6 := hide1 (H5.out.put hd6 hb6 HT.out hu)
  clear hd6 hb6 H5 p0 p1 p2 p3 hz5
  have hz6 := H6.out.sz
  have hall : cs2 ++ Lib.strCells r2 = Lib.byteCells (Vm.partL (ctB enc mark R tail) f t) := by
    rw [← HCS2.out, ← HCS1.out]
    unfold ctB
    rw [HMB.out, Vm.partL_append, Vm.partL_append]
    have e1 : Lib.strCells r1 = Lib.byteCells (Vm.partL mb.data.toList f t) := by rw [← hr1]; rfl
    have e2 : Lib.strCells r2 = Lib.byteCells (Vm.partL tail.data.toList ((f : Int) - mb.size - (rowB R).length) ((t : Int) - mb.size - (rowB R).length)) := by rw [← hr2]; rfl
    have e3 : (mb.data.toList.length : Int) = mb.size := rfl
    rw [e1, e2, e3]
    simp [Lib.byteCells]
  have hbd := H6.out.bd
  rw [hall] at hbd
  have HS := hide1 (bld_string (w.heap.size + 1) (w.heap.size + 1) (Vm.partL (ctB enc mark R tail) f t) w6 hbd (by omega))
  have HL := hide1 H6.out.low
  clear hbd hall H6
  go_wp2_with fail
  refine HS.out.mono ?_
  rintro e w7 ⟨rfl, hb7⟩
  have HL7 := hide1 (HL.out.trans (hb7.mono (by omega)))
  clear hb7 HS
  go_wp2_with fail
  go_ret
  exact ⟨rfl, HL7.out⟩
end Go.Proofs.YtjbfgnhkgjigpaaDoor

namespace Go.Proofs.YtjbfgnhkgjigpaaDoor
open Go.RowKit

theorem nine_below {w1 w2 : World} (h : Below w1.heap.size w1 w2) (v0 v1 v2 v3 v4 v5 v6 v7 v8 : Value) :
    Below w1.heap.size w1 (((((((((w2.setCell ⟨w1.heap.size, 0, none⟩ v0).setCell ⟨w1.heap.size, 1, none⟩ v1).setCell ⟨w1.heap.size, 2, none⟩ v2).setCell ⟨w1.heap.size, 3, none⟩ v3).setCell ⟨w1.heap.size, 4, none⟩ v4).setCell ⟨w1.heap.size, 5, none⟩ v5).setCell ⟨w1.heap.size, 6, none⟩ v6).setCell ⟨w1.heap.size, 7, none⟩ v7).setCell ⟨w1.heap.size, 8, none⟩ v8) :=
  ((((((((h.setCell (p := ⟨w1.heap.size, 0, none⟩) (Nat.le_refl _) _).setCell (p := ⟨w1.heap.size, 1, none⟩) (Nat.le_refl _) _).setCell (p := ⟨w1.heap.size, 2, none⟩) (Nat.le_refl _) _).setCell (p := ⟨w1.heap.size, 3, none⟩) (Nat.le_refl _) _).setCell (p := ⟨w1.heap.size, 4, none⟩) (Nat.le_refl _) _).setCell (p := ⟨w1.heap.size, 5, none⟩) (Nat.le_refl _) _).setCell (p := ⟨w1.heap.size, 6, none⟩) (Nat.le_refl _) _).setCell (p := ⟨w1.heap.size, 7, none⟩) (Nat.le_refl _) _).setCell (p := ⟨w1.heap.size, 8, none⟩) (Nat.le_refl _) _
theorem keepA {w1 w2 : World} {B : Nat} {u v : Value} (d0 : w1.cell? ⟨B, 0, none⟩ = some u) (d1 : w1.cell? ⟨B, 1, none⟩ = some v) (hb : Below w1.drew.heap.size w1.drew w2) (o : Obj) : (w2.alloc o).cell? ⟨B, 0, none⟩ = some u ∧ (w2.alloc o).cell? ⟨B, 1, none⟩ = some v := by
  have hb' : Below w1.heap.size w1 w2 := ⟨hb.os, hb.tape, hb.output, hb.size, hb.block⟩
  exact two_kept ⟨d0, d1⟩ (hb'.alloc hb'.size o)
theorem keepB {w1 w2 : World} {B : Nat} {u v : Value} {Z : Obj} (d0 : w1.cell? ⟨B, 0, none⟩ = some u) (d1 : w1.cell? ⟨B, 1, none⟩ = some v) (hb : Below (w1.drew.alloc Z).heap.size (w1.drew.alloc Z) w2) (v0 v1 v2 v3 v4 v5 v6 v7 v8 : Value) :
    (((((((((w2.setCell ⟨w1.heap.size, 0, none⟩ v0).setCell ⟨w1.heap.size, 1, none⟩ v1).setCell ⟨w1.heap.size, 2, none⟩ v2).setCell ⟨w1.heap.size, 3, none⟩ v3).setCell ⟨w1.heap.size, 4, none⟩ v4).setCell ⟨w1.heap.size, 5, none⟩ v5).setCell ⟨w1.heap.size, 6, none⟩ v6).setCell ⟨w1.heap.size, 7, none⟩ v7).setCell ⟨w1.heap.size, 8, none⟩ v8).cell? ⟨B, 0, none⟩ = some u ∧
    (((((((((w2.setCell ⟨w1.heap.size, 0, none⟩ v0).setCell ⟨w1.heap.size, 1, none⟩ v1).setCell ⟨w1.heap.size, 2, none⟩ v2).setCell ⟨w1.heap.size, 3, none⟩ v3).setCell ⟨w1.heap.size, 4, none⟩ v4).setCell ⟨w1.heap.size, 5, none⟩ v5).setCell ⟨w1.heap.size, 6, none⟩ v6).setCell ⟨w1.heap.size, 7, none⟩ v7).setCell ⟨w1.heap.size, 8, none⟩ v8).cell? ⟨B, 1, none⟩ = some v := by
  have hb0 : Below w1.heap.size w1 (w1.drew.alloc Z) := ((Below.refl _ _).drew).alloc (Nat.le_refl _) _
  have hb' : Below w1.heap.size w1 w2 := hb0.trans (hb.mono hb0.size)
  exact two_kept ⟨d0, d1⟩ (nine_below hb' v0 v1 v2 v3 v4 v5 v6 v7 v8)
theorem pair_kept {w w' : World} {B C i j : Nat} {u v : Value} (h : w.cell? ⟨B, i, none⟩ = some u ∧ w.cell? ⟨C, j, none⟩ = some v) (hb : Below w.heap.size w w') : w'.cell? ⟨B, i, none⟩ = some u ∧ w'.cell? ⟨C, j, none⟩ = some v :=
  ⟨(hb.cell (p := ⟨B, i, none⟩) (block_lt h.1)).trans h.1, (hb.cell (p := ⟨C, j, none⟩) (block_lt h.2)).trans h.2⟩
theorem six_kept {w w' : World} {B i C j : Nat} {u v0 v1 v2 v3 v4 : Value} (h : w.cell? ⟨B, i, none⟩ = some u ∧ w.cell? ⟨C, j, none⟩ = some v0 ∧ w.cell? ⟨C, j + 1, none⟩ = some v1 ∧ w.cell? ⟨C, j + 2, none⟩ = some v2 ∧ w.cell? ⟨C, j + 3, none⟩ = some v3 ∧ w.cell? ⟨C, j + 4, none⟩ = some v4) (hb : Below w.heap.size w w') :
    w'.cell? ⟨B, i, none⟩ = some u ∧ w'.cell? ⟨C, j, none⟩ = some v0 ∧ w'.cell? ⟨C, j + 1, none⟩ = some v1 ∧ w'.cell? ⟨C, j + 2, none⟩ = some v2 ∧ w'.cell? ⟨C, j + 3, none⟩ = some v3 ∧ w'.cell? ⟨C, j + 4, none⟩ = some v4 := by
  have g : ∀ b o v, w.cell? ⟨b, o, none⟩ = some v → w'.cell? ⟨b, o, none⟩ = some v := fun b o v h => (hb.cell (p := ⟨b, o, none⟩) (block_lt h)).trans h
  exact ⟨g _ _ _ h.1, g _ _ _ h.2.1, g _ _ _ h.2.2.1, g _ _ _ h.2.2.2.1, g _ _ _ h.2.2.2.2.1, g _ _ _ h.2.2.2.2.2⟩
theorem below_undrew {w w' : World} (hb : Below w.drew.heap.size w.drew w') : Below w.heap.size w w' := ⟨hb.os, hb.tape, hb.output, hb.size, hb.block⟩
theorem five_other {w : World} {B i C j : Nat} {u v0 v1 v2 v3 v4 : Value} (hne : C ≠ B) (h : w.cell? ⟨C, j, none⟩ = some v0 ∧ w.cell? ⟨C, j + 1, none⟩ = some v1 ∧ w.cell? ⟨C, j + 2, none⟩ = some v2 ∧ w.cell? ⟨C, j + 3, none⟩ = some v3 ∧ w.cell? ⟨C, j + 4, none⟩ = some v4) :
    (w.setCell ⟨B, i, none⟩ u).cell? ⟨C, j, none⟩ = some v0 ∧ (w.setCell ⟨B, i, none⟩ u).cell? ⟨C, j + 1, none⟩ = some v1 ∧ (w.setCell ⟨B, i, none⟩ u).cell? ⟨C, j + 2, none⟩ = some v2 ∧ (w.setCell ⟨B, i, none⟩ u).cell? ⟨C, j + 3, none⟩ = some v3 ∧ (w.setCell ⟨B, i, none⟩ u).cell? ⟨C, j + 4, none⟩ = some v4 := by
  have g : ∀ o v, w.cell? ⟨C, o, none⟩ = some v → (w.setCell ⟨B, i, none⟩ u).cell? ⟨C, o, none⟩ = some v := fun o v h => by
    rw [World.cell?_setCell_other _ _ _ _ (by intro e; injection e with e1 e2; exact hne (by first | exact e1 | exact e1.symm))]; exact h
  exact ⟨g _ _ h.1, g _ _ h.2.1, g _ _ h.2.2.1, g _ _ h.2.2.2.1, g _ _ h.2.2.2.2⟩
theorem Bx9.other {w : World} {B C i : Nat} {u v0 v1 v2 v3 v4 v5 v6 v7 v8 : Value} (h : Bx9 w B v0 v1 v2 v3 v4 v5 v6 v7 v8) (hne : ¬ B = C) : Bx9 (w.setCell ⟨C, i, none⟩ u) B v0 v1 v2 v3 v4 v5 v6 v7 v8 := by
  have g : ∀ o, (w.setCell ⟨C, i, none⟩ u).cell? ⟨B, o, none⟩ = w.cell? ⟨B, o, none⟩ := fun o => World.cell?_setCell_other _ _ _ _ (by intro e; injection e with e1 e2; exact hne e1.symm)
  exact ⟨(g _).trans h.c0, (g _).trans h.c1, (g _).trans h.c2, (g _).trans h.c3, (g _).trans h.c4, (g _).trans h.c5, (g _).trans h.c6, (g _).trans h.c7, (g _).trans h.c8, fun j => by rw [World.frozen?_setCell]; exact h.f j⟩
theorem nine_belowG {w1 W : World} (h : Below w1.heap.size w1 W) (v0 v1 v2 v3 v4 v5 v6 v7 v8 : Value) :
    Below w1.heap.size w1 (((((((((W.setCell ⟨w1.heap.size, 0, none⟩ v0).setCell ⟨w1.heap.size, 1, none⟩ v1).setCell ⟨w1.heap.size, 2, none⟩ v2).setCell ⟨w1.heap.size, 3, none⟩ v3).setCell ⟨w1.heap.size, 4, none⟩ v4).setCell ⟨w1.heap.size, 5, none⟩ v5).setCell ⟨w1.heap.size, 6, none⟩ v6).setCell ⟨w1.heap.size, 7, none⟩ v7).setCell ⟨w1.heap.size, 8, none⟩ v8) := nine_below h v0 v1 v2 v3 v4 v5 v6 v7 v8
set_option maxRecDepth 100000 in
set_option maxHeartbeats 4000000 in
theorem rshow_any (B : Nat) (enc : Int) (mark : Bool) (body : ByteArray) (w : World) (hd : RDoc w B enc mark body) (hs : body.size ≤ 1099511627776) (h0 : 0 ≤ enc) (h3 : enc ≤ 3) :
    Calls Tryd.prog 31 #[.pointer (some ⟨B, 0, none⟩)] w fun e w' => (∀ A, A = Vm.atoms enc body.data.toList → e = .returned (.agg #[.int .i64 enc, .bool mark, .int .i64 (Vm.bytesA A), .int .i64 A.length, .int .i64 (Vm.unitsA A), .int .i64 ((Vm.linesA A : Int) + 1), .int .i64 (Vm.cntK A 4), .bool (decide (Vm.sizeA A < body.size)), .int .i64 (Vm.endingOf (Vm.cntK A 0) (Vm.cntK A 1) (Vm.cntK A 2))])) ∧ Below w.heap.size w w' := by
  have hok := Vm.atoms_ok enc body.data.toList
  obtain ⟨A, hA⟩ : ∃ A, A = Vm.atoms enc body.data.toList := ⟨_, rfl⟩
  have HA := hide2 hA
  have hca := rdatoms_any B enc mark body
  rw [← hA] at hok hca
  have HC := hide2 hca
  clear hca hA
  have HD := hide2 hd
  clear hd
  go_enter Tryd.func31, Tryd.ntmps31
  go_wp2_with fail
  have be0 : Below w.heap.size w (w.alloc (.cells #[.int .i64 0, .bool false, .int .i64 0, .int .i64 0, .int .i64 0, .int .i64 0, .int .i64 0, .bool false, .int .i64 0] 50)) := (Below.refl _ _).alloc (Nat.le_refl _) _
  have hnew := Bx9.new w 50 (.int .i64 0) (.bool false) (.int .i64 0) (.int .i64 0) (.int .i64 0) (.int .i64 0) (.int .i64 0) (.bool false) (.int .i64 0)
  have HN := hide2 hnew
  clear hnew
  refine (HC.out _ (HD.out.below be0) hs h0 h3).mono ?_
  rintro e w1 ⟨v, L, rfl, hr, hl, ho, hb1⟩
  have hd1 := (HD.out.below be0).below hb1
  have HR1 := hide2 (HN.out.below hb1)
  have hbw1 := be0.trans (hb1.mono be0.size)
  have hws := hb1.size
  simp only [World.size_alloc] at hws
  have d0 := hd1.c0
  have d1 := hd1.c1
  have d2 := hd1.c2
  have hBz := block_lt d0
  have hlen := hr.length
  obtain ⟨p, cap, rfl⟩ : ∃ p cap, v = .slice p L.length cap := by
    rcases ho.2 with ⟨x, y⟩ | ⟨g, c, cur, x, _⟩
    · exact ⟨none, 0, by rw [x, y]⟩
    · exact ⟨_, _, x⟩
  have HO := hide2 ho
  have HR := hide2 hr
  have HL := hide2 hlen
  clear ho hr hlen hb1 be0 hd1 HD HC HN
  go_wp2
  go_cut [4] from 9 to 21 (fun s4 wx => ∃ Bs, s4 = .pointer (some ⟨Bs, 0, none⟩) ∧ w1.heap.size ≤ Bs ∧ Bx9 wx Bs (.int .i64 enc) (.bool mark) (.int .i64 0) (.int .i64 0) (.int .i64 0) (.int .i64 1) (.int .i64 0) (.bool false) (.int .i64 (Vm.endingOf (Vm.cntK A 0) (Vm.cntK A 1) (Vm.cntK A 2))) ∧ Below w1.heap.size w1 wx)
  case first =>
    go_region_held3 (fun w' => w'.cell? ⟨B, 0, none⟩ = some (.int .i64 enc) ∧ w'.cell? ⟨B, 1, none⟩ = some (.bool mark)) (first | go_keep | exact two_kept (by assumption) (by assumption) | exact keepA d0 d1 hb2 _ | exact keepB d0 d1 hb2 _ _ _ _ _ _ _ _ _)
      (first | (go_at_call 55; refine (rending_any _ L A _ _ (HO.out.below (by first | exact (Below.refl _ _).drew | exact ((Below.refl _ _).drew).alloc (Nat.le_refl _) _)) HR.out (by omega)).mono ?_; rintro e w2 ⟨rfl, hb2⟩; obtain ⟨hc2, hf2⟩ := bcell hb2; have hz2 := hb2.size))
    · go_wp2_with fail
      go_meet
      have hb' : Below w1.heap.size w1 w2 := ⟨hb2.os, hb2.tape, hb2.output, hb2.size, hb2.block⟩
      exact ⟨_, rfl, hb'.size, Bx9.new _ _ _ _ _ _ _ _ _ _ _, hb'.alloc hb'.size _⟩
    · go_wp2_with fail
      go_meet
      have hb0 : Below w1.heap.size w1 (w1.drew.alloc (.cells #[.int .i64 0, .bool false, .int .i64 0, .int .i64 0, .int .i64 0, .int .i64 0, .int .i64 0, .bool false, .int .i64 0] 50)) := ((Below.refl _ _).drew).alloc (Nat.le_refl _) _
      have hb' : Below w1.heap.size w1 w2 := hb0.trans (hb2.mono hb0.size)
      have bx := (Bx9.new w1.drew 50 (.int .i64 0) (.bool false) (.int .i64 0) (.int .i64 0) (.int .i64 0) (.int .i64 0) (.int .i64 0) (.bool false) (.int .i64 0)).below hb2
      exact ⟨_, rfl, Nat.le_refl _, ((((((((bx.set0 _).set1 _).set2 _).set3 _).set4 _).set5 _).set6 _).set7 _).set8 _, nine_below hb' _ _ _ _ _ _ _ _ _⟩
  case rest =>
  obtain ⟨Bs, rfl, hBs, hbs, hbc⟩ := hcut
  go_wp2
  generalize hen : Vm.endingOf (Vm.cntK A 0) (Vm.cntK A 1) (Vm.cntK A 2) = en at *
  have HEN := hide2 hen
  clear hen
  go_loopw [5, 6] (fun la i wx => ∃ k : Nat, k ≤ L.length ∧ la = .int .i64 (Vm.sizeA (A.take k)) ∧ i = .int .i64 k ∧ Bx9 wx Bs (.int .i64 enc) (.bool mark) (.int .i64 (Vm.bytesA (A.take k))) (.int .i64 k) (.int .i64 (Vm.unitsA (A.take k))) (.int .i64 ((Vm.linesA (A.take k) : Int) + 1)) (.int .i64 (Vm.cntK (A.take k) 4)) (.bool false) (.int .i64 en) ∧ Below w1.heap.size w1 wx) (fun _ i _ => L.length - (intOf i).toNat)
  case atStart => exact ⟨0, Nat.zero_le _, rfl, rfl, hbs, hbc⟩
  case round =>
    obtain ⟨k, hk, rfl, rfl, hbk, hbx⟩ := hrel
    have m1 := Vm.bytesA_le (A.take k)
    have m2 := Vm.unitsA_le (A.take k)
    have m3 := Vm.linesA_le (A.take k)
    have m4 := Vm.cntK_le (A.take k) 4
    have mt : (A.take k).length ≤ k := by simp; omega
    by_cases hlt : k < L.length
    · have hltI : (k : Int) < (L.length : Int) := by omega
      obtain ⟨a, ha⟩ : ∃ a, L[k]? = some a := ⟨L[k], List.getElem?_eq_getElem hlt⟩
      obtain ⟨x, pz, hx, hra0⟩ := reads_get HR.out k a ha
      have hra := HR.out.pos k a x ha hx
      have hxo := hok x (List.mem_of_getElem? hx)
      have hch := raok_char hra hxo
      have hcb : Vm.chA x ≤ 1114111 ∧ 0 ≤ Vm.chA x := ⟨hxo.2.2.2.2.2.1, hxo.2.2.2.2.1⟩
      obtain ⟨g, rfl⟩ : ∃ g, p = some ⟨g, 0, none⟩ := by
        rcases HO.out.2 with ⟨y, z⟩ | ⟨g, c, cur, y, _⟩
        · omega
        · injection y with y1; exact ⟨g, y1⟩
      have hgl := (HO.out.lt g rfl).2
      have hgB : g ≠ Bs := by omega
      have hcells : ∀ wx, Below w1.heap.size w1 wx → wx.cell? ⟨g, k * 5, none⟩ = some (.int .i64 a.1) ∧ wx.cell? ⟨g, k * 5 + 1, none⟩ = some (.bool a.2.1) ∧ wx.cell? ⟨g, k * 5 + 2, none⟩ = some (.int .i64 a.2.2.1) ∧ wx.cell? ⟨g, k * 5 + 3, none⟩ = some (.int .i64 a.2.2.2.1) ∧ wx.cell? ⟨g, k * 5 + 4, none⟩ = some (.int .i64 a.2.2.2.2) := fun wx hbx => by
        have cell := fun j (hj : j < 5) => ((HO.out.below hbx).cellAt (k * 5 + j) (by omega)).trans (flatRA_at L k a j ha hj)
        exact ⟨cell 0 (by decide), cell 1 (by decide), cell 2 (by decide), cell 3 (by decide), cell 4 (by decide)⟩
      have hsh := rshown_any a
      have hun := runits_any a
      have hrange : a.2.1 = false → 0 ≤ a.1 ∧ a.1 ≤ 1114111 := fun h => by rw [h] at hch; simp only [Bool.false_eq_true, if_false] at hch; rw [hch]; exact ⟨hcb.2, hcb.1⟩
      have HRG := hide2 hrange
      have hune : (if a.2.1 = false ∧ 65535 < a.1 then (2 : Int) else 1) = (Vm.unA x : Int) := by
        unfold Vm.unA
        rw [← hch]
        cases a.2.1 <;> simp
        split <;> rfl
      rw [hch] at hsh
      rw [hune] at hun
      have t1 := hide2 (Vm.bytesA_take hx)
      have t2 := hide2 (Vm.unitsA_take hx)
      have t3 := hide2 (Vm.linesA_take hx)
      have t4 := hide2 (Vm.cntK_take hx 4)
      have t5 := hide2 (Vm.sizeA_take hx)
      have HCE := hide2 hcells
      have HSH := hide2 hsh
      have HUN := hide2 hun
      have hlen := str_len (Vm.chA x)
      have hlc := Vm.utfLen_cases (Vm.chA x)
      have hul : Vm.unA x ≤ 2 := by unfold Vm.unA; split <;> omega
      have HLN := hide2 hlen
      have HRA := hide2 hra
      clear hcells hsh hun hrange hune hch hra hra0 hx ha hlen hxo
      obtain ⟨q0, q1, q2, q3, q4⟩ := HCE.out _ hbx
      generalize e1 : Vm.bytesA (A.take k) = b1 at *
      generalize e2 : Vm.unitsA (A.take k) = b2 at *
      generalize e3 : Vm.linesA (A.take k) = b3 at *
      generalize e4 : Vm.cntK (A.take k) 4 = b4 at *
      generalize e5 : Vm.sizeA (A.take k) = b5 at *
      have E1 := hide2 e1
      have E2 := hide2 e2
      have E3 := hide2 e3
      have E4 := hide2 e4
      have E5 := hide2 e5
      clear e1 e2 e3 e4 e5
      have HB := hide2 hbk
      have n2 := hbk.c2
      have hBsz := block_lt n2
      have f2 := hbk.f 2
      clear hbk
      go_wp2_with fail
      go_cut [4] from 22 to 74 (fun s4 wx => s4 = .pointer (some ⟨Bs, 0, none⟩) ∧ Bx9 wx Bs (.int .i64 enc) (.bool mark) (.int .i64 ((b1 : Int) + Vm.lenA x)) (.int .i64 k) (.int .i64 b2) (.int .i64 ((b3 : Int) + 1)) (.int .i64 b4) (.bool false) (.int .i64 en) ∧ Below w1.heap.size w1 wx)
      case first =>
        go_region_with
          (first | (go_at_call 54; refine (HSH.out _ HRG.out).mono ?_; rintro e w2 ⟨rfl, hb2⟩; have hz2 := hb2.size; have hfz : w2.frozen? ⟨Bs, 2, none⟩ = false := (hb2.frozen (p := ⟨Bs, 2, none⟩) hBsz).trans f2; have hcz : w2.cell? ⟨Bs, 2, none⟩ = some (.int .i64 b1) := (hb2.cell (p := ⟨Bs, 2, none⟩) hBsz).trans n2; have hkp := six_kept ⟨n2, q0, q1, q2, q3, q4⟩ (below_undrew hb2)))
        all_goals
          go_wp2_with fail
          go_meet
          have hw : IntKind.i64.wrap ((b1 : Int) + ((strOfNums (Vm.utfL (Vm.chA x))).size : Int)) = (b1 : Int) + Vm.lenA x := by
            rw [HLN.out, IntKind.wrap_i64]; unfold Vm.lenA; omega
          rw [hw]
          exact ⟨rfl, (HB.out.below (below_undrew hb2)).set2 _, (hbx.trans ((below_undrew hb2).mono hbx.size)).setCell (p := ⟨Bs, 2, none⟩) hBs _⟩
      case rest =>
        obtain ⟨rfl, hb7, hbx7⟩ := hcut
        rename World => w7
        clear HB n2 f2 hBsz q0 q1 q2 q3 q4
        have n3 := hb7.c3
        have f3 := hb7.f 3
        have HB7 := hide2 hb7
        clear hb7
        go_wp2_with fail
        have HB8 := hide2 (HB7.out.set3 (.int .i64 ((k : Int) + 1)))
        have hbx8 := hbx7.setCell (p := ⟨Bs, 3, none⟩) hBs (.int .i64 ((k : Int) + 1))
        obtain ⟨q0, q1, q2, q3, q4⟩ := HCE.out _ hbx8
        have n4 := HB8.out.c4
        have f4 := HB8.out.f 4
        have hBsz := block_lt n4
        generalize hw8 : w7.setCell ⟨Bs, 3, none⟩ (.int .i64 ((k : Int) + 1)) = w8 at *
        clear hw8 n3 f3 HB7 hbx7 hbx
        go_cut [4] from 22 to 74 (fun s4 wx => s4 = .pointer (some ⟨Bs, 0, none⟩) ∧ Bx9 wx Bs (.int .i64 enc) (.bool mark) (.int .i64 ((b1 : Int) + Vm.lenA x)) (.int .i64 ((k : Int) + 1)) (.int .i64 ((b2 : Int) + Vm.unA x)) (.int .i64 ((b3 : Int) + 1)) (.int .i64 b4) (.bool false) (.int .i64 en) ∧ Below w1.heap.size w1 wx)
        case first =>
          go_region_with
            (first | (go_at_call 56; refine (HUN.out _).mono ?_; rintro e w2 ⟨rfl, hb2⟩; have hz2 := hb2.size; have hfz : w2.frozen? ⟨Bs, 4, none⟩ = false := (hb2.frozen (p := ⟨Bs, 4, none⟩) hBsz).trans f4; have hcz : w2.cell? ⟨Bs, 4, none⟩ = some (.int .i64 b2) := (hb2.cell (p := ⟨Bs, 4, none⟩) hBsz).trans n4))
          all_goals
            go_wp2_with fail
            go_meet
            first
              | exact ⟨rfl, (HB8.out.below (below_undrew hb2)).set4 _, (hbx8.trans ((below_undrew hb2).mono hbx8.size)).setCell (p := ⟨Bs, 4, none⟩) hBs _⟩
              | (have hw : IntKind.i64.wrap ((b2 : Int) + (Vm.unA x : Int)) = (b2 : Int) + Vm.unA x := by
                  rw [IntKind.wrap_i64]; omega
                 rw [hw]
                 exact ⟨rfl, (HB8.out.below (below_undrew hb2)).set4 _, (hbx8.trans ((below_undrew hb2).mono hbx8.size)).setCell (p := ⟨Bs, 4, none⟩) hBs _⟩)
        case rest =>
          obtain ⟨rfl, hb9, hbx9⟩ := hcut
          rename World => w9
          clear HB8 n4 f4 hBsz q0 q1 q2 q3 q4 hbx8
          obtain ⟨q0, q1, q2, q3, q4⟩ := HCE.out _ hbx9
          have n5 := hb9.c5
          have f5 := hb9.f 5
          have n6 := hb9.c6
          have f6 := hb9.f 6
          have HB9 := hide2 hb9
          clear hb9 q0 q3
          obtain ⟨r1, r2, r3, r4, r5, r6, r7⟩ := HRA.out
          rw [r3] at q1
          rw [r4] at q2
          rw [r2, Nat.zero_add] at q4
          clear r1 r2 r3 r4 r5 HRA HSH HUN HCE HRG
          have hcase : x.1 ≤ 2 ∨ x.1 = 3 ∨ x.1 = 4 := by omega
          rcases hcase with hx1 | hx1 | hx1
          · rw [if_pos hx1] at q2
            rw [decide_eq_false (by omega)] at q1
            generalize hev : x.1 + 1 = ev at *
            have hev0 : 0 < ev := by omega
            have HEV := hide2 hev
            clear hev
            go_wp2
            go_roundw
            case measure => simp [intOf]; omega
            case rel =>
              refine ⟨k + 1, by omega, by rw [t5.out]; rfl, rfl, ?_, hbx9.setCell (p := ⟨Bs, 5, none⟩) hBs _⟩
              rw [t1.out, t2.out, t3.out, t4.out, if_pos hx1, if_neg (by omega)]
              exact HB9.out.set5 _
          · rw [if_neg (by omega)] at q2
            rw [decide_eq_false (by omega)] at q1
            go_wp2
            go_roundw
            case measure => simp [intOf]; omega
            case rel =>
              refine ⟨k + 1, by omega, by rw [t5.out]; rfl, rfl, ?_, hbx9⟩
              rw [t1.out, t2.out, t3.out, t4.out, if_neg (by omega), if_neg (by omega)]
              exact HB9.out
          · rw [if_neg (by omega)] at q2
            rw [decide_eq_true (by omega)] at q1
            go_wp2
            go_roundw
            case measure => simp [intOf]; omega
            case rel =>
              refine ⟨k + 1, by omega, by rw [t5.out]; rfl, rfl, ?_, hbx9.setCell (p := ⟨Bs, 6, none⟩) hBs _⟩
              rw [t1.out, t2.out, t3.out, t4.out, if_neg (by omega), if_pos hx1]
              exact HB9.out.set6 _
    · obtain rfl : k = L.length := by omega
      have hall : A.take L.length = A := by rw [HL.out, List.take_length]
      rw [hall] at hbk m1 m2 m3 m4
      have hAl := HL.out
      have hD2 : wr.cell? ⟨B, 2, none⟩ = some (.string body) := (hbx.cell (p := ⟨B, 2, none⟩) hBz).trans d2
      obtain ⟨c0, c1, c2, c3, c4, c5, c6, c7, c8, cf⟩ := hbk
      have f7 := cf 7
      have hrs := HR1.out.below hbx
      obtain ⟨r0, r1, r2, r3, r4, r5, r6, r7, r8, rf⟩ := hrs
      have rf0 := rf 0
      have rf1 := rf 1
      have rf2 := rf 2
      have rf3 := rf 3
      have rf4 := rf 4
      have rf5 := rf 5
      have rf6 := rf 6
      have rf7 := rf 7
      have rf8 := rf 8
      have hne : ¬ w.heap.size = Bs := by omega
      have hne' : ¬ Bs = w.heap.size := by omega
      have HS := hide2 hall
      clear hall mt
      go_wp2
      have bb := (((((((((((HR1.out.below hbx).other (C := Bs) (i := 7) (u := .bool (decide (Vm.sizeA A < body.size))) hne).set0 (.int .i64 enc)).set1 (.bool mark)).set2 (.int .i64 (Vm.bytesA A))).set3 (.int .i64 A.length)).set4 (.int .i64 (Vm.unitsA A))).set5 (.int .i64 ((Vm.linesA A : Int) + 1))).set6 (.int .i64 (Vm.cntK A 4))).set7 (.bool (decide (Vm.sizeA A < body.size)))).set8 (.int .i64 en))
      have hbz := nine_belowG (W := wr.setCell ⟨Bs, 7, none⟩ (.bool (decide (Vm.sizeA A < body.size)))) ((hbw1.trans (hbx.mono hbw1.size)).setCell (p := ⟨Bs, 7, none⟩) (by show w.heap.size ≤ Bs; omega) _) (.int .i64 enc) (.bool mark) (.int .i64 (Vm.bytesA A)) (.int .i64 A.length) (.int .i64 (Vm.unitsA A)) (.int .i64 ((Vm.linesA A : Int) + 1)) (.int .i64 (Vm.cntK A 4)) (.bool (decide (Vm.sizeA A < body.size))) (.int .i64 en)
      refine bodyPost_ret (v := .agg #[.int .i64 enc, .bool mark, .int .i64 (Vm.bytesA A), .int .i64 A.length, .int .i64 (Vm.unitsA A), .int .i64 ((Vm.linesA A : Int) + 1), .int .i64 (Vm.cntK A 4), .bool (decide (Vm.sizeA A < body.size)), .int .i64 en]) ?hres rfl ?hpost
      case hres =>
        generalize (((((((((wr.setCell ⟨Bs, 7, none⟩ (.bool (decide (Vm.sizeA A < body.size)))).setCell ⟨w.heap.size, 0, none⟩ (.int .i64 enc)).setCell ⟨w.heap.size, 1, none⟩ (.bool mark)).setCell ⟨w.heap.size, 2, none⟩ (.int .i64 (Vm.bytesA A))).setCell ⟨w.heap.size, 3, none⟩ (.int .i64 A.length)).setCell ⟨w.heap.size, 4, none⟩ (.int .i64 (Vm.unitsA A))).setCell ⟨w.heap.size, 5, none⟩ (.int .i64 ((Vm.linesA A : Int) + 1))).setCell ⟨w.heap.size, 6, none⟩ (.int .i64 (Vm.cntK A 4))).setCell ⟨w.heap.size, 7, none⟩ (.bool (decide (Vm.sizeA A < body.size)))).setCell ⟨w.heap.size, 8, none⟩ (.int .i64 en) = W at *
        simp [results, Tryd.results31, go_sem, bb.c0, bb.c1, bb.c2, bb.c3, bb.c4, bb.c5, bb.c6, bb.c7, bb.c8]
      case hpost =>
        refine ⟨fun A' hA' => ?_, hbz⟩
        rw [← HA.out] at hA'
        subst hA'
        rw [HEN.out]
end Go.Proofs.YtjbfgnhkgjigpaaDoor
