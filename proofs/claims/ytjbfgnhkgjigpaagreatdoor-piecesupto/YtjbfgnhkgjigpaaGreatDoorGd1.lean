import Derived.Test.YtjbfgnhkgjigpaaGreatDoorGd0
namespace Go.Proofs.YtjbfgnhkgjigpaaGreatDoor
open Go.RowKit Go.Shelf Go.Vit
attribute [local go_sem] Oper.semAt_some

set_option maxHeartbeats 1000000 in
theorem tbodies_any (t : Option Nd) (w : World) :
    Calls Tryz.prog 97 #[.agg #[trv t]] w fun e w' => e = .returned (.func (.func 126) #[] #[.pointer (some ⟨w.heap.size, 0, none⟩)]) ∧ w' = w.alloc (.cells #[trv t] 71) := by
  generalize trv t = v
  go_enter Tryz.func97, Tryz.ntmps97
  go_wp2
  go_ret
  exact ⟨rfl, rfl⟩

set_option maxRecDepth 100000 in
set_option maxHeartbeats 1000000 in
theorem bodies1_some (n : Nd) (Bt : Nat) : Iters Tryz.prog 126 #[.pointer (some ⟨Bt, 0, none⟩)] encB (n.row.map (fun x => x.2))
    (fun w => w.cell? ⟨Bt, 0, none⟩ = some (.iface n.ty (.pointer (some ⟨n.blk, 0, none⟩))) ∧ n.In w) := by
  intro M l J Jx W hM hJ hJx hN hY hj
  obtain ⟨ct, _⟩ := (hN _ _ hj).1
  have hbz := block_lt ct
  have e1 := bf_enters n
  have m1 := meth_bodies n 343
  have C1 := bodies_all n M l J Jx W hM hJ hJx (fun s A h => ⟨(hN s A h).1.2, (hN s A h).2⟩) hY hj
  have HC := hide C1
  clear C1 hY hN hJ hJx hj hM
  refine (callsIn_wide (n := 9)).1 ?_
  refine callsIn_of_wp_marks Tryz.func126 rfl trivial ?_ rfl
  simp only [Tryz.ntmps126, List.size_toArray, List.length_cons, List.length_nil, Nat.reduceAdd, Nat.reduceSub, Array.replicate_succ, Array.replicate_zero, List.push_toArray, List.append_toArray, List.nil_append, List.cons_append]
  gi_wp2_with fail
  refine ⟨trivial, (callsIn_wide.2 HC.out).mono ?_⟩
  rintro e W3 (⟨rfl, hj3, hs3⟩ | ⟨rfl, pre, hp, hx⟩)
  · have HJ := hide hj3
    clear HC hj3
    gi_wp2
    exact ⟨_, results_none rfl _ _ _, ⟨_, rfl⟩, .inl HJ.out⟩
  · have HX := hide (show ∃ pre, pre <+: n.row.map (fun x => x.2) ∧ Jx pre W3 from ⟨pre, hp, hx⟩)
    clear HC hp hx
    gi_wp2
    exact ⟨_, results_none rfl _ _ _, ⟨_, rfl⟩, .inr HX.out⟩

set_option maxRecDepth 100000 in
set_option maxHeartbeats 1000000 in
theorem bodies1_none (Bt : Nat) : Iters Tryz.prog 126 #[.pointer (some ⟨Bt, 0, none⟩)] encB []
    (fun w => w.cell? ⟨Bt, 0, none⟩ = some .nilIface) := by
  intro M l J Jx W hM hJ hJx hN hY hj
  have ct := (hN _ _ hj).1
  have hbz := block_lt ct
  have HJ := hide hj
  clear hY hN hJ hJx hj hM
  refine (callsIn_wide (n := 9)).1 ?_
  refine callsIn_of_wp_marks Tryz.func126 rfl trivial ?_ rfl
  simp only [Tryz.ntmps126, List.size_toArray, List.length_cons, List.length_nil, Nat.reduceAdd, Nat.reduceSub, Array.replicate_succ, Array.replicate_zero, List.push_toArray, List.append_toArray, List.nil_append, List.cons_append]
  gi_wp2
  exact ⟨_, results_none rfl _ _ _, ⟨_, rfl⟩, .inl HJ.out⟩

theorem bodies1_it (t : Option Nd) (R : List (Cn × ByteArray)) (Bt : Nat) (h1 : ∀ n, t = some n → n.row = R) (h2 : t = none → R = []) :
    Iters Tryz.prog 126 #[.pointer (some ⟨Bt, 0, none⟩)] encB (R.map (fun x => x.2)) (fun w => w.cell? ⟨Bt, 0, none⟩ = some (trv t) ∧ ∀ n, t = some n → n.In w) := by
  cases t with
  | none =>
    have := h2 rfl
    subst this
    intro M l J Jx W hM hJ hJx hN hY hj
    exact bodies1_none Bt M l J Jx W hM hJ hJx (fun s A h => ⟨(hN s A h).1.1, (hN s A h).2⟩) hY hj
  | some n =>
    have := h1 n rfl
    subst this
    intro M l J Jx W hM hJ hJx hN hY hj
    exact bodies1_some n Bt M l J Jx W hM hJ hJx (fun s A h => ⟨⟨(hN s A h).1.1, (hN s A h).1.2 n rfl⟩, (hN s A h).2⟩) hY hj
end Go.Proofs.YtjbfgnhkgjigpaaGreatDoor

namespace Go.Proofs.YtjbfgnhkgjigpaaGreatDoor
open Go.RowKit Go.Shelf Go.Vit
attribute [local go_sem] Oper.semAt_some

theorem bld_string_k (B b : Nat) (l : List UInt8) (w : World) (h : Bd B b (Lib.byteCells l) w) (hBw : B ≤ w.heap.size) :
    Calls Tryz.prog 88 #[.pointer (some ⟨b, 0, none⟩)] w fun e w' => e = .returned (.string ⟨l.toArray⟩) ∧ Below B w w' ∧ ∀ k st, k ≠ b → w.heap[k]? = some (.deferred st) → w'.heap[k]? = some (.deferred st) := by
  refine (Any.Builder_String_any_k lays169 extraB B b l w (.inr (Lib.BuilderAtF.of h)) hBw).mono ?_
  rintro e w' ⟨rfl, _, hb, ho⟩
  exact ⟨rfl, hb, fun k st hk hd => ho k _ hd (by simpa using hk) (fun _ _ => by simp)⟩
/-- The atoms of bodies. -/
def atB (enc : Int) (pre : List ByteArray) : List Vm.At := pre.flatMap (fun x => Vm.atoms enc x.data.toList)
theorem atB_snoc (enc : Int) (pre : List ByteArray) (x : ByteArray) : atB enc (pre ++ [x]) = atB enc pre ++ Vm.atoms enc x.data.toList := by simp [atB]
theorem atB_row (enc : Int) (R : List (Cn × ByteArray)) : atB enc (R.map (fun x => x.2)) = rowA enc R := by simp [atB, rowA, List.flatMap_map]
theorem atB_ok (enc : Int) (pre : List ByteArray) : ∀ a ∈ atB enc pre, Vm.AtOk a := by
  intro a ha
  simp only [atB, List.mem_flatMap] at ha
  obtain ⟨x, _, hx⟩ := ha
  exact Vm.atoms_ok enc _ a hx
theorem atB_ch (enc : Int) (pre : List ByteArray) : ∀ a ∈ atB enc pre, Vm.ChOk a := by
  intro a ha
  simp only [atB, List.mem_flatMap] at ha
  obtain ⟨x, _, hx⟩ := ha
  exact Vm.atoms_ch enc _ a hx

/-- While the text is written: A has been written. -/
structure TxI (w0 : World) (enc : Int) (mark : Bool) (n : Nd) (tail : ByteArray) (Bt : Nat) (A : List Vm.At) (W : World) : Prop where
  bd : Bd (w0.heap.size + 1) (w0.heap.size + 1) (txCells A) W
  c : W.heap[w0.heap.size]? = some (.cells #[.int .i64 enc, .bool mark, .iface n.ty (.pointer (some ⟨n.blk, 0, none⟩)), .string tail] 73)
  t : W.cell? ⟨Bt, 0, none⟩ = some (.iface n.ty (.pointer (some ⟨n.blk, 0, none⟩)))
  inn : n.In W
  low : Below w0.heap.size w0 W
theorem TxI.it {w0 : World} {enc : Int} {mark : Bool} {n : Nd} {tail : ByteArray} {Bt : Nat} {A : List Vm.At} {W W' : World} {lo : Nat} (h : TxI w0 enc mark n tail Bt A W) (st : ItStep (MB (w0.heap.size + 1)) lo W W') (hlo : w0.heap.size + 1 < lo) (hBt : Bt < lo) (hu : n.Und w0.heap.size) : TxI w0 enc mark n tail Bt A W' :=
  ⟨h.bd.it st hlo, (st.low _ (by omega)).trans h.c, (World.cell?_of_block (w := W) (st.low Bt hBt)).trans h.t, Nd.kept (fun k hk => st.low k (by omega)) hu h.inn, h.low.trans ⟨st.os, st.tape, st.output, st.size, fun k hk => st.low k (by omega)⟩⟩
/-- Writing a character. -/
theorem TxI.gr {w0 : World} {enc : Int} {mark : Bool} {n : Nd} {tail : ByteArray} {Bt : Nat} {A A' : List Vm.At} {W W' : World} (h : TxI w0 enc mark n tail Bt A W) (hd : Bd (w0.heap.size + 1) (w0.heap.size + 1) (txCells A') W') (hg : Gr (w0.heap.size + 1) W W') (hBt : Bt < W.heap.size) (hBne : w0.heap.size + 1 < Bt) (hnm : ¬ MB (w0.heap.size + 1) W Bt) (hu : n.Und w0.heap.size) : TxI w0 enc mark n tail Bt A' W' := by
  have hb := hg.below h.bd (by have := h.low.size; omega)
  have hk : ∀ k, k < w0.heap.size + 1 → W'.heap[k]? = W.heap[k]? := hb.block
  exact ⟨hd, (hk _ (by omega)).trans h.c, (World.cell?_of_block (w := W) (hg.keep Bt hBt (by omega) hnm)).trans h.t, Nd.kept (fun k hk' => hk k (by omega)) hu h.inn, h.low.trans (hb.mono (by omega))⟩

/-- Between two bodies. -/
def TxO (w0 : World) (enc : Int) (mark : Bool) (n : Nd) (tail : ByteArray) (Bt : Nat) (pre : List ByteArray) (W : World) : Prop :=
  TxI w0 enc mark n tail Bt (atB enc pre) W ∧ ¬ MB (w0.heap.size + 1) W Bt ∧ Bt < W.heap.size
/-- Between two atoms of a body x that begins at world W2. -/
structure TxN (w0 : World) (enc : Int) (mark : Bool) (n : Nd) (tail : ByteArray) (Bt lo : Nat) (pre : List ByteArray) (x : ByteArray) (W2 : World) (A : List Vm.At) (W : World) : Prop where
  i : TxI w0 enc mark n tail Bt (atB enc pre ++ A) W
  bs : BodyStep (MB (w0.heap.size + 1)) lo W2 W
  e : W.cell? ⟨W2.heap.size, 0, none⟩ = some (.int .i64 enc)
  b : W.cell? ⟨W2.heap.size + 1, 0, none⟩ = some (.string x)
  n1 : ¬ MB (w0.heap.size + 1) W Bt
  n2 : ¬ MB (w0.heap.size + 1) W W2.heap.size
  n3 : ¬ MB (w0.heap.size + 1) W (W2.heap.size + 1)
  sz : W2.heap.size + 2 ≤ W.heap.size
theorem TxN.it {w0 : World} {enc : Int} {mark : Bool} {n : Nd} {tail : ByteArray} {Bt lo lo2 : Nat} {pre : List ByteArray} {x : ByteArray} {W2 : World} {A : List Vm.At} {W W' : World} (h : TxN w0 enc mark n tail Bt lo pre x W2 A W) (st : ItStep (MB (w0.heap.size + 1)) lo2 W W') (hb : w0.heap.size + 1 < lo2) (hBt : Bt < lo2) (hW : W2.heap.size + 2 ≤ lo2) (hu : n.Und w0.heap.size) : TxN w0 enc mark n tail Bt lo pre x W2 A W' :=
  ⟨h.i.it st hb hBt hu, ⟨st.os.trans h.bs.os, st.tape.trans h.bs.tape, st.output.trans h.bs.output, Nat.le_trans h.bs.size st.size, fun k h1 h2 h3 => (st.low k (by omega)).trans (h.bs.keep k h1 h2 h3), fun k hk => h.bs.new k (st.same (mb_low hb) k hk)⟩,
    (World.cell?_of_block (w := W) (st.low W2.heap.size (by omega))).trans h.e, (World.cell?_of_block (w := W) (st.low (W2.heap.size + 1) (by omega))).trans h.b,
    fun hm => h.n1 (st.same (mb_low hb) _ hm), fun hm => h.n2 (st.same (mb_low hb) _ hm), fun hm => h.n3 (st.same (mb_low hb) _ hm), Nat.le_trans h.sz st.size⟩

theorem TxN.gr {w0 : World} {enc : Int} {mark : Bool} {n : Nd} {tail : ByteArray} {Bt lo : Nat} {pre : List ByteArray} {x : ByteArray} {W2 : World} {A : List Vm.At} {a : Vm.At} {W W' : World} (h : TxN w0 enc mark n tail Bt lo pre x W2 A W)
    (hd : Bd (w0.heap.size + 1) (w0.heap.size + 1) (txCells (atB enc pre ++ A) ++ chCells (Vm.chA a)) W') (hg : Gr (w0.heap.size + 1) W W') (hb : w0.heap.size + 1 < lo) (hBt : w0.heap.size + 1 < Bt) (hBt2 : Bt < W2.heap.size) (hu : n.Und w0.heap.size) : TxN w0 enc mark n tail Bt lo pre x W2 (A ++ [a]) W' := by
  have hsz := h.sz
  have hnew : ∀ k, k < W.heap.size → ¬ MB (w0.heap.size + 1) W k → ¬ MB (w0.heap.size + 1) W' k := fun k h1 h2 hm => by
    rcases hg.new k hm with y | y
    · exact h2 y
    · omega
  refine ⟨?_, h.bs.trans (hg.body hb), (World.cell?_of_block (w := W) (hg.keep W2.heap.size (by omega) (by omega) h.n2)).trans h.e, (World.cell?_of_block (w := W) (hg.keep (W2.heap.size + 1) (by omega) (by omega) h.n3)).trans h.b, hnew _ (by omega) h.n1, hnew _ (by omega) h.n2, hnew _ (by omega) h.n3, Nat.le_trans h.sz hg.size⟩
  refine h.i.gr ?_ hg (by omega) hBt h.n1 hu
  rw [← List.append_assoc, txCells_snoc]
  exact hd
theorem row_size {R : List (Cn × ByteArray)} {x : ByteArray} (h : x ∈ R.map (fun y => y.2)) : x.size ≤ (rowB R).length := by
  induction R with
  | nil => simp at h
  | cons y R ih =>
    have e : (rowB (y :: R)).length = y.2.size + (rowB R).length := by simp [rowB]
    rw [e]
    simp only [List.map_cons, List.mem_cons] at h
    rcases h with rfl | h
    · omega
    · have := ih h; omega
theorem atB_len {enc : Int} {R : List (Cn × ByteArray)} {pre : List ByteArray} {x : ByteArray} {A : List Vm.At} (h : pre ++ [x] <+: R.map (fun y => y.2)) (hA : A <+: Vm.atoms enc x.data.toList) : (atB enc pre ++ A).length ≤ (rowA enc R).length := by
  obtain ⟨t, ht⟩ := h
  obtain ⟨s, hs⟩ := hA
  rw [← atB_row, ← ht]
  simp only [atB, List.flatMap_append, List.flatMap_cons, List.flatMap_nil, List.append_nil, List.length_append]
  rw [← hs, List.length_append]; omega

set_option maxRecDepth 100000 in
set_option maxHeartbeats 4000000 in
theorem text_some (enc : Int) (mark : Bool) (n : Nd) (R : List (Cn × ByteArray)) (tail : ByteArray) (w : World) (ht : Tabs w) (hr : TrAt w enc (some n) R) (h0 : 0 ≤ enc) (h3 : enc ≤ 3) (hl : (rowB R).length ≤ 1099511627776) :
    Calls Tryz.prog 64 #[.agg #[.int .i64 enc, .bool mark, trv (some n), .string tail]] w fun e w' => e = .returned (.string (strOfNums (Vm.textL (rowA enc R)))) ∧ Below w.heap.size w w' := by
  have hfo : Tryz.prog.follows Departure.mixedOrders = true := by kernel_rfl
  have HC := hide (fun w1 (h : TrAt w1 enc (some n) R) => h.counts)
  have HTB := hide (tbodies_any (some n))
  have hit := bodies1_it (some n) R
  have hu := Nd.und (hr.inn n rfl).1
  have hsz := rowA_size hr.ok
  have hln := Vm.len_sizeA (rowA_ok enc R)
  have hby := Vm.bytesA_le (rowA enc R)
  have HT := hide hr
  have HR1 := hide (fun m (h : some n = some m) => (hr.inn m h).2.2)
  clear hr
  simp only [trv] at HTB HC hit ⊢
  have fb : ∀ (v0 v1 v2 v3 v4 v5 v6 v7 : Value) (w : World), (Instr.field 99 (.agg #[v0, v1, v2, v3, v4, v5, v6, v7]) 1).run Tryz.prog w = .ok v1 w := fun _ _ _ _ _ _ _ _ _ => by kernel_rfl
  have hbw : Below w.heap.size w ((w.alloc (.cells #[.int .i64 enc, .bool mark, .iface n.ty (.pointer (some ⟨n.blk, 0, none⟩)), .string tail] 73)).alloc (.cells #[.pointer none, .slice none 0 0] 142)) := ((Below.refl _ _).alloc (Nat.le_refl _) _).alloc (by simp) _
  have HB0 := hide hbw
  clear hbw
  refine (callsIn_wide (n := 9)).1 ?_
  refine callsIn_of_wp_marks Tryz.func64 rfl trivial ?_ rfl
  simp only [Tryz.ntmps64, List.size_toArray, List.length_cons, List.length_nil, Nat.reduceAdd, Nat.reduceSub, Array.replicate_succ, Array.replicate_zero, List.push_toArray, List.append_toArray, List.nil_append, List.cons_append]
  gi_wp2_with fail
  refine ⟨trivial, (callsIn_wide.2 (HC.out _ (HT.out.low HB0.out))).mono ?_⟩
  rintro e w1 ⟨rfl, hb1⟩
  have hz0 : ((w.alloc (.cells #[.int .i64 enc, .bool mark, .iface n.ty (.pointer (some ⟨n.blk, 0, none⟩)), .string tail] 73)).alloc (.cells #[.pointer none, .slice none 0 0] 142)).heap.size = w.heap.size + 2 := by simp
  have hs1 := hb1.size
  have k0 : w1.heap[w.heap.size]? = some (.cells #[.int .i64 enc, .bool mark, .iface n.ty (.pointer (some ⟨n.blk, 0, none⟩)), .string tail] 73) := by
    rw [hb1.block _ (by omega), Below.heap_alloc _ _ _ (by simp)]; exact Go.Deep.blk_alloc_new _ _
  have k1 : w1.heap[w.heap.size + 1]? = some (.cells #[.pointer none, .slice none 0 0] 142) := by
    rw [hb1.block _ (by omega)]
    have := Go.Deep.blk_alloc_new (w.alloc (.cells #[.int .i64 enc, .bool mark, .iface n.ty (.pointer (some ⟨n.blk, 0, none⟩)), .string tail] 73)) (.cells #[.pointer none, .slice none 0 0] 142)
    rwa [World.size_alloc] at this
  have HB1 := hide (HB0.out.trans (hb1.mono (by omega)))
  have HG := hide (bld_grow (w.heap.size + 1) (w.heap.size + 1) (Vm.bytesA (rowA enc R)) w1 (Nat.le_refl _) k1 (by omega) (by omega))
  have HK0 := hide k0
  clear hb1 k0 k1 HC
  simp only [cnOf, Cn.val]
  generalize Vm.bytesA (rowA enc R) = by_ at *
  gi_wp2_with fail
  refine ⟨trivial, (callsIn_wide.2 HG.out).mono ?_⟩
  rintro e w2 ⟨rfl, hd2, hb2⟩
  generalize (Value.agg #[.int .i64 (Vm.sizeA (rowA enc R)), .int .i64 by_, .int .i64 (rowA enc R).length, .int .i64 (Vm.unitsA (rowA enc R)), .int .i64 (Vm.cntK (rowA enc R) 4), .int .i64 (Vm.cntK (rowA enc R) 0), .int .i64 (Vm.cntK (rowA enc R) 1), .int .i64 (Vm.cntK (rowA enc R) 2)]) = cv
  have HB2 := hide (HB1.out.trans (hb2.mono (by omega)))
  have k2 := (hb2.block w.heap.size (by omega)).trans HK0.out
  have c0 : w2.cell? ⟨w.heap.size, 0, none⟩ = some (.int .i64 enc) := by rw [Lib.cell_of_heap k2]; rfl
  have c2 : w2.cell? ⟨w.heap.size, 2, none⟩ = some (.iface n.ty (.pointer (some ⟨n.blk, 0, none⟩))) := by rw [Lib.cell_of_heap k2]; rfl
  have HD2 := hide hd2
  have HK2 := hide k2
  have hs2 := hb2.size
  clear hd2 hb2 HG k2 HB1 HK0
  gi_wp2_with fail
  refine ⟨trivial, (callsIn_wide.2 (HTB.out w2)).mono ?_⟩
  rintro e w3 ⟨rfl, hw3⟩
  have hb3 : Below w2.heap.size w2 w3 := by rw [hw3]; exact (Below.refl _ _).alloc (Nat.le_refl _) _
  have hs3 : w3.heap.size = w2.heap.size + 1 := by rw [hw3]; simp
  have hI0 : TxI w enc mark n tail w2.heap.size [] w3 := by
    refine ⟨HD2.out.low hb3, (hb3.block _ (by omega)).trans HK2.out, ?_, ?_, HB2.out.trans (hb3.mono (by omega))⟩
    · rw [hw3]; simp [go_sem]
    · exact Nd.kept (HB2.out.trans (hb3.mono (by omega))).block hu (HT.out.inn n rfl).1
  have hnm0 : ¬ MB (w.heap.size + 1) w3 w2.heap.size := by
    intro hm
    have := (HD2.out.mem w2.heap.size ((ItStep.of_below hb3 (Nat.le_refl _) (fun k hk => (HD2.out.mem k hk).2)).same (mb_low (by omega)) _ hm)).2
    omega
  clear hw3 c0 c2 HD2 HK2 HTB
  gi_wp2
  refine wp_range1 (gf := 126) rfl (enters_of Tryz.func126 (by kernel_rfl) rfl) (hit w2.heap.size HR1.out (fun h => by cases h)) (fun _ => rfl) (MB (w.heap.size + 1)) (mb_low (by omega))
    (TxO w enc mark n tail w2.heap.size) (fun _ _ _ => False) ?hI ?hIx ?hN ⟨hI0, hnm0, by omega⟩ ?a1 ?assign ?body ?done ?stop
  case hI =>
    rintro s A B ⟨h1, h2, h3⟩ st
    exact ⟨h1.it st (by omega) (by omega) hu, fun hm => h2 (st.same (mb_low (by omega)) _ hm), Nat.lt_of_lt_of_le h3 st.size⟩
  case hIx => intro c s A B h; exact h.elim
  case hN =>
    rintro s A ⟨h1, h2, h3⟩
    exact ⟨⟨h1.t, fun m hm => by cases hm; exact h1.inn⟩, fun k hk => (h1.bd.mem k hk).2⟩
  case assign =>
    intro l x W K hK
    dsimp only [encB]
    gi_wp2
    exact hK
  case body =>
    rintro l2 pre x W2 hsz2 ⟨r, hr⟩ hl2 ⟨hi, hnm, hbt⟩ hpre
    have c0 : W2.cell? ⟨w.heap.size, 0, none⟩ = some (.int .i64 enc) := by rw [Lib.cell_of_heap hi.c]; rfl
    have HI := hide hi
    have HP := hide hpre
    clear hi hpre
    gi_wp2_with fail
    refine ⟨trivial, (CallsIn.inRound l2 (callsIn_wide.2 (atoms_any enc x W2))).mono ?_⟩
    rintro e w4 ⟨rfl, hw4⟩
    have hs4 : w4.heap.size = W2.heap.size + 2 := by rw [hw4]; simp
    have hb4 : Below W2.heap.size W2 w4 := by rw [hw4]; exact ((Below.refl _ _).alloc (Nat.le_refl _) _).alloc (by simp) _
    have e4 : w4.cell? ⟨W2.heap.size, 0, none⟩ = some (.int .i64 enc) := by rw [hw4]; simp [go_sem]
    have b4 : w4.cell? ⟨W2.heap.size + 1, 0, none⟩ = some (.string x) := by rw [hw4]; simp [go_sem]
    clear hw4
    have hr4 : w4.heap[l2]? = some (.loop r) := (hb4.block l2 (heap_lt hr)).trans hr
    have st4 : ItStep (MB (w.heap.size + 1)) W2.heap.size W2 w4 := ItStep.of_below hb4 (Nat.le_refl _) (fun k hk => (HI.out.bd.mem k hk).2)
    have hmlow : MLow (MB (w.heap.size + 1)) W2.heap.size := mb_low (by omega)
    have hN0 : TxN w enc mark n tail w2.heap.size w3.heap.size pre x W2 [] w4 :=
      ⟨by rw [List.append_nil]; exact HI.out.it st4 (by omega) (by omega) hu, BodyStep.of_below (mb_low (by omega)) hb4 (by omega), e4, b4, fun hm => hnm (st4.same hmlow _ hm),
        fun hm => by have := (HI.out.bd.mem _ (st4.same hmlow _ hm)).2; omega, fun hm => by have := (HI.out.bd.mem _ (st4.same hmlow _ hm)).2; omega, by omega⟩
    have hxm : x ∈ R.map (fun y => y.2) := HP.out.subset (by simp)
    have hxs := row_size hxm
    have hiA := atoms1_it x enc W2.heap.size (W2.heap.size + 1) (by omega) h0 h3
    have HLEN := hide (fun A (h : A <+: Vm.atoms enc x.data.toList) => atB_len HP.out h)
    have HCH := hide (Vm.atoms_ch enc x.data.toList)
    have HN0 := hide hN0
    clear hN0 e4 b4 c0
    gi_wp2
    refine wp_rangeN hr4 (gf := 127) rfl (enters_of Tryz.func127 (by kernel_rfl) rfl) hiA (fun _ => rfl) (MB (w.heap.size + 1)) (mb_low (by omega))
      (TxN w enc mark n tail w2.heap.size w3.heap.size pre x W2) (fun _ _ _ => False) ?hI2 ?hIx2 ?hN2 HN0.out (fun y a' W => ∃ Bq, a' = { tmps := #[.agg #[.int .i64 enc, .bool mark, .iface n.ty (.pointer (some ⟨n.blk, 0, none⟩)), .string tail], .pointer (some ⟨w.heap.size, 0, none⟩), .string { data := #[] }, .pointer (some ⟨w.heap.size + 1, 0, none⟩), .string x, .pointer (some ⟨Bq, 0, none⟩), .pointer (some ⟨w.heap.size, 2, none⟩), .agg #[.iface n.ty (.pointer (some ⟨n.blk, 0, none⟩))], cv, .int .i64 by_, .tuple #[], .pointer (some ⟨w.heap.size, 2, none⟩), .agg #[.iface n.ty (.pointer (some ⟨n.blk, 0, none⟩))], .func (.func 126) #[] #[.pointer (some ⟨w2.heap.size, 0, none⟩)], .string x, .pointer (some ⟨w.heap.size, 0, none⟩), .int .i64 enc, .string x, .func (.func 127) #[] #[.pointer (some ⟨W2.heap.size, 0, none⟩), .pointer (some ⟨W2.heap.size + 1, 0, none⟩)], .agg #[.int .i64 y.1, .int .i32 y.2.1, .int .i64 y.2.2], undef, undef, undef, undef], defers := [] } ∧ W.heap[Bq]? = some (.cells #[.int .i64 y.1, .int .i32 y.2.1, .int .i64 y.2.2] 160)) ?hAx2 ?assign2 ?body2 ?done2 ?stop2
    case hI2 =>
      intro s A B h st
      exact h.it st (by omega) (by omega) (by omega) hu
    case hIx2 => intro c s A B h; exact h.elim
    case hN2 =>
      intro s A h
      exact ⟨⟨ht.below h.i.low, h.e, h.b⟩, fun k hk => (h.i.bd.mem k hk).2⟩
    case hAx2 =>
      rintro y a' A L r' o ⟨Bq, h1, h2⟩ hl
      refine ⟨Bq, h1, ?_⟩
      rw [World.putObj_heap_other (fun e => by rw [e, hl] at h2; cases h2)]
      exact h2
    case assign2 =>
      intro l A y W K hszW hi hK
      dsimp only [encAt]
      gi_wp2
      have hbw : Below W.heap.size W (W.alloc (.cells #[.int .i64 y.1, .int .i32 y.2.1, .int .i64 y.2.2] 160)) := (Below.refl _ _).alloc (Nat.le_refl _) _
      have stw : ItStep (MB (w.heap.size + 1)) W.heap.size W (W.alloc (.cells #[.int .i64 y.1, .int .i32 y.2.1, .int .i64 y.2.2] 160)) := ItStep.of_below hbw (Nat.le_refl _) (fun k hk => (hi.i.bd.mem k hk).2)
      exact hK _ _ (BodyStep.of_below (mb_low (by omega)) hbw (by omega)) (hi.it stw (by omega) (by omega) hi.sz hu) ⟨W.heap.size, rfl, Go.Deep.blk_alloc_new _ _⟩
    case body2 =>
      rintro l3 A y a' W hszW ⟨r3, hr3⟩ hl3 hi ⟨Bq, rfl, hq⟩ hpreA
      have q1 : W.cell? ⟨Bq, 1, none⟩ = some (.int .i32 y.2.1) := by rw [Lib.cell_of_heap hq]; rfl
      have hbq := heap_lt hq
      have hv : Vm.validB y.2.1 = true := (HCH.out y (hpreA.subset (by simp))).1
      have hle := HLEN.out A ((List.prefix_append _ _).trans hpreA)
      have htl := txCells_len (atB enc pre ++ A)
      have HW := hide (bld_rune (w.heap.size + 1) (w.heap.size + 1) (txCells (atB enc pre ++ A)) y.2.1 hv W hi.i.bd (by omega) (by omega))
      have HII := hide hi
      clear hi hpreA hq hle htl
      gi_wp2_with fail
      refine ⟨trivial, (CallsIn.inRound l3 (callsIn_wide.2 HW.out)).mono ?_⟩
      rintro e W3 ⟨⟨v, rfl⟩, hd3, hg3⟩
      have HX := hide (HII.out.gr (a := y) hd3 hg3 (by omega) (by omega) (by omega) hu)
      have HG := hide (hg3.body (lo := w4.heap.size) (by omega))
      clear hd3 hg3 HW
      gi_wp2
      exact ⟨HG.out, HX.out⟩
    case done2 =>
      intro W hszW hi
      have HX := hide (show TxO w enc mark n tail w2.heap.size (pre ++ [x]) W from ⟨by rw [atB_snoc]; exact hi.i, hi.n1, by have := hi.sz; omega⟩)
      have HBS := hide hi.bs
      clear hi
      gi_wp2
      exact ⟨HBS.out, HX.out⟩
    case stop2 => intro c pre W h1 h2 h; exact h.elim
  case done =>
    rintro W hszW ⟨hi, hn1, hn2⟩ hd hmd
    rw [atB_row] at hi
    have htx : txCells (rowA enc R) = Lib.byteCells (numsB (Vm.textL (rowA enc R))) := txCells_text (by rw [← atB_row]; exact atB_ch enc _)
    have hbd := hi.bd
    rw [htx] at hbd
    have HS := hide (bld_string_k (w.heap.size + 1) (w.heap.size + 1) (numsB (Vm.textL (rowA enc R))) W hbd (by omega))
    have HL := hide hi.low
    clear hi hbd htx
    gi_wp2_with fail
    refine ⟨trivial, (callsIn_wide.2 HS.out).mono ?_⟩
    rintro e W3 ⟨rfl, hb3', hk3⟩
    have hK3 := hk3 w3.heap.size _ (by omega) hd
    have HB3 := hide (HL.out.trans (hb3'.mono (by omega)))
    clear hk3 hb3' HS
    gi_wp2
    rw [hs3] at hK3
    refine ⟨by simp, .inl ⟨_, _, rfl, run_takeDeferred hK3, ?_⟩⟩
    refine ⟨.string ⟨(numsB (Vm.textL (rowA enc R))).toArray⟩, by simp [results, Tryz.results64, go_sem], ?_, ?_⟩
    · rw [str_numsB]
    · have hz := HB3.out
      exact ⟨hz.os, hz.tape, hz.output, by simpa using hz.size, fun k hk => (World.putObj_heap_other (by omega)).trans (hz.block k hk)⟩
  case stop => intro c pre W h1 h2 h; exact h.elim
end Go.Proofs.YtjbfgnhkgjigpaaGreatDoor
